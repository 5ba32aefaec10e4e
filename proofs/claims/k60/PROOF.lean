import PyProof.Rows.All
import Wide.All
import OpenK.AllK
import Wide.FinOn
import Lean
import PyProof.EqAt
import PyProof.EqKinds
import PyProof.TupleCall
import PySem.Challenge.RW_apart_k60_told_where_sections_begin
set_option Elab.async false
set_option linter.all false
set_option maxRecDepth 100000
namespace L2
open PySem PySem.Spec PyProof.Rows
abbrev Key := Sum Int Str
noncomputable def keyIs : Key → Value → Bool
  | .inl k, v => Value.isInt k v
  | .inr x, v => Value.isStrOf x v
noncomputable def keyH (w : World) : Key → Int
  | .inl k => hashInt k
  | .inr x => hashStr w x
theorem keyIs_shape : ∀ {k : Key} {v : Value}, keyIs k v = true → (∃ i t, k = Sum.inl i ∧ v = Value.int i t) ∨ (∃ x t, k = Sum.inr x ∧ v = Value.str x t)
  | .inl i, v, h => by
    obtain ⟨t, e⟩ := Value.isInt_shape (k := i) (v := v) h
    exact .inl ⟨i, t, rfl, e⟩
  | .inr x, v, h => by
    obtain ⟨t, e⟩ := Value.isStrOf_shape (x := x) (v := v) h
    exact .inr ⟨x, t, rfl, e⟩
theorem keyIs_int (i : Int) (t : Tok) : keyIs (.inl i) (.int i t) = true := by simp [keyIs, Value.isInt]
theorem keyIs_str (x : Str) (t : Tok) : keyIs (.inr x) (.str x t) = true := by simp [keyIs, Value.isStrOf]
theorem key_ll (a b : Int) : decide ((Sum.inl a : Key) = Sum.inl b) = (a == b) := by
  by_cases e : a = b
  · subst e; simp
  · have h : ¬ (Sum.inl a : Key) = Sum.inl b := fun q => e (Sum.inl.inj q)
    rw [decide_eq_false h]
    exact (beq_eq_false_iff_ne.mpr e).symm
theorem key_rr (a b : Str) : decide ((Sum.inr a : Key) = Sum.inr b) = decide (a = b) := by
  by_cases e : a = b
  · subst e; simp
  · have h : ¬ (Sum.inr a : Key) = Sum.inr b := fun q => e (Sum.inr.inj q)
    rw [decide_eq_false h, decide_eq_false e]
theorem key_lr (a : Int) (b : Str) : decide ((Sum.inl a : Key) = Sum.inr b) = false := decide_eq_false (fun q => nomatch q)
theorem key_rl (a : Str) (b : Int) : decide ((Sum.inr a : Key) = Sum.inl b) = false := decide_eq_false (fun q => nomatch q)
noncomputable def mixKind (prog : Program) (w : World) : PySem.KeyKind prog w Key where
  is := keyIs
  hash := keyH w
  inj := fun v a b ha hb => by
    rcases keyIs_shape ha with ⟨i, t, rfl, rfl⟩ | ⟨x, t, rfl, rfl⟩
    · rcases keyIs_shape hb with ⟨j, u, rfl, e⟩ | ⟨y, u, rfl, e⟩
      · injection e with e1 _; rw [e1]
      · exact nomatch e
    · rcases keyIs_shape hb with ⟨j, u, rfl, e⟩ | ⟨y, u, rfl, e⟩
      · exact nomatch e
      · injection e with e1 _; rw [e1]
  byValue := fun k v h => by
    rcases keyIs_shape h with ⟨i, t, rfl, rfl⟩ | ⟨x, t, rfl, rfl⟩ <;> rfl
  pyHash := fun hv h => by
    rcases keyIs_shape hv with ⟨i, t, rfl, rfl⟩ | ⟨x, t, rfl, rfl⟩
    · exact wpAny_pyHash_int h
    · exact wpAny_pyHash_str h
  eqBool := fun hu hv h => by
    rcases keyIs_shape hu with ⟨i, t, rfl, rfl⟩ | ⟨x, t, rfl, rfl⟩
    · rcases keyIs_shape hv with ⟨j, u, rfl, rfl⟩ | ⟨y, u, rfl, rfl⟩
      · rw [key_ll] at h; exact wpAny_eqBool_int h
      · rw [key_lr] at h; exact SeqAt.EqAt.int_str i t y u _ _ _ _ h
    · rcases keyIs_shape hv with ⟨j, u, rfl, rfl⟩ | ⟨y, u, rfl, rfl⟩
      · rw [key_rl] at h; exact SeqAt.EqAt.str_int x t j u _ _ _ _ h
      · rw [key_rr] at h; exact wpAny_eqBool_str h
  «strs» := fun k x t v h => by
    rcases keyIs_shape h with ⟨i, u, rfl, e⟩ | ⟨y, u, rfl, e⟩
    · exact nomatch e
    · injection e with e1 _
      subst e1
      cases v <;> rfl
theorem mixKind_int (prog : Program) (w : World) (i : Int) (t : Tok) : (mixKind prog w).is (.inl i) (.int i t) = true := keyIs_int i t
theorem mixKind_str (prog : Program) (w : World) (x : Str) (t : Tok) : (mixKind prog w).is (.inr x) (.str x t) = true := keyIs_str x t
end L2
namespace L2
open PySem PySem.Spec PyProof.Rows
inductive V where
  | non | bl (b : Bool) | int (i : Int) | str (x : Str) | byt (b : Array UInt8) | flt (b : UInt64) | ref (a : Addr) | ty (n : String)
  deriving DecidableEq
noncomputable def RelV : V → Value → Prop
  | .non, u => u = Value.none
  | .bl b, u => u = Value.bool b
  | .int i, u => ∃ t, u = Value.int i t
  | .str x, u => ∃ t, u = Value.str x t
  | .byt b, u => ∃ t, u = Value.bytes b t
  | .flt b, u => ∃ t, u = Value.float b t
  | .ref a, u => u = Value.ref a
  | .ty n, u => u = Value.type n
abbrev Vals : List V → List Value → Prop := Paired RelV
theorem Vals.length {xs : List V} {us : List Value} (r : Vals xs us) : xs.length = us.length := Paired.length r
theorem Vals.get : ∀ {xs : List V} {us : List Value} {i : Nat} {x : V}, Vals xs us → xs[i]? = some x → ∃ u, us[i]? = some u ∧ RelV x u
  | _, _, _, _, .nil, e => by simp at e
  | _, _, 0, _, .cons r _, e => by simp at e; subst e; exact ⟨_, rfl, r⟩
  | _, _, i + 1, x, .cons _ t, e => by
    obtain ⟨u, h1, h2⟩ := Vals.get (i := i) (x := x) t (by simpa using e)
    exact ⟨u, by simpa using h1, h2⟩
theorem Vals.append : ∀ {xs ys : List V} {us ws : List Value}, Vals xs us → Vals ys ws → Vals (xs ++ ys) (us ++ ws)
  | _, _, _, _, .nil, s => s
  | _, _, _, _, .cons r t, s => .cons r (Vals.append t s)
theorem Vals.take : ∀ {xs : List V} {us : List Value} (n : Nat), Vals xs us → Vals (xs.take n) (us.take n)
  | _, _, 0, _ => .nil
  | _, _, _ + 1, .nil => .nil
  | _, _, n + 1, .cons r t => .cons r (Vals.take n t)
theorem Vals.drop : ∀ {xs : List V} {us : List Value} (n : Nat), Vals xs us → Vals (xs.drop n) (us.drop n)
  | _, _, 0, r => r
  | _, _, _ + 1, .nil => .nil
  | _, _, n + 1, .cons _ t => Vals.drop n t
noncomputable def RelO : Option V → Option Value → Prop
  | some v, some u => RelV v u
  | none, none => True
  | _, _ => False
noncomputable def KV {κ : Type} : List (κ × V) → List (κ × Value) → Prop := Paired fun (p : κ × V) (q : κ × Value) => p.1 = q.1 ∧ RelV p.2 q.2
noncomputable def kV : Key → V
  | .inl i => .int i
  | .inr x => .str x
inductive HO where
  /-- a list -/
  | lst (xs : List V)
  /-- a tuple (never changes) -/
  | tup (xs : List V)
  /-- a dict whose keys are ints and texts; one whose keys are tuples of ints and texts (the empty one is both) -/
  | dK (kvs : List (Key × V)) | dT (kvs : List (List Key × V))
  /-- a set of ints: its members, its size -/
  | set (S : Int → Bool) (n : Nat)
  /-- an instance of the class at C, its dict at dx, its attributes -/
  | ins (C dx : Addr) (fs : List (Str × V))
  /-- the dict of the instance at x -/
  | own (x : Addr)
  /-- the dict of an exception -/
  | xd (fs : List (Str × V))
  /-- a bound method, f of x -/
  | met (f x : Addr)
  /-- a range object lo, lo + 1, .. below hi -/
  | rng (lo hi : Int)
  /-- a thing that is known to the object (the script; a dict while a loop walks it): read, never written while it is so -/
  | frz (o : Obj) (u : HO)
  /-- a code object's table -/
  | tbl (ps : Array Value)
  /-- any other thing, by what is true of its one object (a def of one's own: SetO a S n := HO.ext fun h => ..) -/
  | ext (φ : Heap → Prop)
abbrev Hp := Addr → Option HO
noncomputable def upd (H : Hp) (a : Addr) (o : HO) : Hp := fun b => if b = a then some o else H b
theorem upd_same {H : Hp} {a : Addr} {o : HO} : upd H a o a = some o := by unfold upd; rw [if_pos rfl]
theorem upd_ne {H : Hp} {a b : Addr} {o : HO} (h : b ≠ a) : upd H a o b = H b := by unfold upd; rw [if_neg h]
theorem ne_of {H : Hp} {a b : Addr} {o u : HO} (h : H a = some o) (h' : H b = some u) (d : o ≠ u) : a ≠ b := by
  intro e; subst e; rw [h] at h'; exact d (Option.some.inj h')
theorem ne_of_none {H : Hp} {a b : Addr} {o : HO} (h : H a = some o) (h' : H b = none) : a ≠ b := by
  intro e; subst e; rw [h] at h'; cases h'
section
variable (P : Program) (w : World)
noncomputable def ObjOk (H : Hp) (h : Heap) (a : Addr) : HO → Prop
  | .lst xs => xs.length ≤ sizeLine ∧ ∃ (its : List Value) (n : Nat), Vals xs its ∧ h.get? a = some { cls := .type "list", data := .seq its.toArray n }
  | .tup xs => xs.length ≤ sizeLine ∧ ∃ its : List Value, Vals xs its ∧ IsTup h a its.toArray
  | .dK kvs => kvs.length ≤ sizeLine ∧ (a == sysModules) = false ∧ ∃ vs, KV kvs vs ∧ h.DictOf (mixKind P w) a vs
  | .dT kvs => kvs.length ≤ sizeLine ∧ (a == sysModules) = false ∧ ∃ xs : List (List Key × Addr × Value),
      Paired (fun (p : List Key × V) (q : List Key × Addr × Value) => p.1 = q.1 ∧ H q.2.1 = some (.tup (p.1.map kV)) ∧ RelV p.2 q.2.2) kvs xs ∧
      ∃ o es ep, h.get? a = some o ∧ o.ExactDict ∧ o.data = .dict es ep ∧ es.toList = xs.map (entryOfKey (tupleKind (mixKind P w))) ∧ (xs.map (·.1)).Nodup
  | .set S n => h.SetOf (intKind P w) a S n
  | .ins C dx fs => H dx = some (.own a) ∧ fs.length ≤ 1000 ∧ dx ≠ a ∧ h.get? a = some (PySem.W.instObj C dx) ∧
      ∃ mA, h.Ns1 dx mA ∧ (∀ f, RelO (fs.lookup f) (mA f)) ∧ PySem.Within mA (fs.map (·.1))
  | .own _ => ∃ o, h.get? a = some o
  | .xd fs => ∃ mA, h.Ns1 a mA ∧ ∀ f, RelO (fs.lookup f) (mA f)
  | .rng lo hi => ∃ t u v, h.get? a = some { cls := .type "range", data := .fields #[.int lo t, .int hi u, .int 1 v] }
  | .frz o u => h.get? a = some o ∧ ObjOk H h a u
  | .tbl ps => h.get? a = some { cls := .none, data := .fields ps }
  | .met f x => h.get? a = some (PySem.W.methodObj (.ref f) (.ref x))
  | .ext φ => φ h ∧ (∃ o, h.get? a = some o) ∧ ∀ h1 h2 : Heap, φ h1 → (∀ o, h1.get? a = some o → h2.get? a = some o) → φ h2
noncomputable def HOk (H : Hp) (h : Heap) : Prop := ∀ a o, H a = some o → ObjOk P w H h a o
end
section
variable {P : Program} {w : World} {H H' : Hp} {h h' : Heap} {a : Addr} {o : HO}
theorem ObjOk.lt (x : ObjOk P w H h a o) : a < h.objs.size := by
  cases o with
  | lst xs => obtain ⟨_, _, _, _, e⟩ := x; exact Heap.lt_size e
  | tup xs => obtain ⟨_, _, _, p⟩ := x; exact p.lt
  | dK kvs => obtain ⟨_, _, _, _, o, _, _, e, _⟩ := x; exact Heap.lt_size e
  | dT kvs => obtain ⟨_, _, _, _, o, _, _, e, _⟩ := x; exact Heap.lt_size e
  | set S n => obtain ⟨o, _, _, _, e, _⟩ := x; exact Heap.lt_size e
  | ins C dx fs => obtain ⟨_, _, _, e, _⟩ := x; exact Heap.lt_size e
  | own y => obtain ⟨_, e⟩ := x; exact Heap.lt_size e
  | xd fs => obtain ⟨_, ⟨_, _, _, e, _⟩, _⟩ := x; exact Heap.lt_size e
  | rng lo hi => obtain ⟨_, _, _, e⟩ := x; exact Heap.lt_size e
  | frz ob u => obtain ⟨e, _⟩ := x; exact Heap.lt_size e
  | tbl ps => exact Heap.lt_size (show h.get? a = some _ from x)
  | met f y => exact Heap.lt_size (show h.get? a = some _ from x)
  | ext φ => obtain ⟨_, ⟨_, e⟩, _⟩ := x; exact Heap.lt_size e
theorem Paired.mapP {α β : Type} {F G : α → β → Prop} : ∀ {l₁ : List α} {l₂ : List β}, Paired F l₁ l₂ → (∀ a b, F a b → G a b) → Paired G l₁ l₂
  | _, _, .nil, _ => .nil
  | _, _, .cons r t, f => .cons (f _ _ r) (Paired.mapP t f)
theorem ObjOk.stay (x : ObjOk P w H h a o) (k : ∀ b u, (b = a ∨ H b = some (.own a)) → h.get? b = some u → h'.get? b = some u)
    (ho : ∀ b, H b = some (.own a) → H' b = some (.own a)) (ht : ∀ b xs, H b = some (.tup xs) → H' b = some (.tup xs)) : ObjOk P w H' h' a o := by
  induction o with
  | lst xs => obtain ⟨z, its, n, r, e⟩ := x; exact ⟨z, its, n, r, k _ _ (.inl rfl) e⟩
  | tup xs => obtain ⟨z, its, r, ob, e, c⟩ := x; exact ⟨z, its, r, ob, k _ _ (.inl rfl) e, c⟩
  | dK kvs => obtain ⟨z, y, vs, r, ob, es, ep, e, c⟩ := x; exact ⟨z, y, vs, r, ob, es, ep, k _ _ (.inl rfl) e, c⟩
  | dT kvs =>
    obtain ⟨z, y, xs, r, ob, es, ep, e, c⟩ := x
    exact ⟨z, y, xs, Paired.mapP r fun p q z => ⟨z.1, ht _ _ z.2.1, z.2.2⟩, ob, es, ep, k _ _ (.inl rfl) e, c⟩
  | set S n => obtain ⟨ob, es, ep, t, e, c⟩ := x; exact ⟨ob, es, ep, t, k _ _ (.inl rfl) e, c⟩
  | ins C dx fs =>
    obtain ⟨d, z, ne, e, mA, ⟨od, es, ep, e2, c⟩, r⟩ := x
    exact ⟨ho _ d, z, ne, k _ _ (.inl rfl) e, mA, ⟨od, es, ep, k _ _ (.inr d) e2, c⟩, r⟩
  | own y => obtain ⟨ob, e⟩ := x; exact ⟨ob, k _ _ (.inl rfl) e⟩
  | xd fs => obtain ⟨mA, ⟨od, es, ep, e, c⟩, r⟩ := x; exact ⟨mA, ⟨od, es, ep, k _ _ (.inl rfl) e, c⟩, r⟩
  | rng lo hi => obtain ⟨t, u, v, e⟩ := x; exact ⟨t, u, v, k _ _ (.inl rfl) e⟩
  | frz ob u ih => obtain ⟨e, q⟩ := x; exact ⟨k _ _ (.inl rfl) e, ih q⟩
  | tbl ps =>
    have e : h.get? a = some { cls := .none, data := .fields ps } := x
    show h'.get? a = some { cls := .none, data := .fields ps }
    exact k a _ (.inl rfl) e
  | met f y =>
    have e : h.get? a = some (PySem.W.methodObj (.ref f) (.ref y)) := x
    show h'.get? a = some (PySem.W.methodObj (.ref f) (.ref y))
    exact k a _ (.inl rfl) e
  | ext φ => obtain ⟨p, ⟨o, e⟩, st⟩ := x; exact ⟨st _ _ p fun o q => k _ _ (.inl rfl) q, ⟨o, k _ _ (.inl rfl) e⟩, st⟩
theorem HOk.lt (x : HOk P w H h) (e : H a = some o) : a < h.objs.size := (x a o e).lt
theorem HOk.fresh (x : HOk P w H h) (e : h.objs.size ≤ a) : H a = none := by
  cases q : H a with
  | none => rfl
  | some u => exact absurd (Nat.lt_of_lt_of_le (x.lt q) e) (Nat.lt_irrefl _)
theorem HOk.kept (x : HOk P w H h) (k : ∀ b u, h.get? b = some u → h'.get? b = some u) : HOk P w H h' := fun a o e =>
  (x a o e).stay (fun b u _ q => k b u q) (fun _ q => q) fun _ _ q => q
theorem HOk.laid (x : HOk P w H h) (k : ∀ b u, h.get? b = some u → h'.get? b = some u) (hp : h.objs.size ≤ a) (new : ObjOk P w (upd H a o) h' a o) : HOk P w (upd H a o) h' := fun b u e => by
  have hn := x.fresh hp
  by_cases hb : b = a
  · subst hb; rw [upd_same] at e; cases e; exact new
  · rw [upd_ne hb] at e
    exact (x b u e).stay (fun c v _ q => k c v q) (fun c q => by rw [upd_ne (ne_of_none q hn)]; exact q) fun c xs q => by rw [upd_ne (ne_of_none q hn)]; exact q
end
noncomputable def Rd (H : Hp) (a : Addr) (u : HO) : Prop := H a = some u ∨ ∃ o, H a = some (.frz o u)
theorem Rd.ok {P : Program} {w : World} {H : Hp} {h : Heap} {a : Addr} {u : HO} (r : Rd H a u) (x : HOk P w H h) : ObjOk P w H h a u := by
  rcases r with r | ⟨o, r⟩
  · exact x a u r
  · obtain ⟨_, q⟩ := x a _ r
    exact q
noncomputable def Mut : Option HO → Prop
  | some (.lst _) => True
  | some (.dK _) => True
  | some (.dT _) => True
  | some (.set _ _) => True
  | some (.ins _ _ _) => True
  | some (.ext _) => True
  | _ => False
section
variable {P : Program} {w : World} {H : Hp} {h h' : Heap} {x e : Addr} {o' : HO}
theorem HOk.write (ok : HOk P w H h) (mu : Mut (H x)) (he : e = x ∨ H e = some (.own x)) (k : ∀ b u, b ≠ e → h.get? b = some u → h'.get? b = some u) (heo : ∃ u, h'.get? e = some u)
    (new : ObjOk P w (upd H x o') h' x o') : HOk P w (upd H x o') h' := fun b u q => by
  have nown : ∀ c y, H c = some (.own y) → c ≠ x := fun c y r z => by subst z; rw [r] at mu; exact mu
  have ntup : ∀ c xs, H c = some (.tup xs) → c ≠ x := fun c xs r z => by subst z; rw [r] at mu; exact mu
  by_cases hb : b = x
  · subst hb; rw [upd_same] at q; cases q; exact new
  · rw [upd_ne hb] at q
    by_cases hbe : b = e
    · have q' : H b = some (.own x) := by
        rcases he with z | z
        · exact absurd (hbe.trans z) hb
        · rw [hbe]; exact z
      rw [q] at q'; cases q'
      obtain ⟨v, hv⟩ := heo
      exact ⟨v, by rw [hbe]; exact hv⟩
    · refine (ok b u q).stay (fun c v hc r => k c v ?_ r) (fun c r => by rw [upd_ne (nown c b r)]; exact r) fun c xs r => by rw [upd_ne (ntup c xs r)]; exact r
      rcases hc with rfl | hc
      · exact hbe
      · rintro rfl
        rcases he with z | z
        · exact nown c b hc z
        · rw [hc] at z; cases z; exact hb rfl
end
structure Un (fs ex : List Addr) (H H' : Hp) (h h' : Heap) : Prop where
  keep : ∀ b o, h.get? b = some o → H b = none → b ∉ fs → b ∉ ex → h'.get? b = some o
  slot : ∀ b o, h.get? b = some o → H b = none → b ∈ fs → b ∉ ex → ∃ sl, h'.get? b = some { o with slots := sl }
  free : ∀ b o, h.get? b = some o → H b = none → b ∉ ex → H' b = none
  there : ∀ b o, h.get? b = some o → b ∉ ex → ∃ o', h'.get? b = some o'
  tups : ∀ b xs, H b = some (.tup xs) → H' b = some (.tup xs)
  frzs : ∀ b o u, H b = some (.frz o u) → H' b = some (.frz o u)
  tbls : ∀ b ps, H b = some (.tbl ps) → ∃ more, H' b = some (.tbl (ps ++ more))
section
variable {fs fs' ex ex' : List Addr} {H H1 H2 : Hp} {h h1 h2 h' : Heap} {a x e : Addr} {o : HO}
theorem Un.any (u : Un fs ex H H1 h h1) {b : Addr} {ob : Obj} (q : h.get? b = some ob) (n : H b = none) (hx : b ∉ ex) : ∃ sl, h1.get? b = some { ob with slots := sl } := by
  by_cases hb : b ∈ fs
  · exact u.slot b ob q n hb hx
  · exact ⟨ob.slots, u.keep b ob q n hb hx⟩
theorem Un.kept (k : ∀ b u, h.get? b = some u → h'.get? b = some u) : Un fs ex H H h h' :=
  ⟨fun b ob q _ _ _ => k b ob q, fun b ob q _ _ _ => ⟨ob.slots, k b ob q⟩, fun _ _ _ n _ => n, fun b ob q _ => ⟨ob, k b ob q⟩, fun _ _ q => q, fun _ _ _ q => q, fun _ ps q => ⟨#[], by rw [q]; simp⟩⟩
theorem Un.refl : Un fs ex H H h h := Un.kept fun _ _ q => q
theorem Un.laid (k : ∀ b u, h.get? b = some u → h'.get? b = some u) (hp : h.objs.size ≤ a) (hn : H a = none) : Un fs ex H (upd H a o) h h' where
  keep := fun b u q _ _ _ => k b u q
  slot := fun b u q _ _ _ => ⟨u.slots, k b u q⟩
  free := fun b u q n _ => by rw [upd_ne (Nat.ne_of_lt (Nat.lt_of_lt_of_le (Heap.lt_size q) hp))]; exact n
  there := fun b u q _ => ⟨u, k b u q⟩
  tups := fun b xs q => by rw [upd_ne (ne_of_none q hn)]; exact q
  frzs := fun b u xs q => by rw [upd_ne (ne_of_none q hn)]; exact q
  tbls := fun b ps q => ⟨#[], by rw [upd_ne (ne_of_none q hn), q]; simp⟩
theorem Un.write (mu : Mut (H x)) (he : e = x ∨ H e = some (.own x)) (k : ∀ b u, b ≠ e → h.get? b = some u → h'.get? b = some u) (heo : ∃ u, h'.get? e = some u) : Un fs ex H (upd H x o) h h' := by
  have hx : ∀ b, H b = none → b ≠ x := fun b n z => by subst z; rw [n] at mu; exact mu
  have hb : ∀ b, H b = none → b ≠ e := fun b n z => by
    subst z
    rcases he with r | r
    · exact hx b n r
    · rw [n] at r; cases r
  have hm : ∀ b u, H b = some u → ¬ Mut (some u) → b ≠ x := fun b u q nm z => by subst z; rw [q] at mu; exact nm mu
  refine ⟨fun b u q n _ _ => k b u (hb b n) q, fun b u q n _ _ => ⟨u.slots, k b u (hb b n) q⟩, fun b u q n _ => by rw [upd_ne (hx b n)]; exact n, fun b u q _ => ?_,
    fun b xs q => by rw [upd_ne (hm b _ q fun z => z)]; exact q, fun b u xs q => by rw [upd_ne (hm b _ q fun z => z)]; exact q, fun b ps q => ⟨#[], by rw [upd_ne (hm b _ q fun z => z), q]; simp⟩⟩
  by_cases hbe : b = e
  · subst hbe; exact heo
  · exact ⟨u, k b u hbe q⟩
end
noncomputable def trk (h : Heap) (H : Hp) : List Addr := (List.range h.objs.size).filter fun a => (H a).isSome
noncomputable def hidT (h : Heap) (H : Hp) : Heap := PySem.W.hideAll h (trk h H)
theorem hidT_size (h : Heap) (H : Hp) : (hidT h H).objs.size = h.objs.size := PySem.W.hideAll_size _ _
theorem hidT_get {h : Heap} {H : Hp} {b : Addr} {o : Obj} (e : h.get? b = some o) (n : H b = none) : (hidT h H).get? b = some o :=
  PySem.W.hideAll_get _ e fun hm => by
    have q : (H b).isSome = true := (List.mem_filter.mp hm).2
    rw [n] at q; simp at q
theorem of_hidT {h : Heap} {H : Hp} {b : Addr} {o : Obj} (e : (hidT h H).get? b = some o) : h.get? b = some o ∧ H b = none := by
  have e' : h.get? b = some o := PySem.W.of_hideAll (trk h H) e
  refine ⟨e', ?_⟩
  cases q : H b with
  | none => rfl
  | some x =>
    have hm : b ∈ trk h H := List.mem_filter.mpr ⟨List.mem_range.mpr (Heap.lt_size e'), by simp [q]⟩
    have z : (hidT h H).get? b = none := PySem.W.hideAll_none (trk h H) hm
    rw [z] at e; cases e
noncomputable def allNews (g h : Heap) (L : Addr) : List (Addr × Obj) := (List.range h.objs.size).filterMap fun a => if a = L ∨ (g.get? a).isSome = true then none else (h.get? a).map fun o => (a, o)
noncomputable def rest (g h : Heap) (L d : Addr) : List (Addr × Obj) := (allNews g h L).filter fun p => decide (p.1 ≠ d)
end L2
namespace L2
open PySem PySem.Spec PyProof.Rows
structure Mod (K : PySem.W.Frag) (mg : Str → Option Value) (base : Heap) : Prop where
  kin : K.In base
  glob : base.Ns mainGlobals mg
  blt : ∃ mb, base.Ns builtinsNs mb ∧ ∀ x : Str, x ≠ "__name__" → mb x = bootBuiltins x
  nolimit : base.NoLimit
structure Cx where
  prog : Program
  w : World
  K : PySem.W.Frag
  mg : Str → Option Value
  base : Heap
  A : Around
  N : List Str
  s₀ : Shared
  H₀ : Hp
  env : Env
  outer : List Env
  stack : List Env
  ex : List Addr
  fn : Str → Bool
  calm : Bool
  pn : List (Addr × Obj)
  xe : Value → Shared → Prop
noncomputable def frs (l : List Env) : List Addr := l.filterMap (·.frame)
noncomputable abbrev Cx.fs (X : Cx) : List Addr := frs X.outer
noncomputable def Vis (sc : Scope) (x : Str) : Prop := sc.names.lookup x = some .local ∨ sc.names.lookup x = some .cell ∨ sc.names.lookup x = some .free
noncomputable def Loc (sc : Scope) (x : Str) : Prop := sc.names.lookup x = some .local ∨ sc.names.lookup x = some .cell
noncomputable def Look (env : Env) (h : Heap) (m : Str → Option Value) (x : Str) (u : Value) : Prop :=
  (env.kindOf x = some .local ∧ m x = some u) ∨ ((env.kindOf x = some .cell ∨ env.kindOf x = some .free) ∧ ∃ c, env.cells.lookup x = some c ∧ h.IsCell c (some u))
structure Cx.Ok (X : Cx) : Prop where
  mod : Mod X.K X.mg X.base
  kind : X.env.scope.kind = .function
  glob : X.env.globals = mainGlobals
  blt : X.env.builtins = builtinsNs
  above : X.s₀.heap.objs.size ≤ X.env.locals
  inj : ∀ x y c, X.env.cells.lookup x = some c → X.env.cells.lookup y = some c → x = y
  has : ∀ x, (X.env.kindOf x = some .cell ∨ X.env.kindOf x = some .free) → ∃ c, X.env.cells.lookup x = some c
  cab : ∀ x c, X.fn x = true → X.env.cells.lookup x = some c → X.s₀.heap.objs.size ≤ c
  hd : X.calm = true → X.A.handled = none
  frames : X.A.frames = some X.stack
  stk : X.stack = X.outer ∨ (X.stack = X.env :: X.outer ∧ X.env.frame = some X.env.locals)
  exf : ∀ b ∈ X.ex, b ≠ X.env.locals ∧ ∀ x c, X.env.cells.lookup x = some c → c ≠ b
  bs : ∀ b o, X.base.get? b = some o → X.s₀.heap.get? b = some o ∧ X.H₀ b = none
  bsz : X.base.objs.size ≤ X.s₀.heap.objs.size
  noex : ∀ b o, X.base.get? b = some o → b ∉ X.ex
  exfs : ∀ b ∈ X.ex, b ∉ X.fs
  funs : X.s₀.heap.FunFrames X.base X.outer
  frf : ∀ b ∈ X.fs, X.H₀ b = none
structure Inv (X : Cx) (pins : List (Addr × Obj)) (σ : List (Option V)) (H : Hp) (s : Shared) : Prop where
  ok : X.Ok
  os : s.os = X.s₀.os
  bare : AllBare s.gens
  base : Un X.fs X.ex X.H₀ H X.s₀.heap s.heap
  loc : ∃ m, s.heap.Ns X.env.locals m ∧ ∀ (i : Nat) (x : Str) (v : V), X.N[i]? = some x → σ[i]? = some (some v) → Vis X.env.scope x → ∃ u, RelV v u ∧ Look X.env s.heap m x u
  cell : ∀ x c, X.env.cells.lookup x = some c → ∃ v, s.heap.IsCell c v
  free : H X.env.locals = none
  freeC : ∀ x c, X.env.cells.lookup x = some c → H c = none
  pin : ∀ p ∈ X.pn ++ pins, s.heap.get? p.1 = some p.2 ∧ H p.1 = none ∧ p.1 ≠ X.env.locals ∧ p.1 ∉ X.fs ∧ ∀ v, p.2.data ≠ .cell v
  hok : HOk X.prog X.w H s.heap
  len : σ.length = X.N.length
section
variable {X : Cx} {pins : List (Addr × Obj)} {σ : List (Option V)} {H H' : Hp} {s : Shared} {h' : Heap}
theorem Cx.Ok.nofr (ok : X.Ok) {b : Addr} {o : Obj} (e : X.base.get? b = some o) : b ∉ X.fs := fun hb => by
  have := (ok.funs.mem hb).1
  rw [e] at this; cases this
theorem Inv.bs (I : Inv X pins σ H s) : ∀ b o, X.base.get? b = some o → s.heap.get? b = some o ∧ H b = none := fun b o e =>
  ⟨I.base.keep b o (I.ok.bs b o e).1 (I.ok.bs b o e).2 (I.ok.nofr e) (I.ok.noex b o e), I.base.free b o (I.ok.bs b o e).1 (I.ok.bs b o e).2 (I.ok.noex b o e)⟩
theorem Inv.bk (I : Inv X pins σ H s) : ∀ b o, X.base.get? b = some o → s.heap.get? b = some o := fun b o e => (I.bs b o e).1
theorem Inv.mod (I : Inv X pins σ H s) : Mod X.K X.mg X.base := I.ok.mod
theorem Inv.kIn (I : Inv X pins σ H s) : X.K.In s.heap := I.ok.mod.kin.keeps I.bk
theorem Inv.lt (I : Inv X pins σ H s) : X.env.locals < s.heap.objs.size := let ⟨_, hn, _⟩ := I.loc; hn.lt
theorem Inv.sz (I : Inv X pins σ H s) : X.s₀.heap.objs.size ≤ s.heap.objs.size := Nat.le_trans I.ok.above (Nat.le_of_lt I.lt)
theorem Inv.nofs (I : Inv X pins σ H s) {a : Addr} (h : s.heap.objs.size ≤ a) : a ∉ X.fs := fun hb => by
  obtain ⟨_, o, ho, _⟩ := I.ok.funs.mem hb
  exact absurd (Nat.lt_of_lt_of_le (Heap.lt_size ho) (Nat.le_trans I.sz h)) (Nat.lt_irrefl _)
theorem Inv.cne (I : Inv X pins σ H s) : ∀ x c, X.env.cells.lookup x = some c → c ≠ X.env.locals := fun x c e z => by
  obtain ⟨v, o, ho, hd⟩ := I.cell x c e
  obtain ⟨m, ⟨o', es, ep, ho', hd', _⟩, _⟩ := I.loc
  rw [z, ho'] at ho; cases ho; rw [hd'] at hd; cases hd
theorem Inv.funs (I : Inv X pins σ H s) : s.heap.FunFrames X.base X.outer := by
  have all : ∀ (l : List Env), (∀ b ∈ frs l, b ∈ X.fs) → X.s₀.heap.FunFrames X.base l → s.heap.FunFrames X.base l := by
    intro l
    induction l with
    | nil => intro _ _; trivial
    | cons env r ih =>
      intro hs hl
      obtain ⟨hk, ⟨L, o, hf, hn, ho, hd⟩, hr⟩ := hl
      have hL : L ∈ X.fs := hs L (by unfold frs; rw [List.filterMap_cons, hf]; exact List.mem_cons_self)
      obtain ⟨sl, e⟩ := I.base.slot L o ho (I.ok.frf L hL) hL fun z => I.ok.exfs L z hL
      exact ⟨hk, ⟨L, _, hf, hn, e, hd⟩, ih (fun b hb => hs b (by unfold frs; rw [List.filterMap_cons, hf]; exact List.mem_cons_of_mem _ hb)) hr⟩
  exact all X.outer (fun _ hb => hb) I.ok.funs
theorem Inv.stack (I : Inv X pins σ H s) : s.heap.FunFrames X.base X.stack := by
  rcases I.ok.stk with e | ⟨e, hf⟩
  · rw [e]; exact I.funs
  · rw [e]
    obtain ⟨m, hn, _⟩ := I.loc
    refine .cons (by rw [I.ok.kind]; decide) hf hn ?_ I.funs
    exact Heap.get?_none_of_le (Nat.le_trans I.ok.bsz I.ok.above)
theorem Inv.stkSub (I : Inv X pins σ H s) : ∀ b ∈ frs X.stack, b ∈ X.env.locals :: X.fs := fun b hb => by
  rcases I.ok.stk with e | ⟨e, hf⟩
  · rw [e] at hb; exact List.mem_cons_of_mem _ hb
  · rw [e] at hb
    unfold frs at hb
    rw [List.filterMap_cons, hf] at hb
    exact hb
theorem Inv.stkFree (I : Inv X pins σ H s) : ∀ b ∈ frs X.stack, H b = none := fun b hb => by
  rcases List.mem_cons.mp (I.stkSub b hb) with e | hb
  · rw [e]; exact I.free
  · obtain ⟨_, o, ho, _⟩ := I.ok.funs.mem hb
    exact I.base.free b o ho (I.ok.frf b hb) fun z => I.ok.exfs b z hb
theorem Inv.step {g' : Array GenState} {t' : Nat} {d' : Drawn} {ch : List Addr} (I : Inv X pins σ H s)
    (hch : ∀ b ∈ ch, (b ∈ X.ex ∨ X.s₀.heap.objs.size ≤ b) ∧ b ≠ X.env.locals ∧ (∀ x c, X.env.cells.lookup x = some c → c ≠ b) ∧ ∀ p ∈ X.pn ++ pins, p.1 ≠ b)
    (keep : ∀ b o, b ≠ X.env.locals → b ∉ X.fs → b ∉ ch → s.heap.get? b = some o → H b = none → h'.get? b = some o)
    (slot : ∀ b o, b ≠ X.env.locals → b ∈ X.fs → b ∉ ch → s.heap.get? b = some o → H b = none → ∃ sl, h'.get? b = some { o with slots := sl }) (free : ∀ b o, b ∉ ch → s.heap.get? b = some o → H b = none → H' b = none)
    (there : ∀ b o, b ∉ ch → s.heap.get? b = some o → ∃ o', h'.get? b = some o')
    (tups : ∀ b xs, H b = some (.tup xs) → H' b = some (.tup xs)) (frzs : ∀ b o u, H b = some (.frz o u) → H' b = some (.frz o u)) (tbls : ∀ b ps, H b = some (.tbl ps) → ∃ more, H' b = some (.tbl (ps ++ more)))
    (ns : ∀ m, s.heap.Ns X.env.locals m → h'.Ns X.env.locals m) (hok : HOk X.prog X.w H' h') (hg : AllBare g') :
    Inv X pins σ H' { s with heap := h', gens := g', drawn := d', toks := t' } := by
  have neL : ∀ b o, X.s₀.heap.get? b = some o → b ≠ X.env.locals := fun b o e => Nat.ne_of_lt (Nat.lt_of_lt_of_le (Heap.lt_size e) I.ok.above)
  have neC : ∀ b o, X.s₀.heap.get? b = some o → b ∉ X.ex → b ∉ ch := fun b o e hx hb => by
    rcases (hch b hb).1 with z | z
    · exact hx z
    · exact absurd (Nat.lt_of_lt_of_le (Heap.lt_size e) z) (Nat.lt_irrefl _)
  have cellK : ∀ x c, X.env.cells.lookup x = some c → ∀ v, s.heap.IsCell c v → h'.IsCell c v := fun x c e v ⟨o, ho, hd⟩ => by
    have nch : c ∉ ch := fun z => (hch c z).2.2.1 x c e rfl
    by_cases hc : c ∈ X.fs
    · obtain ⟨sl, q⟩ := slot c o (I.cne x c e) hc nch ho (I.freeC x c e)
      exact ⟨_, q, hd⟩
    · exact ⟨o, keep c o (I.cne x c e) hc nch ho (I.freeC x c e), hd⟩
  refine ⟨I.ok, I.os, hg, ⟨fun b o e n hb hx => ?_, fun b o e n hb hx => ?_, fun b o e n hx => ?_, fun b o e hx => ?_, fun b xs e => tups b xs (I.base.tups b xs e), fun b o xs e => frzs b o xs (I.base.frzs b o xs e), fun b ps e => ?_⟩, ?_, fun x c e => ?_, ?_, fun x c e => ?_, fun p hp => ?_, hok, I.len⟩
  · exact keep b o (neL b o e) hb (neC b o e hx) (I.base.keep b o e n hb hx) (I.base.free b o e n hx)
  · obtain ⟨sl, e1⟩ := I.base.slot b o e n hb hx
    obtain ⟨sl', e2⟩ := slot b _ (neL b o e) hb (neC b o e hx) e1 (I.base.free b o e n hx)
    exact ⟨sl', e2⟩
  · obtain ⟨o', e1⟩ := I.base.there b o e hx
    exact free b o' (neC b o e hx) e1 (I.base.free b o e n hx)
  · obtain ⟨o', e1⟩ := I.base.there b o e hx
    exact there b o' (neC b o e hx) e1
  · obtain ⟨m1, e1⟩ := I.base.tbls b ps e
    obtain ⟨m2, e2⟩ := tbls b _ e1
    exact ⟨m1 ++ m2, by rw [e2, Array.append_assoc]⟩
  · obtain ⟨m, hn, hl⟩ := I.loc
    refine ⟨m, ns m hn, fun i x v e1 e2 e3 => ?_⟩
    obtain ⟨u, r, l⟩ := hl i x v e1 e2 e3
    refine ⟨u, r, ?_⟩
    rcases l with l | ⟨k, c, e, z⟩
    · exact .inl l
    · exact .inr ⟨k, c, e, cellK x c e _ z⟩
  · obtain ⟨v, z⟩ := I.cell x c e
    exact ⟨v, cellK x c e v z⟩
  · obtain ⟨m, ⟨o, _, _, ho, _⟩, _⟩ := I.loc
    exact free _ o (fun z => (hch _ z).2.1 rfl) ho I.free
  · obtain ⟨v, o, ho, hd⟩ := I.cell x c e
    exact free c o (fun z => (hch c z).2.2.1 x c e rfl) ho (I.freeC x c e)
  · obtain ⟨e, n, ne, nf, d⟩ := I.pin p hp
    have nch : p.1 ∉ ch := fun z => (hch p.1 z).2.2.2 p hp rfl
    exact ⟨keep p.1 p.2 ne nf nch e n, free p.1 p.2 nch e n, ne, nf, d⟩
theorem Inv.un {t' : Nat} (I : Inv X pins σ H s) (u : Un X.fs [] H H' s.heap h') (hok : HOk X.prog X.w H' h') : Inv X pins σ H' { s with heap := h', toks := t' } := by
  obtain ⟨m, ⟨o, es, ep, ho, r⟩, _⟩ := id I.loc
  obtain ⟨sl, hL⟩ := u.any ho I.free (by simp)
  exact I.step (g' := s.gens) (d' := s.drawn) (ch := []) (fun _ z => nomatch z) (fun b o _ hb _ e n => u.keep b o e n hb (by simp)) (fun b o _ hb _ e n => u.slot b o e n hb (by simp)) (fun b o _ e n => u.free b o e n (by simp)) (fun b o _ e => u.there b o e (by simp)) u.tups u.frzs u.tbls (fun m' hm => by
    obtain ⟨o', es', ep', ho', r'⟩ := hm
    rw [ho] at ho'; cases ho'
    exact ⟨_, es', ep', hL, r'⟩) hok I.bare
theorem Inv.call {g' : Array GenState} {t' : Nat} {d' : Drawn} {ch : List Addr} (I : Inv X pins σ H s) (u : Un (frs X.stack) ch H H' s.heap h') (hok : HOk X.prog X.w H' h') (hg : AllBare g')
    (hch : ∀ b ∈ ch, (b ∈ X.ex ∨ X.s₀.heap.objs.size ≤ b) ∧ b ≠ X.env.locals ∧ (∀ x c, X.env.cells.lookup x = some c → c ≠ b) ∧ ∀ p ∈ X.pn ++ pins, p.1 ≠ b) :
    Inv X pins σ H' { s with heap := h', gens := g', drawn := d', toks := t' } := by
  obtain ⟨m, ⟨o, es, ep, ho, r⟩, _⟩ := id I.loc
  obtain ⟨sl, hL⟩ := u.any ho I.free fun z => (hch _ z).2.1 rfl
  exact I.step (ch := ch) hch (fun b o hL hb hc e n => u.keep b o e n (fun z => (List.mem_cons.mp (I.stkSub b z)).elim hL hb) hc) (fun b o _ _ hc e n => u.any e n hc) (fun b o hc e n => u.free b o e n hc) (fun b o hc e => u.there b o e hc) u.tups u.frzs u.tbls (fun m' hm => by
    obtain ⟨o', es', ep', ho', r'⟩ := hm
    rw [ho] at ho'; cases ho'
    exact ⟨_, es', ep', hL, r'⟩) hok hg
theorem Inv.turned {t' : Nat} {it : Addr} (I : Inv X pins σ H s) (k : ∀ b o, b ≠ it → s.heap.get? b = some o → h'.get? b = some o) (hn : H it = none) (hL : it ≠ X.env.locals)
    (h1 : it ∈ X.ex ∨ X.s₀.heap.objs.size ≤ it) (h2 : ∀ x c, X.env.cells.lookup x = some c → c ≠ it) (h3 : ∀ p ∈ X.pn ++ pins, p.1 ≠ it) : Inv X pins σ H { s with heap := h', toks := t' } := by
  have nit : ∀ b u, H b = some u → b ≠ it := fun b u e z => by rw [z, hn] at e; cases e
  refine I.step (g' := s.gens) (d' := s.drawn) (ch := [it]) (fun b hb => ?_) (fun b o _ _ hc e _ => k b o (fun z => hc (by simp [z])) e) (fun b o _ _ hc e _ => ⟨o.slots, k b o (fun z => hc (by simp [z])) e⟩) (fun _ _ _ _ n => n)
    (fun b o hc e => ⟨o, k b o (fun z => hc (by simp [z])) e⟩) (fun _ _ e => e) (fun _ _ _ e => e) (fun b ps e => ⟨#[], by rw [e]; simp⟩) (fun m hm => ?_) (fun b u e => ?_) I.bare
  · have e : b = it := by simpa using hb
    subst e
    exact ⟨h1, hL, h2, h3⟩
  · obtain ⟨o, es, ep, ho, r⟩ := hm
    exact ⟨o, es, ep, k _ o (Ne.symm hL) ho, r⟩
  · refine (I.hok b u e).stay (fun c v hc q => k c v ?_ q) (fun _ q => q) fun _ _ q => q
    rcases hc with z | z
    · rw [z]; exact nit b u e
    · exact nit c _ z
theorem Inv.tok (I : Inv X pins σ H s) (t : Nat) : Inv X pins σ H { s with toks := t } := I.un (h' := s.heap) (t' := t) Un.refl I.hok
theorem Inv.kept {t' : Nat} (I : Inv X pins σ H s) (k : ∀ b u, s.heap.get? b = some u → h'.get? b = some u) : Inv X pins σ H { s with heap := h', toks := t' } := I.un (Un.kept k) (I.hok.kept k)
theorem Inv.laid {a : Addr} {o : HO} {t' : Nat} (I : Inv X pins σ H s) (k : ∀ b u, s.heap.get? b = some u → h'.get? b = some u) (hp : s.heap.objs.size ≤ a) (new : ObjOk X.prog X.w (upd H a o) h' a o) :
    Inv X pins σ (upd H a o) { s with heap := h', toks := t' } := I.un (Un.laid k hp (I.hok.fresh hp)) (I.hok.laid k hp new)
theorem Inv.write {x e : Addr} {o : HO} {t' : Nat} (I : Inv X pins σ H s) (mu : Mut (H x)) (he : e = x ∨ H e = some (.own x)) (k : ∀ b u, b ≠ e → s.heap.get? b = some u → h'.get? b = some u) (heo : ∃ u, h'.get? e = some u)
    (new : ObjOk X.prog X.w (upd H x o) h' x o) : Inv X pins σ (upd H x o) { s with heap := h', toks := t' } := I.un (Un.write mu he k heo) (I.hok.write mu he k heo new)
theorem Inv.pins_of {pins' : List (Addr × Obj)} (I : Inv X pins σ H s) (h : ∀ p ∈ pins', s.heap.get? p.1 = some p.2 ∧ H p.1 = none ∧ p.1 ≠ X.env.locals ∧ p.1 ∉ X.fs ∧ ∀ v, p.2.data ≠ .cell v) : Inv X pins' σ H s :=
  ⟨I.ok, I.os, I.bare, I.base, I.loc, I.cell, I.free, I.freeC, fun p hp => (List.mem_append.mp hp).elim (fun z => I.pin p (List.mem_append_left _ z)) (h p), I.hok, I.len⟩
theorem nodup_ix {N : List Str} (hN : N.Nodup) {i j : Nat} {x : Str} (a : N[i]? = some x) (b : N[j]? = some x) : i = j := by
  obtain ⟨h1, e1⟩ := List.getElem?_eq_some_iff.mp a
  obtain ⟨h2, e2⟩ := List.getElem?_eq_some_iff.mp b
  exact (List.getElem_inj hN).mp (e1.trans e2.symm)
theorem store_ok2 {M : Model} {A : Around} {E : Value → Shared → Prop} {i : Nat} {x : Str} {v : V} {u : Value} {Q : Unit → Shared → Prop} (I : Inv X pins σ H s) (hN : X.N.Nodup) (hi : X.N[i]? = some x) (hx : Loc X.env.scope x) (r : RelV v u)
    (h : ∀ s', Inv X pins (σ.set i (some v)) H s' → (∃ a, Heap.SameBut a s.heap s'.heap ∧ (a = X.env.locals ∨ X.env.cells.lookup x = some a)) → Q () s') (hf : X.fn x = true ∨ X.env.scope.names.lookup x = some .local := by first | exact .inl rfl | exact .inr rfl | assumption) : wpAny M A (storeName X.env x u) Q E s := by
  obtain ⟨m, hn, hl⟩ := id I.loc
  have hcls : (X.env.scope.kind == .class || (X.env.scope.kind == .module && X.env.locals != X.env.globals)) = false := by rw [I.ok.kind]; rfl
  have hiσ : i < σ.length := by rw [I.len]; exact (List.getElem?_eq_some_iff.mp hi).1
  have cne := I.cne
  have tracked : ∀ {a : Addr} {h' : Heap}, (∃ o, s.heap.get? a = some o ∧ H a = none) → Heap.SameBut a s.heap h' → HOk X.prog X.w H h' := fun {a h'} ha hs b ob e => by
    obtain ⟨_, _, hfree⟩ := ha
    refine (I.hok b ob e).stay (fun c w' hc q => (hs.2 c ?_).trans q) (fun _ q => q) fun _ _ q => q
    rintro rfl
    rcases hc with rfl | hc
    · rw [hfree] at e; cases e
    · rw [hfree] at hc; cases hc
  rcases hx with hk | hk
  · refine wpAny_storeName_local hk hn (fun h' hn' hs => ?_) hcls
    obtain ⟨oL, _, _, hoL, _⟩ := id hn
    refine h _ ⟨I.ok, I.os, I.bare, ⟨fun b o e n hb hx => ?_, fun b o e n hb hx => ?_, I.base.free, fun b o e hx => ?_, I.base.tups, I.base.frzs, I.base.tbls⟩, ⟨_, hn', fun j y v' e1 e2 e3 => ?_⟩, fun y c e => ?_, I.free, I.freeC, fun p hp => ?_, tracked ⟨oL, hoL, I.free⟩ hs, by simpa using I.len⟩ ⟨_, hs, .inl rfl⟩
    · exact (hs.2 b (Nat.ne_of_lt (Nat.lt_of_lt_of_le (Heap.lt_size e) I.ok.above))).trans (I.base.keep b o e n hb hx)
    · obtain ⟨sl, e1⟩ := I.base.slot b o e n hb hx
      exact ⟨sl, (hs.2 b (Nat.ne_of_lt (Nat.lt_of_lt_of_le (Heap.lt_size e) I.ok.above))).trans e1⟩
    · obtain ⟨o', e1⟩ := I.base.there b o e hx
      exact ⟨o', (hs.2 b (Nat.ne_of_lt (Nat.lt_of_lt_of_le (Heap.lt_size e) I.ok.above))).trans e1⟩
    · by_cases hj : j = i
      · subst hj
        rw [hi] at e1; cases e1
        rw [List.getElem?_set_self hiσ] at e2
        cases e2
        exact ⟨u, r, .inl ⟨hk, by simp⟩⟩
      · rw [List.getElem?_set_ne (Ne.symm hj)] at e2
        obtain ⟨u', r', q⟩ := hl j y v' e1 e2 e3
        refine ⟨u', r', ?_⟩
        rcases q with ⟨k, e⟩ | ⟨k, c, e, z⟩
        · refine .inl ⟨k, ?_⟩
          have : y ≠ x := fun e => hj (nodup_ix hN e1 (e ▸ hi))
          simp [this, e]
        · exact .inr ⟨k, c, e, z.sameBut hs (cne y c e)⟩
    · obtain ⟨w', z⟩ := I.cell y c e
      exact ⟨w', z.sameBut hs (cne y c e)⟩
    · obtain ⟨e, n, ne, nf, d⟩ := I.pin p hp
      exact ⟨(hs.2 p.1 ne).trans e, n, ne, nf, d⟩
  · have hfn : X.fn x = true := by
      rcases hf with z | z
      · exact z
      · rw [z] at hk; cases hk
    obtain ⟨c, hc⟩ := I.ok.has x (.inl hk)
    obtain ⟨w', z⟩ := I.cell x c hc
    refine wpAny_storeName_cell I.ok.kind hk hc z (fun h' hc' hs => ?_)
    obtain ⟨oc, hoc, hocd⟩ := id z
    refine h { s with heap := h' } ⟨I.ok, I.os, I.bare, ⟨fun b o e n hb hx => ?_, fun b o e n hb hx => ?_, I.base.free, fun b o e hx => ?_, I.base.tups, I.base.frzs, I.base.tbls⟩, ⟨m, hn.sameBut hs (Ne.symm (cne x c hc)), fun j y v' e1 e2 e3 => ?_⟩, fun y c' e => ?_, I.free, I.freeC, fun p hp => ?_, tracked ⟨oc, hoc, I.freeC x c hc⟩ hs, by simpa using I.len⟩ ⟨c, hs, .inr hc⟩
    · exact (hs.2 b (Nat.ne_of_lt (Nat.lt_of_lt_of_le (Heap.lt_size e) (I.ok.cab x c hfn hc)))).trans (I.base.keep b o e n hb hx)
    · obtain ⟨sl, e1⟩ := I.base.slot b o e n hb hx
      exact ⟨sl, (hs.2 b (Nat.ne_of_lt (Nat.lt_of_lt_of_le (Heap.lt_size e) (I.ok.cab x c hfn hc)))).trans e1⟩
    · obtain ⟨o', e1⟩ := I.base.there b o e hx
      exact ⟨o', (hs.2 b (Nat.ne_of_lt (Nat.lt_of_lt_of_le (Heap.lt_size e) (I.ok.cab x c hfn hc)))).trans e1⟩
    · by_cases hj : j = i
      · subst hj
        rw [hi] at e1; cases e1
        rw [List.getElem?_set_self hiσ] at e2
        cases e2
        exact ⟨u, r, .inr ⟨.inl hk, c, hc, hc'⟩⟩
      · rw [List.getElem?_set_ne (Ne.symm hj)] at e2
        obtain ⟨u', r', q⟩ := hl j y v' e1 e2 e3
        refine ⟨u', r', ?_⟩
        rcases q with q | ⟨k, c', e, z'⟩
        · exact .inl q
        · refine .inr ⟨k, c', e, z'.sameBut hs ?_⟩
          rintro rfl
          exact hj (nodup_ix hN e1 (I.ok.inj _ _ _ e hc ▸ hi))
    · by_cases hcc : c' = c
      · subst hcc; exact ⟨_, hc'⟩
      · obtain ⟨w2, z2⟩ := I.cell y c' e
        exact ⟨w2, z2.sameBut hs hcc⟩
    · obtain ⟨e, n, ne, nf, d⟩ := I.pin p hp
      refine ⟨(hs.2 p.1 ?_).trans e, n, ne, nf, d⟩
      intro q
      rw [q, hoc] at e
      have q' : oc = p.2 := Option.some.inj e
      exact d w' (by rw [← q']; exact hocd)
theorem store_ok {M : Model} {A : Around} {E : Value → Shared → Prop} {i : Nat} {x : Str} {v : V} {u : Value} {Q : Unit → Shared → Prop} (I : Inv X pins σ H s) (hN : X.N.Nodup) (hi : X.N[i]? = some x) (hx : Loc X.env.scope x) (r : RelV v u)
    (h : ∀ s', Inv X pins (σ.set i (some v)) H s' → Q () s') (hf : X.fn x = true ∨ X.env.scope.names.lookup x = some .local := by first | exact .inl rfl | exact .inr rfl | assumption) : wpAny M A (storeName X.env x u) Q E s :=
  store_ok2 I hN hi hx r (fun s' I' _ => h s' I') hf
theorem Inv.call' {s' : Shared} {ch : List Addr} (I : Inv X pins σ H s) (ho : s'.os = s.os) (u : Un (frs X.stack) ch H H' s.heap s'.heap) (hok : HOk X.prog X.w H' s'.heap) (hg : AllBare s'.gens)
    (hch : ∀ b ∈ ch, (b ∈ X.ex ∨ X.s₀.heap.objs.size ≤ b) ∧ b ≠ X.env.locals ∧ (∀ x c, X.env.cells.lookup x = some c → c ≠ b) ∧ ∀ p ∈ X.pn ++ pins, p.1 ≠ b) : Inv X pins σ H' s' := by
  obtain ⟨h', g', d', t', o'⟩ := s'
  have e : o' = s.os := ho
  subst e
  exact I.call (g' := g') (t' := t') (d' := d') u hok hg hch
end
abbrev XK := Value → Option Addr → Hp → Prop
abbrev St := List (Option V)
abbrev VK := V → Hp → Prop
abbrev TE := St → Hp → VK → Prop
abbrev TT := St → Hp → (Bool → Hp → Prop) → Prop
abbrev TA := St → Hp → (List V → Hp → Prop) → Prop
structure Ends where
  nx : St → Hp → Prop
  rt : VK
  bk : St → Hp → Prop := fun _ _ => False
  ct : St → Hp → Prop := fun _ _ => False
abbrev TS := Ends → St → Hp → Prop
noncomputable def EP (X : Cx) (pins : List (Addr × Obj)) (σ : St) (Q : VK) (u : Value) (s' : Shared) : Prop := ∃ v H', Inv X pins σ H' s' ∧ RelV v u ∧ Q v H'
noncomputable def TP (X : Cx) (pins : List (Addr × Obj)) (σ : St) (Q : Bool → Hp → Prop) (b : Bool) (s' : Shared) : Prop := ∃ H', Inv X pins σ H' s' ∧ Q b H'
noncomputable def AP (X : Cx) (pins : List (Addr × Obj)) (σ : St) (Q : List V → Hp → Prop) (us : List Value) (s' : Shared) : Prop := ∃ vs H', Inv X pins σ H' s' ∧ Vals vs us ∧ Q vs H'
noncomputable def SP (X : Cx) (pins : List (Addr × Obj)) (D : Ends) (f : Flow) (s' : Shared) : Prop :=
  match f with
  | .next => ∃ σ' H', Inv X pins σ' H' s' ∧ D.nx σ' H'
  | .brk => ∃ σ' H', Inv X pins σ' H' s' ∧ D.bk σ' H'
  | .cont => ∃ σ' H', Inv X pins σ' H' s' ∧ D.ct σ' H'
  | .ret u => ∃ v σ' H', Inv X pins σ' H' s' ∧ RelV v u ∧ D.rt v H'
noncomputable def PE (X : Cx) (e : Expr) (t : TE) : Prop :=
  ∀ (pins : List (Addr × Obj)) (s : Shared) (σ : St) (H : Hp) (Q : VK), Inv X pins σ H s → t σ H Q → wpAny (model X.prog X.w) X.A (eval e X.env) (EP X pins σ Q) X.xe s
noncomputable def PT (X : Cx) (e : Expr) (t : TT) : Prop :=
  ∀ (pins : List (Addr × Obj)) (s : Shared) (σ : St) (H : Hp) (Q : Bool → Hp → Prop), Inv X pins σ H s → t σ H Q → wpAny (model X.prog X.w) X.A (isTrue e X.env (eval e X.env)) (TP X pins σ Q) X.xe s
noncomputable def PW (X : Cx) (e : Expr) (t : TT) : Prop :=
  ∀ (whole : Sem Value) (pins : List (Addr × Obj)) (s : Shared) (σ : St) (H : Hp) (Q : Bool → Hp → Prop), Inv X pins σ H s → t σ H Q → wpAny (model X.prog X.w) X.A (isTrue e X.env whole) (TP X pins σ Q) X.xe s
theorem PW.pt {X : Cx} {e : Expr} {t : TT} (h : PW X e t) : PT X e t := h _
noncomputable def PA (X : Cx) (es : List Expr) (t : TA) : Prop :=
  ∀ (pos : Pos) (pins : List (Addr × Obj)) (s : Shared) (σ : St) (H : Hp) (Q : List V → Hp → Prop), Inv X pins σ H s → t σ H Q → wpAny (model X.prog X.w) X.A (spliced (backTo pos (starEach es X.env))) (AP X pins σ Q) X.xe s
noncomputable def PS (X : Cx) (st : Stmt) (t : TS) : Prop :=
  ∀ (pins : List (Addr × Obj)) (s : Shared) (σ : St) (H : Hp) (D : Ends), Inv X pins σ H s → t D σ H → wpAny (model X.prog X.w) X.A (exec st X.env) (SP X pins D) X.xe s
noncomputable def PSs (X : Cx) (st : List Stmt) (t : TS) : Prop :=
  ∀ (pins : List (Addr × Obj)) (s : Shared) (σ : St) (H : Hp) (D : Ends), Inv X pins σ H s → t D σ H → wpAny (model X.prog X.w) X.A (execs st X.env) (SP X pins D) X.xe s
theorem thn {α : Type} {t : Sem α} {Q Q' : α → Shared → Prop} {M : Model} {A : Around} {E : Value → Shared → Prop} {s : Shared} (h : wpAny M A t Q E s) (hQ : ∀ a s, Q a s → Q' a s) : wpAny M A t Q' E s := wpAny_mono h hQ fun _ _ x => x
end L2
namespace L2
open PySem PySem.Spec PyProof.Rows
section
variable {X : Cx}
noncomputable def tVar (i : Nat) : TE := fun σ H Q => ∃ v, σ[i]? = some (some v) ∧ Q v H
noncomputable def tC (v : V) : TE := fun _ H Q => Q v H
theorem pe_var {i : Nat} {x : Str} {pos : Pos} (hN : X.N[i]? = some x) (hv : Vis X.env.scope x) (hd : (x == ("__debug__" : Str)) = false := by decide) (hcd : (x == ("__classdict__" : Str)) = false := by decide) : PE X (.Name x pos) (tVar i) := by
  intro pins s σ H Q I h
  obtain ⟨v, e, h⟩ := h
  obtain ⟨m, hn, hl⟩ := I.loc
  obtain ⟨u, r, l⟩ := hl i x v hN e hv
  have fin : EP X pins σ Q u s := ⟨v, H, I, r, h⟩
  rcases l with ⟨hk, hm⟩ | ⟨hk, c, hc, hcell⟩
  · exact wpAny_Name (wpAny_loadName_local I.ok.kind hk hn hm fin) hd
  · rcases hk with hk | hk
    · exact wpAny_Name (wpAny_loadName_cell I.ok.kind hk hc hcell fin) hd
    · exact wpAny_Name (wpAny_loadName_free I.ok.kind hk hc hcell fin hcd) hd
theorem pe_int {i j pos} : PE X (.Constant (.int i) j pos) (tC (.int i)) := fun _ _ _ H _ I h => wpAny_Constant_int ⟨.int i, H, I.tok _, ⟨_, rfl⟩, h⟩
theorem pe_bl {b j pos} : PE X (.Constant (.bool b) j pos) (tC (.bl b)) := fun _ _ _ H _ I h => Constant_bool ⟨.bl b, H, I, rfl, h⟩
theorem pe_non {j pos} : PE X (.Constant .none j pos) (tC .non) := fun _ _ _ H _ I h => Constant_none ⟨.non, H, I, rfl, h⟩
theorem pe_str {x j pos} : PE X (.Constant (.str x) j pos) (tC (.str x)) := fun _ _ _ H _ I h => Calls.Constant_str ⟨.str x, H, I.tok _, ⟨_, rfl⟩, h⟩
noncomputable def Gl (X : Cx) (x : Str) : Prop := X.env.kindOf x = some .globalImplicit
theorem ld_glob {E : Value → Shared → Prop} {pins : List (Addr × Obj)} {s : Shared} {σ : St} {H : Hp} {x : Str} {u : Value} {pos : Pos} {Q : Value → Shared → Prop} (I : Inv X pins σ H s) (hg : Gl X x) (hm : X.mg x = some u) (h : Q u s)
    (hd : (x == ("__debug__" : Str)) = false := by decide) : wpAny (model X.prog X.w) X.A (eval (.Name x pos) X.env) Q E s :=
  Calls.Name_function_global I.ok.kind hg (Calls.loadGlobal_global (by rw [I.ok.glob]; exact I.mod.glob.keeps I.bk) hm h) hd
theorem ld_blt {E : Value → Shared → Prop} {pins : List (Addr × Obj)} {s : Shared} {σ : St} {H : Hp} {x : Str} {u : Value} {pos : Pos} {Q : Value → Shared → Prop} (I : Inv X pins σ H s) (hg : Gl X x) (hm : X.mg x = none) (hv : bootBuiltins x = some u) (h : Q u s)
    (hn : x ≠ "__name__" := by decide) (hd : (x == ("__debug__" : Str)) = false := by decide) : wpAny (model X.prog X.w) X.A (eval (.Name x pos) X.env) Q E s := by
  obtain ⟨mb, h1, h2⟩ := I.mod.blt
  exact Calls.Name_function_global I.ok.kind hg (Calls.loadGlobal_builtin (by rw [I.ok.glob]; exact I.mod.glob.keeps I.bk) hm (by rw [I.ok.blt]; exact h1.keeps I.bk) ((h2 x hn).trans hv) h) hd
theorem pe_glob {x : Str} {v : V} {u : Value} {pos : Pos} (hg : Gl X x) (hm : X.mg x = some u) (r : RelV v u) (hd : (x == ("__debug__" : Str)) = false := by decide) : PE X (.Name x pos) (tC v) :=
  fun _ _ _ H _ I h => ld_glob I hg hm ⟨v, H, I, r, h⟩ hd
theorem pe_bltn {x : Str} {v : V} {u : Value} {pos : Pos} (hg : Gl X x) (hm : X.mg x = none) (hv : bootBuiltins x = some u) (r : RelV v u) (hn : x ≠ "__name__" := by decide) (hd : (x == ("__debug__" : Str)) = false := by decide) : PE X (.Name x pos) (tC v) :=
  fun _ _ _ H _ I h => ld_blt I hg hm hv ⟨v, H, I, r, h⟩ hn hd
variable {a b : Expr} {ta tb : TE} {pos : Pos}
noncomputable def tB (t : TE) : TT := fun σ H Q => t σ H fun x H1 => ∃ c, x = .bl c ∧ Q c H1
theorem pt_val {e : Expr} {t : TE} (h : PE X e t) (he : ∀ whole, isTrue e X.env whole = (do let v ← whole; standAt e.pos; holding [v] (truthy v)) := by intro _; rfl) : PT X e (tB t) := by
  intro pins s σ H Q I hw
  refine isTrue_plain (thn (h pins s σ H _ I hw) fun v s1 ⟨x, H1, I1, r1, q1⟩ => ?_) (he _)
  obtain ⟨d, rfl, q⟩ := q1
  cases r1
  exact wpAny_truthy_bool ⟨H1, I1, q⟩
variable {tA tB' : TT} {rest : List Expr}
noncomputable def tAnd (t u : TT) : TT := fun σ H Q => t σ H fun c H1 => if c = true then u σ H1 Q else Q false H1
noncomputable def tOr (t u : TT) : TT := fun σ H Q => t σ H fun c H1 => if c = true then Q true H1 else u σ H1 Q
noncomputable def tNot (t : TT) : TT := fun σ H Q => t σ H fun c H1 => Q (!c) H1
theorem pw_and1 (ha : PT X a tA) : PW X (.BoolOp .And [a] pos) tA := by
  intro wh pins s σ H Q I h
  refine isTrue_and (thn (ha pins s σ H Q I h) fun c s1 e => ?_)
  cases c with
  | true => exact isTrue_and_nil e
  | false => exact e
theorem pw_or1 (ha : PT X a tA) : PW X (.BoolOp .Or [a] pos) tA := by
  intro wh pins s σ H Q I h
  refine isTrue_or (thn (ha pins s σ H Q I h) fun c s1 e => ?_)
  cases c with
  | false => exact isTrue_or_nil e
  | true => exact e
theorem pw_and (ha : PT X a tA) (hb : PW X (.BoolOp .And (b :: rest) pos) tB') : PW X (.BoolOp .And (a :: b :: rest) pos) (tAnd tA tB') := by
  intro wh pins s σ H Q I h
  refine isTrue_and (thn (ha pins s σ H _ I h) fun c s1 ⟨H1, I1, q1⟩ => ?_)
  cases c with
  | true => exact hb wh pins s1 σ H1 Q I1 q1
  | false => exact ⟨H1, I1, q1⟩
theorem pw_or (ha : PT X a tA) (hb : PW X (.BoolOp .Or (b :: rest) pos) tB') : PW X (.BoolOp .Or (a :: b :: rest) pos) (tOr tA tB') := by
  intro wh pins s σ H Q I h
  refine isTrue_or (thn (ha pins s σ H _ I h) fun c s1 ⟨H1, I1, q1⟩ => ?_)
  cases c with
  | true => exact ⟨H1, I1, q1⟩
  | false => exact hb wh pins s1 σ H1 Q I1 q1
theorem pt_not (ha : PT X a tA) : PT X (.UnaryOp .Not a pos) (tNot tA) := by
  intro pins s σ H Q I h
  exact isTrue_not (ha pins s σ H (fun c H1 => Q (!c) H1) I h)
noncomputable def tAndV (ta tb : TE) : TE := fun σ H Q => ta σ H fun x H1 => ∃ c, x = .bl c ∧ if c = true then tb σ H1 Q else Q (.bl false) H1
noncomputable def tOrV (ta tb : TE) : TE := fun σ H Q => ta σ H fun x H1 => ∃ c, x = .bl c ∧ if c = true then Q (.bl true) H1 else tb σ H1 Q
theorem pe_one {op} {t : TE} (h : PE X a t) : PE X (.BoolOp op [a] pos) t := fun pins s σ H Q I hw => BoolOp_one (h pins s σ H Q I hw)
theorem pe_and (ha : PE X a ta) (hb : PE X (.BoolOp .And (b :: rest) pos) tb) : PE X (.BoolOp .And (a :: b :: rest) pos) (tAndV ta tb) := by
  intro pins s σ H Q I h
  refine BoolOp_and (thn (ha pins s σ H _ I h) fun v s1 ⟨x, H1, I1, r1, q1⟩ => ?_)
  obtain ⟨c, rfl, q1⟩ := q1
  cases r1
  refine wpAny_truthy_bool ?_
  cases c with
  | true => exact hb pins s1 σ H1 Q I1 q1
  | false => exact ⟨.bl false, H1, I1, rfl, q1⟩
theorem pe_or (ha : PE X a ta) (hb : PE X (.BoolOp .Or (b :: rest) pos) tb) : PE X (.BoolOp .Or (a :: b :: rest) pos) (tOrV ta tb) := by
  intro pins s σ H Q I h
  refine BoolOp_or (thn (ha pins s σ H _ I h) fun v s1 ⟨x, H1, I1, r1, q1⟩ => ?_)
  obtain ⟨c, rfl, q1⟩ := q1
  cases r1
  refine wpAny_truthy_bool ?_
  cases c with
  | false => exact hb pins s1 σ H1 Q I1 q1
  | true => exact ⟨.bl true, H1, I1, rfl, q1⟩
noncomputable def tIf (t : TT) (ta tb : TE) : TE := fun σ H Q => t σ H fun c H1 => if c = true then ta σ H1 Q else tb σ H1 Q
theorem pe_ifExp {c : Expr} (hc : PT X c tA) (ha : PE X a ta) (hb : PE X b tb) : PE X (.IfExp c a b pos) (tIf tA ta tb) := by
  intro pins s σ H Q I h
  refine wpAny_IfExp (thn (hc pins s σ H _ I h) fun d s1 ⟨H1, I1, q1⟩ => ?_)
  cases d with
  | true => exact ha pins s1 σ H1 Q I1 q1
  | false => exact hb pins s1 σ H1 Q I1 q1
end
end L2
namespace L2
open PySem PySem.Spec PyProof.Rows
noncomputable def SqL (K : PySem.W.Frag) (H : Hp) (a : Addr) (xs : List V) : Prop :=
  Rd H a (.lst xs) ∨
    ∃ (o : Obj) (its : Array Value) (n : Nat), K.lookup a = some o ∧ o.cls = .type "list" ∧ o.dict = none ∧ o.data = .seq its n ∧ its.size ≤ sizeLine ∧ Vals xs its.toList
noncomputable def SqT (K : PySem.W.Frag) (H : Hp) (a : Addr) (xs : List V) : Prop :=
  Rd H a (.tup xs) ∨
    ∃ (o : Obj) (its : Array Value) (n : Nat), K.lookup a = some o ∧ o.cls = .type "tuple" ∧ o.data = .seq its n ∧ its.size ≤ sizeLine ∧ Vals xs its.toList
noncomputable def absV : Value → Option V
  | .none => some .non
  | .bool b => some (.bl b)
  | .int i _ => some (.int i)
  | .str x _ => some (.str x)
  | .bytes b _ => some (.byt b)
  | .float b _ => some (.flt b)
  | .ref a => some (.ref a)
  | .type n => some (.ty n)
  | _ => none
theorem RelV.abs {x : V} {u : Value} (r : RelV x u) : absV u = some x := by
  cases x with
  | non => cases r; rfl
  | bl _ => cases r; rfl
  | int _ => obtain ⟨t, rfl⟩ := r; rfl
  | str _ => obtain ⟨t, rfl⟩ := r; rfl
  | byt _ => obtain ⟨t, rfl⟩ := r; rfl
  | flt _ => obtain ⟨t, rfl⟩ := r; rfl
  | ref _ => cases r; rfl
  | ty _ => cases r; rfl
theorem RelV.inj {x y : V} {u : Value} (r : RelV x u) (q : RelV y u) : x = y := Option.some.inj (r.abs.symm.trans q.abs)
theorem Vals.inj : ∀ {xs ys : List V} {us : List Value}, Vals xs us → Vals ys us → xs = ys
  | _, _, _, .nil, .nil => rfl
  | _, _, _, .cons r t, .cons r' t' => by rw [r.inj r', Vals.inj t t']
section
variable {X : Cx} {pins : List (Addr × Obj)} {σ : St} {H : Hp} {s : Shared} {a : Addr} {xs ys : List V}
theorem SqL.of {K : PySem.W.Frag} (h : H a = some (.lst xs)) : SqL K H a xs := .inl (.inl h)
theorem SqT.of {K : PySem.W.Frag} (h : H a = some (.tup xs)) : SqT K H a xs := .inl (.inl h)
theorem Inv.list (I : Inv X pins σ H s) (h : SqL X.K H a xs) : ∃ its : List Value, Vals xs its ∧ PlainL s.heap a its.toArray ∧ xs.length ≤ sizeLine := by
  rcases h with h | ⟨o, its, n, hk, hc, hd, hs, hz, r⟩
  · obtain ⟨z, its, n, r, e⟩ := h.ok I.hok
    exact ⟨its, r, ⟨_, n, e, rfl, rfl, rfl⟩, z⟩
  · refine ⟨its.toList, r, ⟨o, n, I.kIn a o hk, hc, hd, by simpa using hs⟩, ?_⟩
    have e := r.length
    simp only [Array.length_toList] at e
    omega
theorem Inv.tuple (I : Inv X pins σ H s) (h : SqT X.K H a xs) : ∃ its : List Value, Vals xs its ∧ IsTup s.heap a its.toArray ∧ xs.length ≤ sizeLine := by
  rcases h with h | ⟨o, its, n, hk, hc, hs, hz, r⟩
  · obtain ⟨z, its, r, p⟩ := h.ok I.hok
    exact ⟨its, r, p, z⟩
  · refine ⟨its.toList, r, ⟨o, I.kIn a o hk, hc, n, by simpa using hs⟩, ?_⟩
    have e := r.length
    simp only [Array.length_toList] at e
    omega
theorem Inv.list_inj (I : Inv X pins σ H s) (h : SqL X.K H a xs) (h' : SqL X.K H a ys) : xs = ys := by
  obtain ⟨its, r, ⟨o, n, e, _, _, d⟩, _⟩ := I.list h
  obtain ⟨its', r', ⟨o', n', e', _, _, d'⟩, _⟩ := I.list h'
  rw [e] at e'; cases e'
  rw [d] at d'
  injection d' with d1 _
  have : its = its' := by simpa using congrArg Array.toList d1
  subst this
  exact r.inj r'
theorem Inv.tuple_inj (I : Inv X pins σ H s) (h : SqT X.K H a xs) (h' : SqT X.K H a ys) : xs = ys := by
  obtain ⟨its, r, ⟨o, e, _, n, d⟩, _⟩ := I.tuple h
  obtain ⟨its', r', ⟨o', e', _, n', d'⟩, _⟩ := I.tuple h'
  rw [e] at e'; cases e'
  rw [d] at d'
  injection d' with d1 _
  have : its = its' := by simpa using congrArg Array.toList d1
  subst this
  exact r.inj r'
end
noncomputable abbrev Cx.wish (X : Cx) (E : Value → Shared → Prop) : Cx := { X with xe := E }
noncomputable abbrev Cx.nox (X : Cx) : Cx := X.wish fun _ _ => False
theorem Cx.Ok.wish {X : Cx} (ok : X.Ok) (E : Value → Shared → Prop) : (X.wish E).Ok :=
  ⟨ok.mod, ok.kind, ok.glob, ok.blt, ok.above, ok.inj, ok.has, ok.cab, ok.hd, ok.frames, ok.stk, ok.exf, ok.bs, ok.bsz, ok.noex, ok.exfs, ok.funs, ok.frf⟩
theorem Cx.Ok.unwish {X : Cx} {E : Value → Shared → Prop} (ok : (X.wish E).Ok) : X.Ok :=
  ⟨ok.mod, ok.kind, ok.glob, ok.blt, ok.above, ok.inj, ok.has, ok.cab, ok.hd, ok.frames, ok.stk, ok.exf, ok.bs, ok.bsz, ok.noex, ok.exfs, ok.funs, ok.frf⟩
section
variable {X : Cx} {pins : List (Addr × Obj)} {σ : St} {H : Hp} {s : Shared} {E : Value → Shared → Prop}
theorem Inv.wish (I : Inv X pins σ H s) (E : Value → Shared → Prop) : Inv (X.wish E) pins σ H s := ⟨I.ok.wish E, I.os, I.bare, I.base, I.loc, I.cell, I.free, I.freeC, I.pin, I.hok, I.len⟩
theorem Inv.unwish (I : Inv (X.wish E) pins σ H s) : Inv X pins σ H s := ⟨I.ok.unwish, I.os, I.bare, I.base, I.loc, I.cell, I.free, I.freeC, I.pin, I.hok, I.len⟩
theorem SP.unwish {D : Ends} {f : Flow} {s' : Shared} (h : SP (X.wish E) pins D f s') : SP X pins D f s' := by
  cases f with
  | next => obtain ⟨σ', H', I, q⟩ := h; exact ⟨σ', H', I.unwish, q⟩
  | brk => obtain ⟨σ', H', I, q⟩ := h; exact ⟨σ', H', I.unwish, q⟩
  | cont => obtain ⟨σ', H', I, q⟩ := h; exact ⟨σ', H', I.unwish, q⟩
  | ret u => obtain ⟨v, σ', H', I, r, q⟩ := h; exact ⟨v, σ', H', I.unwish, r, q⟩
theorem PSs.nox {st : List Stmt} {t : TS} (h : PSs X.nox st t) : PSs X st t := fun pins s σ H D I hw =>
  wpAny_mono (h pins s σ H D (I.wish _) hw) (fun _ _ q => q.unwish) fun _ _ z => False.elim z
end
section
variable {X : Cx} {st : Stmt} {rest : List Stmt} {t u : TS} {e : Expr} {te : TE} {pos : Pos}
noncomputable def tNext : TS := fun D σ H => D.nx σ H
noncomputable def tSeq (t u : TS) : TS := fun D σ H => t { D with nx := u D } σ H
theorem pss_nil : PSs X [] tNext := fun _ _ σ H _ I h => wpAny_execs_nil ⟨σ, H, I, h⟩
theorem pss_cons (h1 : PS X st t) (h2 : PSs X rest u) : PSs X (st :: rest) (tSeq t u) := by
  intro pins s σ H D I h
  refine wpAny_execs_cons (thn (h1 pins s σ H { D with nx := u D } I h) fun f s1 q => ?_)
  cases f with
  | next =>
    obtain ⟨σ', H', I', q⟩ := q
    exact h2 pins s1 σ' H' D I' q
  | ret v => exact q
  | brk => exact q
  | cont => exact q
theorem pss_one (h1 : PS X st t) : PSs X [st] t := by
  intro pins s σ H D I h
  refine wpAny_execs_cons (thn (h1 pins s σ H D I h) fun f s1 q => ?_)
  cases f with
  | next => exact wpAny_execs_nil q
  | ret v => exact q
  | brk => exact q
  | cont => exact q
theorem Inv.quiet {pins : List (Addr × Obj)} {σ : St} {H : Hp} {s : Shared} (I : Inv X pins σ H s) : interactive X.env = false := by simp [interactive, I.ok.kind]
noncomputable def tDrop (te : TE) : TS := fun D σ H => te σ H fun _ H1 => D.nx σ H1
theorem ps_expr (he : PE X e te) (hs : swapsWith e none pos.line X.env = pure false := by rfl) : PS X (.Expr e pos) (tDrop te) := by
  intro pins s σ H D I h
  exact wpAny_Expr_any (thn (he pins s σ H _ I h) fun v s1 ⟨x, H1, I1, r1, q1⟩ => ⟨σ, H1, I1, q1⟩) I.quiet hs
noncomputable def tRet (te : TE) : TS := fun D σ H => te σ H D.rt
theorem ps_ret (he : PE X e te) : PS X (.Return (some e) pos) (tRet te) := by
  intro pins s σ H D I h
  exact wpAny_Return_some (thn (he pins s σ H _ I h) fun v s1 ⟨x, H1, I1, r1, q1⟩ => ⟨x, σ, H1, I1, r1, q1⟩)
noncomputable def tIfS (c : TT) (t u : TS) : TS := fun D σ H => c σ H fun b H1 => if b = true then t D σ H1 else u D σ H1
theorem ps_if {c : Expr} {a b : List Stmt} {tc : TT} (hc : PT X c tc) (ha : PSs X a t) (hb : PSs X b u) : PS X (.If c a b pos) (tIfS tc t u) := by
  intro pins s σ H D I h
  refine wpAny_If (thn (hc pins s σ H _ I h) fun d s1 ⟨H1, I1, q1⟩ => ?_)
  cases d with
  | true => exact ha pins s1 σ H1 D I1 q1
  | false => exact hb pins s1 σ H1 D I1 q1
end
abbrev TG := V → St → Hp → (St → Hp → Prop) → Prop
abbrev TGs := List V → St → Hp → (St → Hp → Prop) → Prop
noncomputable def PG (X : Cx) (target : Expr) (t : TG) : Prop :=
  ∀ (pins : List (Addr × Obj)) (s : Shared) (σ : St) (H : Hp) (v : V) (u : Value) (Q : St → Hp → Prop), Inv X pins σ H s → RelV v u → t v σ H Q →
    wpAny (model X.prog X.w) X.A (assign target X.env u) (fun _ s' => ∃ σ' H', Inv X pins σ' H' s' ∧ Q σ' H') X.xe s
noncomputable def PGs (X : Cx) (ts : List Expr) (t : TGs) : Prop :=
  ∀ (pins : List (Addr × Obj)) (s : Shared) (σ : St) (H : Hp) (vs : List V) (us : List Value) (Q : St → Hp → Prop), Inv X pins σ H s → Vals vs us → t vs σ H Q →
    wpAny (model X.prog X.w) X.A (assignInOrder ((assignEach ts X.env).map (·.2)) us) (fun _ s' => ∃ σ' H', Inv X pins σ' H' s' ∧ Q σ' H') X.xe s
section
variable {X : Cx} {pos : Pos}
noncomputable def gName (i : Nat) : TG := fun v σ H Q => Q (σ.set i (some v)) H
theorem pg_name {i : Nat} {x : Str} (hN : X.N.Nodup) (hi : X.N[i]? = some x) (hx : Loc X.env.scope x) (hf : X.fn x = true ∨ X.env.scope.names.lookup x = some .local := by first | exact .inl rfl | exact .inr rfl | assumption) : PG X (.Name x pos) (gName i) := by
  intro pins s σ H v u Q I r h
  exact wpAny_assign_Name (store_ok I hN hi hx r (fun s' I' => ⟨_, H, I', h⟩) hf)
noncomputable def gNil : TGs := fun vs σ H Q => vs = [] ∧ Q σ H
noncomputable def gCons (t : TG) (u : TGs) : TGs := fun vs σ H Q => ∃ v r, vs = v :: r ∧ t v σ H fun σ' H' => u r σ' H' Q
theorem pgs_nil : PGs X [] gNil := by
  intro pins s σ H vs us Q I r h
  obtain ⟨e, h⟩ := h
  subst e
  cases r
  exact assignInOrder_nil ⟨σ, H, I, h⟩
theorem pgs_cons {e : Expr} {es : List Expr} {t : TG} {u : TGs} (h1 : PG X e t) (h2 : PGs X es u)
    (hs : (assignEach (e :: es) X.env).map (·.2) = assign e X.env :: (assignEach es X.env).map (·.2) := by rfl) : PGs X (e :: es) (gCons t u) := by
  intro pins s σ H vs us Q I r h
  obtain ⟨v, vr, e1, h⟩ := h
  subst e1
  cases r with
  | cons r rr =>
    rw [hs]
    refine assignInOrder_cons (thn (h1 pins s σ H _ _ _ I r h) fun _ s1 ⟨σ1, H1, I1, q1⟩ => ?_)
    exact h2 pins s1 σ1 H1 _ _ Q I1 rr q1
noncomputable def gTup (K : PySem.W.Frag) (n : Nat) (t : TGs) : TG := fun v σ H Q => ∃ a xs, v = .ref a ∧ SqT K H a xs ∧ xs.length = n ∧ t xs σ H Q
theorem pg_tup {es : List Expr} {k : Nat} {t : TGs} {n : Nat} (hc : X.calm = true) (h : PGs X es t)
    (hn : (assignEach es X.env).length = n := by rfl) (hst : (assignEach es X.env).findIdx? (·.1) = none := by rfl) : PG X (.Tuple es k pos) (gTup X.K n t) := by
  intro pins s σ H v u Q I r hw
  obtain ⟨a, xs, e1, hq, hl, hw⟩ := hw
  subst e1
  cases r
  obtain ⟨its, rv, ht, hz⟩ := I.tuple hq
  refine assign_Tuple_tuple (I.ok.hd hc) ht (by simp [hn, ← hl, rv.length]) hst fun h' hx => ?_
  have I1 : Inv X pins σ H { s with heap := h' } := I.kept (t' := s.toks) fun b o e => hx b o (Nat.ne_of_lt (Heap.lt_size e)) e
  exact h pins _ σ H xs _ Q I1 (by simpa using rv) hw
noncomputable def tAsg (te : TE) (g : TG) : TS := fun D σ H => te σ H fun x H1 => g x σ H1 D.nx
theorem ps_asg {tg e : Expr} {te : TE} {g : TG} (he : PE X e te) (hg : PG X tg g) (hs : swapsWithSole [tg] e pos.line X.env = pure false := by rfl) (hw : swappedStores [tg] e X.env = pure none := by rfl)
    (h1 : (assignEach [tg] X.env).map (·.2) = [assign tg X.env] := by rfl) : PS X (.Assign [tg] e pos) (tAsg te g) := by
  intro pins s σ H D I h
  refine wpAny_Assign_stores (thn (he pins s σ H _ I h) fun v s1 ⟨x, H1, I1, r1, q1⟩ => ?_) hs hw
  rw [h1]
  exact thn (hg pins s1 σ H1 x v _ I1 r1 q1) fun _ s2 q => q
theorem ps_set {i : Nat} {x : Str} {e : Expr} {te : TE} {pos' : Pos} (hN : X.N.Nodup) (hi : X.N[i]? = some x) (hx : Loc X.env.scope x) (he : PE X e te) (hs : swapsWith e (some (.Name x pos')) pos.line X.env = pure false := by rfl) (hf : X.fn x = true ∨ X.env.scope.names.lookup x = some .local := by first | exact .inl rfl | exact .inr rfl | assumption) :
    PS X (.Assign [.Name x pos'] e pos) (tAsg te (gName i)) := by
  intro pins s σ H D I h
  refine wpAny_Assign_Name (thn (he pins s σ H _ I h) fun v s1 ⟨y, H1, I1, r1, q1⟩ => ?_) hs
  exact store_ok I1 hN hi hx r1 (fun s2 I2 => ⟨_, H1, I2, q1⟩) hf
end
section
variable {X : Cx} {pos : Pos}
end
structure It where
  go : Nat → Hp → Prop
  yld : Nat → Hp → V → Hp → Prop
  stop : Nat → Hp → Prop
noncomputable def FpOk (X : Cx) (pins : List (Addr × Obj)) (H : Hp) (b : Addr) : Prop :=
  H b = none ∧ b ≠ X.env.locals ∧ b ∉ X.fs ∧ (b ∈ X.ex ∨ X.s₀.heap.objs.size ≤ b) ∧ (∀ x c, X.env.cells.lookup x = some c → c ≠ b) ∧ ∀ p ∈ X.pn ++ pins, p.1 ≠ b
theorem Inv.fpOk {X : Cx} {pins : List (Addr × Obj)} {σ : St} {H H' : Hp} {s : Shared} {b : Addr} (I : Inv X pins σ H s) (hb : s.heap.objs.size ≤ b) (hn : H' b = none) : FpOk X pins H' b := by
  refine ⟨hn, Nat.ne_of_gt (Nat.lt_of_lt_of_le I.lt hb), I.nofs hb, .inr (Nat.le_trans I.sz hb), fun x c e z => ?_, fun p hp z => ?_⟩
  · obtain ⟨v, q⟩ := I.cell x c e
    exact absurd (Nat.lt_of_lt_of_le q.lt (by rw [z]; exact hb)) (Nat.lt_irrefl _)
  · exact absurd (Nat.lt_of_lt_of_le (Heap.lt_size (I.pin p hp).1) (by rw [z]; exact hb)) (Nat.lt_irrefl _)
structure Turn (P : Program) (w : World) (K : PySem.W.Frag) (tg : Expr) (J : It) (fp : List Addr) (it : Addr) (tn : Nat → Heap → Prop) : Prop where
  mem : it ∈ fp
  obj : ∀ i h, tn i h → ∀ b ∈ fp, ∃ o, h.get? b = some o ∧ ∀ v, o.data ≠ .cell v
  keep : ∀ i h h', tn i h → (∀ b ∈ fp, ∀ o, h.get? b = some o → h'.get? b = some o) → tn i h'
  item : ∀ (X : Cx), X.prog = P → X.w = w → X.K = K → X.calm = true → ∀ (i : Nat) (pins : List (Addr × Obj)) (s : Shared) (σ : St) (H : Hp) (E : Value → Shared → Prop), Inv X pins σ H s → (∀ b ∈ fp, FpOk X pins H b) → tn i s.heap → J.go i H →
    wpAny (model P w) X.A (pyNext (.ref it)) (fun r s1 => ∃ u, r = some u ∧
      wpAny (model P w) X.A (letOwnedTupleGo tg (.ref it) u) (fun _ s2 => ∃ x H', Inv X pins σ H' s2 ∧ RelV x u ∧ J.yld i H x H' ∧ tn (i + 1) s2.heap ∧ ∀ b ∈ fp, H' b = none) E s1) E s
  done : ∀ (X : Cx), X.prog = P → X.w = w → X.K = K → X.calm = true → ∀ (i : Nat) (pins : List (Addr × Obj)) (s : Shared) (σ : St) (H : Hp) (E : Value → Shared → Prop), Inv X pins σ H s → (∀ b ∈ fp, FpOk X pins H b) → tn i s.heap → J.stop i H →
    wpAny (model P w) X.A (pyNext (.ref it)) (fun r s1 => r = none ∧ Inv X pins σ H s1) E s
  self : ∀ (A : Around) (i : Nat) (s : Shared) (Q : Value → Shared → Prop) (E : Value → Shared → Prop), tn i s.heap → Q (.ref it) s → wpAny (model P w) A (pyIter (.ref it)) Q E s
abbrev TI := St → Hp → (It → Hp → Prop) → Prop
noncomputable def PIE (X : Cx) (pins : List (Addr × Obj)) (σ : St) (tg : Expr) (R : It → Hp → Prop) (itv : Value) (s2 : Shared) : Prop :=
  ∃ (it : Addr) (fp : List Addr) (tn : Nat → Heap → Prop) (J : It) (H' : Hp), itv = .ref it ∧ Inv X pins σ H' s2 ∧ Turn X.prog X.w X.K tg J fp it tn ∧ tn 0 s2.heap ∧ (∀ b ∈ fp, FpOk X pins H' b) ∧ R J H'
noncomputable def PI (X : Cx) (tg iter : Expr) (wi : TI) : Prop :=
  ∀ (pins : List (Addr × Obj)) (s : Shared) (σ : St) (H : Hp) (R : It → Hp → Prop), Inv X pins σ H s → wi σ H R →
    wpAny (model X.prog X.w) X.A (eval iter X.env) (fun v s1 => wpAny (model X.prog X.w) X.A (pyIter v) (PIE X pins σ tg R) X.xe s1) X.xe s
theorem go_of {M : Model} {A : Around} {E : Value → Shared → Prop} {s : Shared} {tg : Expr} {it : Addr} {u : Value} {o : Obj} {n : String} {vs : Array Value} {Q : Unit → Shared → Prop} (ho : s.heap.get? it = some o) (hc : o.cls = .type n) (hd : o.data = .fields vs)
    (hn : ["enumerate", "zip", "dict_itemiterator", "dict_reverseitemiterator", "odict_iterator", "itertools.zip_longest", "itertools.pairwise"].contains n = false) (hQ : Q () s) : wpAny M A (letOwnedTupleGo tg (.ref it) u) Q E s := by
  unfold letOwnedTupleGo
  cases tg <;> first
    | exact wpAny_pure hQ
    | (cases u <;> first
        | exact wpAny_pure hQ
        | (refine wpAny_bind (wpAny_load ho ?_)
           rw [hc, hd]
           show wpAny M A (if (["enumerate", "zip", "dict_itemiterator", "dict_reverseitemiterator", "odict_iterator", "itertools.zip_longest", "itertools.pairwise"].contains n && vs[0]? == some (rawInt _)) = true then _ else _) Q E s
           rw [if_neg (by intro h; rw [hn, Bool.false_and] at h; cases h)]
           exact wpAny_pure hQ))
noncomputable def Itl (K : PySem.W.Frag) (a : Addr) : It :=
  ⟨fun i H => ∃ xs x, SqL K H a xs ∧ xs[i]? = some x, fun i H x H' => H' = H ∧ ∀ xs, SqL K H a xs → xs[i]? = some x, fun i H => ∃ xs, SqL K H a xs ∧ xs.length ≤ i⟩
noncomputable def Itt (K : PySem.W.Frag) (a : Addr) : It :=
  ⟨fun i H => ∃ xs x, SqT K H a xs ∧ xs[i]? = some x, fun i H x H' => H' = H ∧ ∀ xs, SqT K H a xs → xs[i]? = some x, fun i H => ∃ xs, SqT K H a xs ∧ xs.length ≤ i⟩
noncomputable def Itr (lo : Int) (n : Nat) : It := ⟨fun i _ => i < n, fun i H x H' => H' = H ∧ x = .int (lo + i), fun i _ => n ≤ i⟩
theorem turn_list {P : Program} {w : World} {K : PySem.W.Frag} {tg : Expr} (a it : Addr) : Turn P w K tg (Itl K a) [it] it (fun i h => h.IsListIter it a i) where
  mem := by simp
  obj := fun i h st b hb => by
    have e : b = it := by simpa using hb
    subst e
    obtain ⟨o, e, c, d⟩ := st
    exact ⟨o, e, fun v z => by rw [d] at z; cases z⟩
  keep := fun i h h' st k => st.at fun o e => k it (by simp) o e
  item := by
    intro X hP hw hK hc i pins s σ H E I hf st hg
    subst hP hw hK
    obtain ⟨xs, x, hq, hx⟩ := hg
    obtain ⟨its, rv, p, hz⟩ := I.list hq
    obtain ⟨u, hu, ru⟩ := rv.get hx
    obtain ⟨f0, f1, f2, f3, f4, f5⟩ := hf it (by simp)
    refine wpAny_pyNext_list_item st p.isList (x := u) (by simpa using hu) fun h' st' sb => ?_
    have I1 : Inv X pins σ H { s with heap := h' } := I.turned (t' := s.toks) (fun b o hb e => (sb.2 b hb).trans e) f0 f1 f3 f4 f5
    obtain ⟨o, e, c, d⟩ := id st'
    exact ⟨u, rfl, go_of (s := { s with heap := h' }) e c d (by decide) ⟨x, H, I1, ru, ⟨rfl, fun ys hy => by rw [I.list_inj hy hq]; exact hx⟩, st', fun b hb => (hf b hb).1⟩⟩
  done := by
    intro X hP hw hK hc i pins s σ H E I hf st hg
    subst hP hw hK
    obtain ⟨xs, hq, hx⟩ := hg
    obtain ⟨its, rv, p, hz⟩ := I.list hq
    obtain ⟨f0, f1, f2, f3, f4, f5⟩ := hf it (by simp)
    have hl := rv.length
    exact wpAny_pyNext_list_end (I.ok.hd hc) st p.isList (by simp; omega) fun h' eb => ⟨rfl, I.turned (t' := s.toks) (fun b o hb e => eb b o hb e) f0 f1 f3 f4 f5⟩
  self := fun _ _ _ _ _ st h => wpAny_pyIter_listiter st h
theorem turn_tuple {P : Program} {w : World} {K : PySem.W.Frag} {tg : Expr} (a it : Addr) : Turn P w K tg (Itt K a) [it] it (fun i h => h.IsTupleIter it a i) where
  mem := by simp
  obj := fun i h st b hb => by
    have e : b = it := by simpa using hb
    subst e
    obtain ⟨o, e, c, d⟩ := st
    exact ⟨o, e, fun v z => by rw [d] at z; cases z⟩
  keep := fun i h h' st k => st.at fun o e => k it (by simp) o e
  item := by
    intro X hP hw hK hc i pins s σ H E I hf st hg
    subst hP hw hK
    obtain ⟨xs, x, hq, hx⟩ := hg
    obtain ⟨its, rv, p, hz⟩ := I.tuple hq
    obtain ⟨u, hu, ru⟩ := rv.get hx
    obtain ⟨f0, f1, f2, f3, f4, f5⟩ := hf it (by simp)
    refine wpAny_pyNext_tuple_item st (show s.heap.IsTuple a its.toArray from p) (x := u) (by simpa using hu) fun h' st' sb => ?_
    have I1 : Inv X pins σ H { s with heap := h' } := I.turned (t' := s.toks) (fun b o hb e => (sb.2 b hb).trans e) f0 f1 f3 f4 f5
    obtain ⟨o, e, c, d⟩ := id st'
    exact ⟨u, rfl, go_of (s := { s with heap := h' }) e c d (by decide) ⟨x, H, I1, ru, ⟨rfl, fun ys hy => by rw [I.tuple_inj hy hq]; exact hx⟩, st', fun b hb => (hf b hb).1⟩⟩
  done := by
    intro X hP hw hK hc i pins s σ H E I hf st hg
    subst hP hw hK
    obtain ⟨xs, hq, hx⟩ := hg
    obtain ⟨its, rv, p, hz⟩ := I.tuple hq
    obtain ⟨f0, f1, f2, f3, f4, f5⟩ := hf it (by simp)
    have hl := rv.length
    exact wpAny_pyNext_tuple_end (I.ok.hd hc) st (show s.heap.IsTuple a its.toArray from p) (by simp; omega) fun h' eb => ⟨rfl, I.turned (t' := s.toks) (fun b o hb e => eb b o hb e) f0 f1 f3 f4 f5⟩
  self := fun _ _ _ _ _ st h => wpAny_pyIter_tupleiter st h
theorem turn_range {P : Program} {w : World} {K : PySem.W.Frag} {tg : Expr} (it : Addr) (lo : Int) (n : Nat) : Turn P w K tg (Itr lo n) [it] it (fun i h => IsRangeIter h it (lo + (i : Nat) * 1) ((n : Int) - (i : Nat)) 1) where
  mem := by simp
  obj := fun i h st b hb => by
    have e : b = it := by simpa using hb
    subst e
    exact ⟨_, st, fun v z => by
      have z' : Data.fields _ = Data.cell v := z
      cases z'⟩
  keep := fun i h h' st k => k it (by simp) _ st
  item := by
    intro X hP hw hK hc i pins s σ H E I hf st hg
    subst hP hw hK
    obtain ⟨f0, f1, f2, f3, f4, f5⟩ := hf it (by simp)
    have W := Walks.range (prog := X.prog) (w := X.w) (I.ok.hd hc) it lo 1 n
    refine W.item i s _ _ hg st fun v h' tk hv st' kk => ?_
    obtain ⟨t, rfl⟩ := hv
    have I1 : Inv X pins σ H { s with heap := h', toks := tk } := I.turned (fun b o hb e => kk b o (by simpa using hb) e) f0 f1 f3 f4 f5
    refine ⟨_, rfl, go_of (s := { s with heap := h', toks := tk }) (n := "range_iterator") st' rfl rfl (by decide) ⟨.int (lo + i), H, I1, ⟨t, ?_⟩, ⟨rfl, rfl⟩, st', fun b hb => (hf b hb).1⟩⟩
    rw [Int.mul_one]
  done := by
    intro X hP hw hK hc i pins s σ H E I hf st hg
    subst hP hw hK
    obtain ⟨f0, f1, f2, f3, f4, f5⟩ := hf it (by simp)
    exact wpAny_pyNext_range_end (I.ok.hd hc) st (by have : n ≤ i := hg; omega) fun h' eb => ⟨rfl, I.turned (t' := s.toks) (fun b o hb e => eb b o hb e) f0 f1 f3 f4 f5⟩
  self := fun _ _ _ _ _ st h => wpAny_pyIter_rangeiter st h
end L2
namespace L2
open PySem PySem.Spec PyProof.Rows
section
variable {X : Cx} {tg : Expr}
noncomputable def iList (K : PySem.W.Frag) (tl : TE) : TI := fun σ H R => tl σ H fun x H1 => ∃ a, x = .ref a ∧ (∃ xs, SqL K H1 a xs) ∧ R (Itl K a) H1
noncomputable def iTup (K : PySem.W.Frag) (tl : TE) : TI := fun σ H R => tl σ H fun x H1 => ∃ a, x = .ref a ∧ (∃ xs, SqT K H1 a xs) ∧ R (Itt K a) H1
theorem pi_list {l : Expr} {tl : TE} (hl : PE X l tl) : PI X tg l (iList X.K tl) := by
  intro pins s σ H R I h
  refine thn (hl pins s σ H _ I h) fun v s1 ⟨x, H1, I1, r1, q1⟩ => ?_
  obtain ⟨a, e, ⟨xs, hq⟩, q⟩ := q1
  subst e
  cases r1
  obtain ⟨its, rv, p, hz⟩ := I1.list hq
  refine wpAny_pyIter_list p.isList ?_
  refine ⟨s1.heap.objs.size, [s1.heap.objs.size], _, _, H1, rfl, I1.kept (t' := s1.toks) fun b o e => Heap.get?_push_of_some _ e, turn_list a _, ⟨_, Heap.get?_push_size _ rfl, rfl, rfl⟩, fun b hb => ?_, q⟩
  have e : b = s1.heap.objs.size := by simpa using hb
  subst e
  exact I1.fpOk (Nat.le_refl _) (I1.hok.fresh (Nat.le_refl _))
theorem pi_tup {l : Expr} {tl : TE} (hl : PE X l tl) : PI X tg l (iTup X.K tl) := by
  intro pins s σ H R I h
  refine thn (hl pins s σ H _ I h) fun v s1 ⟨x, H1, I1, r1, q1⟩ => ?_
  obtain ⟨a, e, ⟨xs, hq⟩, q⟩ := q1
  subst e
  cases r1
  obtain ⟨its, rv, p, hz⟩ := I1.tuple hq
  refine wpAny_pyIter_tuple (show s1.heap.IsTuple a its.toArray from p) ?_
  refine ⟨s1.heap.objs.size, [s1.heap.objs.size], _, _, H1, rfl, I1.kept (t' := s1.toks) fun b o e => Heap.get?_push_of_some _ e, turn_tuple a _, ⟨_, Heap.get?_push_size _ rfl, rfl, rfl⟩, fun b hb => ?_, q⟩
  have e : b = s1.heap.objs.size := by simpa using hb
  subst e
  exact I1.fpOk (Nat.le_refl _) (I1.hok.fresh (Nat.le_refl _))
theorem range_it {pins : List (Addr × Obj)} {σ : St} {H : Hp} {s : Shared} {R : It → Hp → Prop} {E : Value → Shared → Prop} {lo hi : Int} {t u v : Tok} {tk : Nat} (I : Inv X pins σ H s) (h1 : -(2 ^ 62) ≤ lo) (h2 : lo < 2 ^ 62) (h3 : -(2 ^ 62) ≤ hi) (h4 : hi < 2 ^ 62)
    (q : R (Itr lo (hi - lo).toNat) H) : wpAny (model X.prog X.w) X.A (pyIter (.ref s.heap.objs.size)) (PIE X pins σ tg R) E { s with heap := s.heap.push { cls := .type "range", data := .fields #[.int lo t, .int hi u, .int 1 v] }, toks := tk } := by
  refine wpAny_pyIter_range (IsRange.new ..) (small_one h1 h2 h3 h4) ?_
  have I1 : Inv X pins σ H { s with heap := s.heap.push { cls := .type "range", data := .fields #[.int lo t, .int hi u, .int 1 v] }, toks := tk } := I.kept fun b o e => Heap.get?_push_of_some _ e
  refine ⟨(s.heap.push { cls := .type "range", data := .fields #[.int lo t, .int hi u, .int 1 v] }).objs.size, [(s.heap.push { cls := .type "range", data := .fields #[.int lo t, .int hi u, .int 1 v] }).objs.size], _, _, H, rfl,
    I1.kept (t' := tk) fun b o e => Heap.get?_push_of_some _ e, turn_range _ lo (hi - lo).toNat, ?_, fun b hb => ?_, q⟩
  · have e1 : lo + ((0 : Nat) : Int) * 1 = lo := by simp
    have e2 : (((hi - lo).toNat : Nat) : Int) - ((0 : Nat) : Int) = Builtin.Range.rangeSize lo hi 1 := by rw [rangeSize_one]; split <;> omega
    show IsRangeIter _ _ (lo + ((0 : Nat) : Int) * 1) ((((hi - lo).toNat : Nat) : Int) - ((0 : Nat) : Int)) 1
    rw [e1, e2]
    exact Heap.get?_push_size _ rfl
  · have e : b = (s.heap.push { cls := .type "range", data := .fields #[.int lo t, .int hi u, .int 1 v] }).objs.size := by simpa using hb
    subst e
    exact I1.fpOk (Nat.le_refl _) (I1.hok.fresh (Nat.le_refl _))
noncomputable def iRng1 (ta : TA) : TI := fun σ H R => ta σ H fun vs H1 => ∃ j : Int, vs = [.int j] ∧ -(2 ^ 62) ≤ j ∧ j < 2 ^ 62 ∧ R (Itr 0 j.toNat) H1
theorem pi_range1 {a : Expr} {ta : TA} {p pos : Pos} (hg : Gl X "range") (hm : X.mg "range" = none) (ha : PA X [a] ta) (hs : starEach [a] X.env = [(false, eval a X.env)] := by rfl) : PI X tg (.Call (.Name "range" p) [a] [] pos) (iRng1 ta) := by
  intro pins s σ H R I h
  refine Call_ (ld_blt I hg hm boot_range (PyProof.Rows.callWith_type1 (thn (ha pos pins s σ H _ I h) fun us s1 ⟨vs, H1, I1, r1, q1⟩ => ?_) hs rfl))
  obtain ⟨j, e, q1, q2, q⟩ := q1
  subst e
  cases r1 with
  | cons r rr =>
    cases rr
    obtain ⟨t, rfl⟩ := r
    exact call_range_1 (range_it I1 (by omega) (by omega) q1 q2 (by simpa using q))
noncomputable def tFor (wi : TI) (g : TG) (tb : TS) : TS := fun D σ H => wi σ H fun J H1 => ∃ W : Nat → Nat → St → Hp → Prop, (∃ m, W 0 m σ H1) ∧ ∀ i m σ H, W i m σ H →
  (J.stop i H ∧ D.nx σ H) ∨ (J.go i H ∧ ∃ N : St → Hp → Prop, (∀ σ' H', N σ' H' → ∃ m', m' < m ∧ W (i + 1) m' σ' H') ∧ ∀ x H', J.yld i H x H' → g x σ H' fun σ2 H2 => tb { D with nx := N, ct := N, bk := D.nx } σ2 H2)
noncomputable def pinsAt (fp : List Addr) (h : Heap) : List (Addr × Obj) := fp.filterMap fun b => (h.get? b).map fun o => (b, o)
theorem mem_pinsAt {fp : List Addr} {h : Heap} {b : Addr} {o : Obj} (hb : b ∈ fp) (e : h.get? b = some o) : (b, o) ∈ pinsAt fp h := List.mem_filterMap.mpr ⟨b, hb, by rw [e]; rfl⟩
theorem of_pinsAt {fp : List Addr} {h : Heap} {p : Addr × Obj} (hp : p ∈ pinsAt fp h) : p.1 ∈ fp ∧ h.get? p.1 = some p.2 := by
  obtain ⟨b, hb, e⟩ := List.mem_filterMap.mp hp
  cases q : h.get? b with
  | none => rw [q] at e; cases e
  | some o =>
    rw [q] at e
    have e' : (b, o) = p := Option.some.inj e
    subst e'
    exact ⟨hb, q⟩
theorem Inv.pinned {pins : List (Addr × Obj)} {σ : St} {H : Hp} {s : Shared} {fp : List Addr} (I : Inv X pins σ H s) (hf : ∀ b ∈ fp, FpOk X pins H b) (ho : ∀ b ∈ fp, ∃ o, s.heap.get? b = some o ∧ ∀ v, o.data ≠ .cell v) : Inv X (pins ++ pinsAt fp s.heap) σ H s :=
  I.pins_of fun p hp => (List.mem_append.mp hp).elim (fun z => I.pin p (List.mem_append_right _ z)) fun z => by
    obtain ⟨hb, e⟩ := of_pinsAt z
    obtain ⟨f0, f1, f2, _⟩ := hf p.1 hb
    obtain ⟨o, e', d⟩ := ho p.1 hb
    rw [e] at e'; cases e'
    exact ⟨e, f0, f1, f2, d⟩
theorem Inv.unpinned {pins pl : List (Addr × Obj)} {σ : St} {H : Hp} {s : Shared} (I : Inv X (pins ++ pl) σ H s) : Inv X pins σ H s := I.pins_of fun p hp => I.pin p (List.mem_append_right _ (List.mem_append_left _ hp))
theorem ps_for {iter : Expr} {body : List Stmt} {wi : TI} {g : TG} {tb : TS} {pos : Pos} (hp : PassesOwn (model X.prog X.w) X.A X.env X.xe) (hc : X.calm = true) (hi : PI X tg iter wi) (hg : PG X tg g) (hb : PSs X body tb)
    (hs : ∀ x, foldedSetIterable iter X.env x = pure x := by intro _; rfl) : PS X (.For tg iter body [] pos) (tFor wi g tb) := by
  intro pins s σ H D I h
  refine wpAny_For (thn (hi pins s σ H _ I h) fun v s1 h1 => thn h1 fun itv s2 h2 => ?_) hs
  obtain ⟨it, fp, tn, J, H2, e, I2, T, st2, f2, W, ⟨m0, w0⟩, turn⟩ := h2
  subst e
  have stat : ∀ {H' : Hp}, (∀ b ∈ fp, H' b = none) → ∀ b ∈ fp, FpOk X pins H' b := fun hn b hb => ⟨hn b hb, (f2 b hb).2⟩
  refine codeAny_forLoop_any (fun n s' => ∃ i σ' H', Inv X pins σ' H' s' ∧ tn i s'.heap ∧ (∀ b ∈ fp, H' b = none) ∧ W i n σ' H') ?_ m0 ⟨0, σ, H2, I2, st2, fun b hb => (f2 b hb).1, w0⟩
  rintro n s3 ⟨i, σ3, H3, I3, st3, fr3, w3⟩
  rcases turn i n σ3 H3 w3 with ⟨stop, qn⟩ | ⟨go, N, hN, step⟩
  · refine wpAny_passesOwn hp (thn (T.done X rfl rfl rfl hc i pins s3 σ3 H3 X.xe I3 (stat fr3) st3 stop) fun r s4 ⟨hr, I4⟩ => ?_)
    subst hr
    exact wpAny_execs_nil ⟨σ3, H3, I4, qn⟩
  · refine wpAny_passesOwn hp (thn (T.item X rfl rfl rfl hc i pins s3 σ3 H3 X.xe I3 (stat fr3) st3 go) fun r s4 ⟨u, hr, h4⟩ => ?_)
    subst hr
    refine wpAny_passesOwn hp (thn h4 fun _ s5 ⟨x, H5, I5, r5, y5, st5, fr5⟩ => ?_)
    have I5' := I5.pinned (stat fr5) (T.obj _ _ st5)
    refine wpAny_passesOwn hp (thn (hg _ s5 σ3 H5 x u _ I5' r5 (step x H5 y5)) fun _ s6 ⟨σ6, H6, I6, q6⟩ => ?_)
    refine wpAny_passesOwn hp (thn (hb _ s6 σ6 H6 _ I6 q6) fun f s7 q7 => ?_)
    have again : ∀ {σ7 : St} {H7 : Hp}, Inv X (pins ++ pinsAt fp s5.heap) σ7 H7 s7 → N σ7 H7 → ∃ m, m < n ∧ ∃ i σ' H', Inv X pins σ' H' s7 ∧ tn i s7.heap ∧ (∀ b ∈ fp, H' b = none) ∧ W i m σ' H' := fun {σ7 H7} I7 n7 => by
      obtain ⟨m', hm, w7⟩ := hN σ7 H7 n7
      refine ⟨m', hm, i + 1, σ7, H7, I7.unpinned, T.keep _ _ _ st5 fun b hb o e => (I7.pin (b, o) (List.mem_append_right _ (List.mem_append_right _ (mem_pinsAt hb e)))).1, fun b hb => ?_, w7⟩
      obtain ⟨o, e, d⟩ := T.obj _ _ st5 b hb
      exact (I7.pin (b, o) (List.mem_append_right _ (List.mem_append_right _ (mem_pinsAt hb e)))).2.1
    cases f with
    | next => obtain ⟨σ7, H7, I7, n7⟩ := q7; exact again I7 n7
    | cont => obtain ⟨σ7, H7, I7, n7⟩ := q7; exact again I7 n7
    | brk => obtain ⟨σ7, H7, I7, q7⟩ := q7; exact ⟨σ7, H7, I7.unpinned, q7⟩
    | ret v => obtain ⟨x7, σ7, H7, I7, r7, q7⟩ := q7; exact ⟨x7, σ7, H7, I7.unpinned, r7, q7⟩
end
theorem for_list {K : PySem.W.Frag} {a : Addr} {xs : List V} {g : TG} {tb : TS} {D : Ends} {σ : St} {H : Hp} (Pv : Nat → St → Hp → Prop) (h0 : Pv 0 σ H) (hl : ∀ i σ H, i ≤ xs.length → Pv i σ H → SqL K H a xs)
    (hs : ∀ i x σ H, xs[i]? = some x → Pv i σ H → g x σ H fun σ2 H2 => tb { D with nx := Pv (i + 1), ct := Pv (i + 1), bk := D.nx } σ2 H2) (hd : ∀ σ H, Pv xs.length σ H → D.nx σ H) :
    ∃ W : Nat → Nat → St → Hp → Prop, (∃ m, W 0 m σ H) ∧ ∀ i m σ H, W i m σ H →
      ((Itl K a).stop i H ∧ D.nx σ H) ∨ ((Itl K a).go i H ∧ ∃ N : St → Hp → Prop, (∀ σ' H', N σ' H' → ∃ m', m' < m ∧ W (i + 1) m' σ' H') ∧ ∀ x H', (Itl K a).yld i H x H' → g x σ H' fun σ2 H2 => tb { D with nx := N, ct := N, bk := D.nx } σ2 H2) := by
  refine ⟨fun i m σ H => m = xs.length - i ∧ i ≤ xs.length ∧ Pv i σ H, ⟨xs.length, by simp, Nat.zero_le _, h0⟩, ?_⟩
  rintro i m σ H ⟨rfl, hi, p⟩
  have q := hl i σ H hi p
  by_cases hlt : i < xs.length
  · refine .inr ⟨⟨xs, xs[i], q, by simp [hlt]⟩, Pv (i + 1), fun σ' H' p' => ⟨xs.length - (i + 1), by omega, rfl, hlt, p'⟩, fun x H' y => ?_⟩
    obtain ⟨e, y⟩ := y
    subst e
    exact hs i x σ _ (y xs q) p
  · have e : i = xs.length := by omega
    subst e
    exact .inl ⟨⟨xs, q, Nat.le_refl _⟩, hd σ H p⟩
theorem for_tup {K : PySem.W.Frag} {a : Addr} {xs : List V} {g : TG} {tb : TS} {D : Ends} {σ : St} {H : Hp} (Pv : Nat → St → Hp → Prop) (h0 : Pv 0 σ H) (hl : ∀ i σ H, i ≤ xs.length → Pv i σ H → SqT K H a xs)
    (hs : ∀ i x σ H, xs[i]? = some x → Pv i σ H → g x σ H fun σ2 H2 => tb { D with nx := Pv (i + 1), ct := Pv (i + 1), bk := D.nx } σ2 H2) (hd : ∀ σ H, Pv xs.length σ H → D.nx σ H) :
    ∃ W : Nat → Nat → St → Hp → Prop, (∃ m, W 0 m σ H) ∧ ∀ i m σ H, W i m σ H →
      ((Itt K a).stop i H ∧ D.nx σ H) ∨ ((Itt K a).go i H ∧ ∃ N : St → Hp → Prop, (∀ σ' H', N σ' H' → ∃ m', m' < m ∧ W (i + 1) m' σ' H') ∧ ∀ x H', (Itt K a).yld i H x H' → g x σ H' fun σ2 H2 => tb { D with nx := N, ct := N, bk := D.nx } σ2 H2) := by
  refine ⟨fun i m σ H => m = xs.length - i ∧ i ≤ xs.length ∧ Pv i σ H, ⟨xs.length, by simp, Nat.zero_le _, h0⟩, ?_⟩
  rintro i m σ H ⟨rfl, hi, p⟩
  have q := hl i σ H hi p
  by_cases hlt : i < xs.length
  · refine .inr ⟨⟨xs, xs[i], q, by simp [hlt]⟩, Pv (i + 1), fun σ' H' p' => ⟨xs.length - (i + 1), by omega, rfl, hlt, p'⟩, fun x H' y => ?_⟩
    obtain ⟨e, y⟩ := y
    subst e
    exact hs i x σ _ (y xs q) p
  · have e : i = xs.length := by omega
    subst e
    exact .inl ⟨⟨xs, q, Nat.le_refl _⟩, hd σ H p⟩
theorem for_range {lo : Int} {n : Nat} {g : TG} {tb : TS} {D : Ends} {σ : St} {H : Hp} (Pv : Nat → St → Hp → Prop) (h0 : Pv 0 σ H)
    (hs : ∀ i σ H, i < n → Pv i σ H → g (.int (lo + i)) σ H fun σ2 H2 => tb { D with nx := Pv (i + 1), ct := Pv (i + 1), bk := D.nx } σ2 H2) (hd : ∀ σ H, Pv n σ H → D.nx σ H) :
    ∃ W : Nat → Nat → St → Hp → Prop, (∃ m, W 0 m σ H) ∧ ∀ i m σ H, W i m σ H →
      ((Itr lo n).stop i H ∧ D.nx σ H) ∨ ((Itr lo n).go i H ∧ ∃ N : St → Hp → Prop, (∀ σ' H', N σ' H' → ∃ m', m' < m ∧ W (i + 1) m' σ' H') ∧ ∀ x H', (Itr lo n).yld i H x H' → g x σ H' fun σ2 H2 => tb { D with nx := N, ct := N, bk := D.nx } σ2 H2) := by
  refine ⟨fun i m σ H => m = n - i ∧ i ≤ n ∧ Pv i σ H, ⟨n, by simp, Nat.zero_le _, h0⟩, ?_⟩
  rintro i m σ H ⟨rfl, hi, p⟩
  by_cases hlt : i < n
  · refine .inr ⟨hlt, Pv (i + 1), fun σ' H' p' => ⟨n - (i + 1), by omega, rfl, hlt, p'⟩, fun x H' y => ?_⟩
    obtain ⟨e, y⟩ := y
    subst e y
    exact hs i σ _ hlt p
  · have e : i = n := by omega
    subst e
    exact .inl ⟨Nat.le_refl _, hd σ H p⟩
end L2
namespace L2
open PySem PySem.Spec PyProof.Rows
abbrev R2 := V → V → Hp → VK → Prop
noncomputable def OpR (X : Cx) (f : Value → Value → Sem Value) (r : R2) : Prop :=
  ∀ (pins : List (Addr × Obj)) (s : Shared) (σ : St) (H : Hp) (x y : V) (v u : Value) (Q : VK), Inv X pins σ H s → RelV x v → RelV y u → r x y H Q →
    wpAny (model X.prog X.w) X.A (f v u) (EP X pins σ Q) X.xe s
noncomputable def UnR (X : Cx) (f : Value → Sem Value) (r : V → Hp → VK → Prop) : Prop :=
  ∀ (pins : List (Addr × Obj)) (s : Shared) (σ : St) (H : Hp) (x : V) (v : Value) (Q : VK), Inv X pins σ H s → RelV x v → r x H Q →
    wpAny (model X.prog X.w) X.A (f v) (EP X pins σ Q) X.xe s
noncomputable def CallR (X : Cx) (f : Value) (r : List V → Hp → VK → Prop) : Prop :=
  ∀ (pins : List (Addr × Obj)) (s : Shared) (σ : St) (H : Hp) (xs : List V) (us : List Value) (Q : VK), Inv X pins σ H s → Vals xs us → r xs H Q →
    wpAny (model X.prog X.w) X.A (call f us) (EP X pins σ Q) X.xe s
noncomputable def tOp (r : R2) (ta tb : TE) : TE := fun σ H Q => ta σ H fun x H1 => tb σ H1 fun y H2 => r x y H2 Q
noncomputable def tUn (r : V → Hp → VK → Prop) (ta : TE) : TE := fun σ H Q => ta σ H fun x H1 => r x H1 Q
noncomputable def rI (C : Int → Int → Prop) (g : Int → Int → V) : R2 := fun x y H Q => ∃ i j, x = .int i ∧ y = .int j ∧ C i j ∧ Q (g i j) H
noncomputable def rI0 (g : Int → Int → V) : R2 := fun x y H Q => ∃ i j, x = .int i ∧ y = .int j ∧ Q (g i j) H
noncomputable def rU (g : Int → V) : V → Hp → VK → Prop := fun x H Q => ∃ i, x = .int i ∧ Q (g i) H
section
variable {X : Cx} {a b c : Expr} {ta tb tc : TE} {pos : Pos}
theorem binT (ha : PE X a ta) (hb : PE X b tb) {pins : List (Addr × Obj)} {s : Shared} {σ : St} {H : Hp} {R : V → V → Hp → Prop} (I : Inv X pins σ H s)
    (h : ta σ H fun x H1 => tb σ H1 fun y H2 => R x y H2) {Q : Value → Shared → Prop} {f : Value → Value → Sem Value}
    (hf : ∀ v u s2 x y H2, Inv X pins σ H2 s2 → RelV x v → RelV y u → R x y H2 → wpAny (model X.prog X.w) X.A (f v u) Q X.xe s2) :
    wpAny (model X.prog X.w) X.A (eval a X.env) (fun v s₁ => wpAny (model X.prog X.w) X.A (eval b X.env) (fun u s₂ => wpAny (model X.prog X.w) X.A (f v u) Q X.xe s₂) X.xe s₁) X.xe s := by
  refine thn (ha pins s σ H _ I h) fun v s1 ⟨x, H1, I1, r1, q1⟩ => ?_
  refine thn (hb pins s1 σ H1 _ I1 q1) fun u s2 ⟨y, H2, I2, r2, q2⟩ => ?_
  exact hf v u s2 x y H2 I2 r1 r2 q2
theorem pe_op {op : Operator} {r : R2} (ho : OpR X (binaryOp op) r) (ha : PE X a ta) (hb : PE X b tb) : PE X (.BinOp a op b pos) (tOp r ta tb) := by
  intro pins s σ H Q I h
  exact wpAny_BinOp (binT ha hb I h fun v u s2 x y H2 I2 rx ry q => ho pins s2 σ H2 x y v u Q I2 rx ry q)
theorem pe_un {op : UnaryOp} {r : V → Hp → VK → Prop} (ho : UnR X (unaryOp op) r) (ha : PE X a ta) : PE X (.UnaryOp op a pos) (tUn r ta) := by
  intro pins s σ H Q I h
  exact UnaryOp_ (thn (ha pins s σ H _ I h) fun v s1 ⟨x, H1, I1, r1, q1⟩ => ho pins s1 σ H1 x v Q I1 r1 q1)
theorem opI {f : Value → Value → Sem Value} {C : Int → Int → Prop} {g : Int → Int → Int}
    (rule : ∀ (i j : Int) (t u : Tok) (s : Shared) (Q : Value → Shared → Prop) (E : Value → Shared → Prop), C i j → Q (.int (g i j) s.toks) { s with toks := s.toks + 1 } → wpAny (model X.prog X.w) X.A (f (.int i t) (.int j u)) Q E s) :
    OpR X f (rI C fun i j => .int (g i j)) := by
  intro pins s σ H x y v u Q I rx ry h
  obtain ⟨i, j, rfl, rfl, hc, q⟩ := h
  obtain ⟨t, rfl⟩ := rx
  obtain ⟨t', rfl⟩ := ry
  exact rule i j t t' s _ _ hc ⟨.int (g i j), H, I.tok _, ⟨_, rfl⟩, q⟩
theorem opI0 {f : Value → Value → Sem Value} {g : Int → Int → Int}
    (rule : ∀ (i j : Int) (t u : Tok) (s : Shared) (Q : Value → Shared → Prop) (E : Value → Shared → Prop), Q (.int (g i j) s.toks) { s with toks := s.toks + 1 } → wpAny (model X.prog X.w) X.A (f (.int i t) (.int j u)) Q E s) :
    OpR X f (rI0 fun i j => .int (g i j)) := by
  intro pins s σ H x y v u Q I rx ry h
  obtain ⟨i, j, rfl, rfl, q⟩ := h
  obtain ⟨t, rfl⟩ := rx
  obtain ⟨t', rfl⟩ := ry
  exact rule i j t t' s _ _ ⟨.int (g i j), H, I.tok _, ⟨_, rfl⟩, q⟩
theorem opB0 {f : Value → Value → Sem Value} {g : Int → Int → Bool}
    (rule : ∀ (i j : Int) (t u : Tok) (s : Shared) (Q : Value → Shared → Prop) (E : Value → Shared → Prop), Q (.bool (g i j)) s → wpAny (model X.prog X.w) X.A (f (.int i t) (.int j u)) Q E s) :
    OpR X f (rI0 fun i j => .bl (g i j)) := by
  intro pins s σ H x y v u Q I rx ry h
  obtain ⟨i, j, rfl, rfl, q⟩ := h
  obtain ⟨t, rfl⟩ := rx
  obtain ⟨t', rfl⟩ := ry
  exact rule i j t t' s _ _ ⟨.bl (g i j), H, I, rfl, q⟩
noncomputable def CDiv (i j : Int) : Prop := 0 < j ∧ j < 1073741824
noncomputable def CPow (i j : Int) : Prop := 0 ≤ j ∧ j ≤ 1000000 ∧ i.natAbs < 2 ^ 64
noncomputable def CMul (i j : Int) : Prop := (-(2 ^ 64) < i ∧ i < 2 ^ 64) ∨ (-(2 ^ 64) < j ∧ j < 2 ^ 64)
theorem CMul.ok {i j : Int} (h : CMul i j) : IntMulOk i j := by
  rcases h with ⟨h1, h2⟩ | ⟨h1, h2⟩
  · exact .of_left (intBits_le_64 h1 h2)
  · exact .of_right (intBits_le_64 h1 h2)
theorem op_add : OpR X (binaryOp .Add) (rI0 fun i j => .int (i + j)) := opI0 fun _ _ _ _ _ _ _ q => add_int q
theorem op_sub : OpR X (binaryOp .Sub) (rI0 fun i j => .int (i - j)) := opI0 fun _ _ _ _ _ _ _ q => sub_int q
theorem op_mul : OpR X (binaryOp .Mult) (rI CMul fun i j => .int (i * j)) := opI fun _ _ _ _ _ _ _ hc q => mul_int q hc.ok
theorem op_fdiv : OpR X (binaryOp .FloorDiv) (rI CDiv fun i j => .int (i / j)) := opI fun i j _ _ _ _ _ hc q => by
  have h1 : (0 : Int) < j := hc.1
  have h2 : j < 1073741824 := hc.2
  exact floordiv_int (by omega) (by rw [Int.fdiv_eq_ediv_of_nonneg i (by omega)]; exact q) (.inl (PyProof.noPylong_small (by omega)))
theorem op_mod : OpR X (binaryOp .Mod) (rI (fun _ j => 0 < j) fun i j => .int (i % j)) := opI fun i j _ _ _ _ _ hc q => by
  have h1 : (0 : Int) < j := hc
  exact mod_int' (by omega) (by rw [Int.fmod_eq_emod_of_nonneg i (by omega)]; exact q)
theorem op_pow : OpR X (binaryOp .Pow) (rI CPow fun i j => .int (i ^ j.toNat)) := opI fun _ _ _ _ _ _ _ hc q => pow_int_small hc.1 hc.2.1 hc.2.2 q
theorem unI {f : Value → Sem Value} {g : Int → Int}
    (rule : ∀ (i : Int) (t : Tok) (s : Shared) (Q : Value → Shared → Prop) (E : Value → Shared → Prop), Q (.int (g i) s.toks) { s with toks := s.toks + 1 } → wpAny (model X.prog X.w) X.A (f (.int i t)) Q E s) :
    UnR X f (rU fun i => .int (g i)) := by
  intro pins s σ H x v Q I rx h
  obtain ⟨i, rfl, q⟩ := h
  obtain ⟨t, rfl⟩ := rx
  exact rule i t s _ _ ⟨.int (g i), H, I.tok _, ⟨_, rfl⟩, q⟩
theorem un_neg : UnR X (unaryOp .USub) (rU fun i => .int (-i)) := unI fun _ _ _ _ _ q => neg_int q
end
noncomputable def scal : V → V → Bool
  | .non, .non => true | .non, .int _ => true | .int _, .non => true | .non, .bl _ => true | .bl _, .non => true | .non, .str _ => true | .str _, .non => true
  | .int _, .int _ => true | .bl _, .bl _ => true | .str _, .str _ => true | .byt _, .byt _ => true
  | .int _, .str _ => true | .str _, .int _ => true | .bl _, .str _ => true | .str _, .bl _ => true
  | _, _ => false
noncomputable def rEq : R2 := fun x y H Q => scal x y = true ∧ Q (.bl (decide (x = y))) H
noncomputable def rNe : R2 := fun x y H Q => scal x y = true ∧ Q (.bl (!decide (x = y))) H
theorem dec_int {i j : Int} : decide (V.int i = V.int j) = (i == j) := by
  rw [Bool.eq_iff_iff]
  simp
theorem dec_bl {i j : Bool} : decide (V.bl i = V.bl j) = (i == j) := by
  rw [Bool.eq_iff_iff]
  simp
theorem dec_str {i j : Str} : decide (V.str i = V.str j) = (i == j) := by
  rw [Bool.eq_iff_iff]
  simp
theorem dec_byt {i j : Array UInt8} : decide (V.byt i = V.byt j) = (i.toList == j.toList) := by
  rw [Bool.eq_iff_iff]
  cases i
  cases j
  simp
section
variable {X : Cx} {a b c : Expr} {ta tb tc : TE} {pos : Pos}
theorem fin_bl {pins : List (Addr × Obj)} {σ : St} {H : Hp} {s : Shared} {Q : VK} {k k' : Bool} (I : Inv X pins σ H s) (q : Q (.bl k) H) (e : k = k') : EP X pins σ Q (.bool k') s := by
  subst e
  exact ⟨.bl k, H, I, rfl, q⟩
theorem op_eq : OpR X (compareOp .Eq) rEq := by
  intro pins s σ H x y v u Q I rx ry h
  obtain ⟨hs, q⟩ := h
  cases x with
  | non =>
    cases rx
    cases y with
    | non => cases ry; exact PySem.EqNone.eq_none_none (fin_bl I q (by simp))
    | bl j => cases ry; exact PySem.EqNone.eq_none_bool (fin_bl I q (by simp))
    | int j => obtain ⟨t', rfl⟩ := ry; exact PySem.EqNone.eq_none_int (fin_bl I q (by simp))
    | str j => obtain ⟨t', rfl⟩ := ry; exact PySem.EqNone.eq_none_str (fin_bl I q (by simp))
    | _ => exact absurd (show false = true from hs) Bool.false_ne_true
  | bl i =>
    cases rx
    cases y with
    | non => cases ry; exact PySem.EqNone.eq_bool_none (fin_bl I q (by simp))
    | bl j => cases ry; exact eq_bool (fin_bl I q dec_bl)
    | str j => obtain ⟨t', rfl⟩ := ry; exact PySem.EqMixed.eq_bool_str (fin_bl I q (by simp))
    | _ => exact absurd (show false = true from hs) Bool.false_ne_true
  | int i =>
    obtain ⟨t, rfl⟩ := rx
    cases y with
    | non => cases ry; exact PySem.EqNone.eq_int_none (fin_bl I q (by simp))
    | int j => obtain ⟨t', rfl⟩ := ry; exact eq_int (fin_bl I q dec_int)
    | str j => obtain ⟨t', rfl⟩ := ry; exact PySem.EqMixed.eq_int_str (fin_bl I q (by simp))
    | _ => exact absurd (show false = true from hs) Bool.false_ne_true
  | str i =>
    obtain ⟨t, rfl⟩ := rx
    cases y with
    | non => cases ry; exact PySem.EqNone.eq_str_none (fin_bl I q (by simp))
    | bl j => cases ry; exact PySem.EqMixed.eq_str_bool (fin_bl I q (by simp))
    | int j => obtain ⟨t', rfl⟩ := ry; exact PySem.EqMixed.eq_str_int (fin_bl I q (by simp))
    | str j => obtain ⟨t', rfl⟩ := ry; exact eq_str (fin_bl I q dec_str)
    | _ => exact absurd (show false = true from hs) Bool.false_ne_true
  | byt i =>
    obtain ⟨t, rfl⟩ := rx
    cases y with
    | byt j => obtain ⟨t', rfl⟩ := ry; exact PySem.W.eq_bytes (fin_bl I q dec_byt)
    | _ => exact absurd (show false = true from hs) Bool.false_ne_true
  | _ => cases y <;> exact absurd (show false = true from hs) Bool.false_ne_true
theorem op_ne : OpR X (compareOp .NotEq) rNe := by
  intro pins s σ H x y v u Q I rx ry h
  obtain ⟨hs, q⟩ := h
  cases x with
  | non =>
    cases rx
    cases y with
    | non => cases ry; exact PySem.EqNone.ne_none_none (fin_bl I q (by simp))
    | bl j => cases ry; exact PySem.EqNone.ne_none_bool (fin_bl I q (by simp))
    | int j => obtain ⟨t', rfl⟩ := ry; exact PySem.EqNone.ne_none_int (fin_bl I q (by simp))
    | str j => obtain ⟨t', rfl⟩ := ry; exact PySem.EqNone.ne_none_str (fin_bl I q (by simp))
    | _ => exact absurd (show false = true from hs) Bool.false_ne_true
  | bl i =>
    cases rx
    cases y with
    | non => cases ry; exact PySem.EqNone.ne_bool_none (fin_bl I q (by simp))
    | bl j => cases ry; exact ne_bool (fin_bl I q (congrArg not dec_bl))
    | str j => obtain ⟨t', rfl⟩ := ry; exact PySem.EqMixed.ne_bool_str (fin_bl I q (by simp))
    | _ => exact absurd (show false = true from hs) Bool.false_ne_true
  | int i =>
    obtain ⟨t, rfl⟩ := rx
    cases y with
    | non => cases ry; exact PySem.EqNone.ne_int_none (fin_bl I q (by simp))
    | int j => obtain ⟨t', rfl⟩ := ry; exact ne_int (fin_bl I q (congrArg not dec_int))
    | str j => obtain ⟨t', rfl⟩ := ry; exact PySem.EqMixed.ne_int_str (fin_bl I q (by simp))
    | _ => exact absurd (show false = true from hs) Bool.false_ne_true
  | str i =>
    obtain ⟨t, rfl⟩ := rx
    cases y with
    | non => cases ry; exact PySem.EqNone.ne_str_none (fin_bl I q (by simp))
    | bl j => cases ry; exact PySem.EqMixed.ne_str_bool (fin_bl I q (by simp))
    | int j => obtain ⟨t', rfl⟩ := ry; exact PySem.EqMixed.ne_str_int (fin_bl I q (by simp))
    | str j => obtain ⟨t', rfl⟩ := ry; exact ne_str (fin_bl I q (congrArg not dec_str))
    | _ => exact absurd (show false = true from hs) Bool.false_ne_true
  | byt i =>
    obtain ⟨t, rfl⟩ := rx
    cases y with
    | byt j => obtain ⟨t', rfl⟩ := ry; exact PySem.W.ne_bytes (fin_bl I q (congrArg not dec_byt))
    | _ => exact absurd (show false = true from hs) Bool.false_ne_true
  | _ => cases y <;> exact absurd (show false = true from hs) Bool.false_ne_true
theorem op_lt : OpR X (compareOp .Lt) (rI0 fun i j => .bl (decide (i < j))) := opB0 fun _ _ _ _ _ _ _ q => lt_int q
theorem op_gt : OpR X (compareOp .Gt) (rI0 fun i j => .bl (decide (j < i))) := opB0 fun _ _ _ _ _ _ _ q => gt_int q
theorem op_in_str : OpR X (compareOp .In) (fun x y H Q => ∃ i j, x = .str i ∧ y = .str j ∧ Q (.bl (!(Builtin.Str.occurrences j i 0 j.length 1).isEmpty)) H) := by
  intro pins s σ H x y v u Q I rx ry h
  obtain ⟨i, j, rfl, rfl, q⟩ := h
  obtain ⟨t, rfl⟩ := rx
  obtain ⟨t', rfl⟩ := ry
  exact in_str (fin_bl I q rfl)
theorem nomark (b : Expr) {op : CmpOp} (h : op ≠ .In := by decide) (h2 : op ≠ .NotIn := by decide) : behindInMarks op b = false := by
  have e1 : (op == CmpOp.In) = false := by cases op <;> first | rfl | exact absurd rfl h
  have e2 : (op == CmpOp.NotIn) = false := by cases op <;> first | rfl | exact absurd rfl h2
  cases b <;> simp [behindInMarks, e1, e2]
theorem pe_cmpR {op : CmpOp} {r : R2} (ho : OpR X (compareOp op) r) (ha : PE X a ta) (hb : PE X b tb) (hm : behindInMarks op b = false) : PE X (.Compare a [op] [b] pos) (tOp r ta tb) := by
  intro pins s σ H Q I h
  exact wpAny_Compare1 (binT ha hb I h fun v u s2 x y H2 I2 rx ry q => ho pins s2 σ H2 x y v u Q I2 rx ry q) hm
noncomputable def tTest (t : TE) : TT := fun σ H Q => t σ H fun x H' => ∃ k, x = .bl k ∧ Q k H'
theorem pt_cmpR {op : CmpOp} {r : R2} (ho : OpR X (compareOp op) r) (ha : PE X a ta) (hb : PE X b tb) (hm : behindInMarks op b = false) : PT X (.Compare a [op] [b] pos) (tTest (tOp r ta tb)) := by
  intro pins s σ H Q I h
  refine wpAny_isTrue_Compare1 (thn (ha pins s σ H _ I h) fun v s1 ⟨x, H1, I1, r1, q1⟩ => thn (hb pins s1 σ H1 _ I1 q1) fun u s2 ⟨y, H2, I2, r2, q2⟩ =>
    thn (ho pins s2 σ H2 x y v u _ I2 r1 r2 q2) fun c s3 ⟨z, H3, I3, r3, k, e, q3⟩ => ?_) hm
  subst e
  cases r3
  exact wpAny_truthy_bool ⟨H3, I3, q3⟩
theorem line63 : (sizeLine : Nat) < 2 ^ 63 := by rw [sizeLine_eq]; decide
theorem op_add_str : OpR X (binaryOp .Add) (fun x y H Q => ∃ i j, x = .str i ∧ y = .str j ∧ i.length + j.length ≤ sizeLine ∧ Q (.str (i ++ j)) H) := by
  intro pins s σ H x y v u Q I rx ry h
  obtain ⟨i, j, rfl, rfl, hz, q⟩ := h
  obtain ⟨t, rfl⟩ := rx
  obtain ⟨t', rfl⟩ := ry
  exact add_str (fun t' tk => ⟨.str (i ++ j), H, I.tok _, ⟨_, rfl⟩, q⟩) hz
theorem vals1 {x : V} {us : List Value} (r : Vals [x] us) : ∃ u, us = [u] ∧ RelV x u := by
  cases r with
  | cons r1 r2 => cases r2; exact ⟨_, rfl, r1⟩
end
end L2
namespace L2
open PySem PySem.Spec PyProof.Rows
section
variable {prog : Program} {w : World} {A : Around} {E : Value → Shared → Prop} {s : Shared} {K : PySem.W.Frag} {x dx C f : Addr} {mA : Str → Option Value} {name : Str} {v : Value}
end
theorem RelO.some_of {v : V} {o : Option Value} (r : RelO (some v) o) : ∃ u, o = some u ∧ RelV v u := by
  cases o with
  | none => exact (show False from r).elim
  | some u => exact ⟨u, rfl, r⟩
section
variable {P : Program} {w : World} {H H' : Hp} {h h' : Heap} {a C dx : Addr} {fs fs' : List (Str × V)}
end
structure Con (K : PySem.W.Frag) (C : Addr) (f : Str) (v : V) (u : Value) : Prop where
  at_ : PySem.W.findIn K (.ref C) f = some (some u)
  rel : RelV v u
  get : PySem.W.specialIn K u "__get__" = some none
  cp : PySem.W.copiedNames.contains f = false
section
variable {X : Cx} {pins : List (Addr × Obj)} {σ : St} {H : Hp} {s : Shared} {a C dx : Addr} {fs : List (Str × V)} {f : Str} {v : V} {A : Around} {E : Value → Shared → Prop}
end
section
variable {X : Cx} {o e value : Expr} {f : Str} {pos pos' tpos : Pos} {ta tv : TE}
end
section
variable {X : Cx} {pins : List (Addr × Obj)} {σ : St} {H : Hp} {s : Shared} {A : Around} {E : Value → Shared → Prop} {Q : Value → Shared → Prop} {c : Value} {b : Bool}
end
end L2
namespace L2
open PySem PySem.Spec PyProof.Rows
structure Room (k : Nat) (A : Around) : Prop where
  hd : A.handled = none
  dp : A.depth + 3 * k + 5 < recursionLimit
  un : A.units + 16 * k + 200 < cLine
theorem Room.mono {j k : Nat} {A : Around} (r : Room k A) (h : j ≤ k) : Room j A := ⟨r.hd, by have := r.dp; omega, by have := r.un; omega⟩
theorem Room.deeper {k : Nat} {A : Around} (r : Room (k + 1) A) (env : Env) : Room k (A.deeper env) :=
  ⟨r.hd, by have := r.dp; show A.depth + 1 + 3 * k + 5 < _; omega, by have := r.un; show A.units + 3 + 16 * k + 200 < _; omega⟩
theorem Room.depth {k : Nat} {A : Around} (r : Room k A) : A.depth < recursionLimit := by have := r.dp; omega
theorem Room.units {k : Nat} {A : Around} (r : Room k A) : A.units + 64 < cLine := by have := r.un; omega
noncomputable def tNil : TA := fun _ H Q => Q [] H
noncomputable def tCons (ta : TE) (tr : TA) : TA := fun σ H Q => ta σ H fun x H1 => tr σ H1 fun xs H2 => Q (x :: xs) H2
section
variable {X : Cx} {e : Expr} {es : List Expr} {te : TE} {t : TA} {pos : Pos}
theorem pa_nil : PA X [] tNil := fun _ _ _ _ H Q I h => Calls.spliced_nil ⟨[], H, I, .nil, h⟩
theorem pa_cons (ha : PE X e te) (hr : PA X es t) (hs : starEach (e :: es) X.env = (false, eval e X.env) :: starEach es X.env := by rfl) : PA X (e :: es) (tCons te t) := by
  intro pos pins s σ H Q I h
  rw [hs]
  show wpAny _ _ (spliced ((false, eval e X.env) :: backTo pos (starEach es X.env))) _ _ s
  refine Calls.spliced_cons (thn (ha pins s σ H _ I h) fun u s1 ⟨x, H1, I1, r1, q1⟩ => ?_)
  exact thn (hr pos pins s1 σ H1 _ I1 q1) fun us s2 ⟨xs, H2, I2, r2, q2⟩ => ⟨x :: xs, H2, I2, .cons r1 r2, q2⟩
noncomputable def tTup (t : TA) : TE := fun σ H Q => t σ H fun xs H1 => xs.length ≤ sizeLine ∧ ∀ p, H1 p = none → Q (.ref p) (upd H1 p (.tup xs))
noncomputable def tLst (t : TA) : TE := fun σ H Q => t σ H fun xs H1 => xs.length ≤ sizeLine ∧ ∀ p, H1 p = none → Q (.ref p) (upd H1 p (.lst xs))
theorem pe_tup {x1} (h : PA X es t) : PE X (.Tuple es x1 pos) (tTup t) := by
  intro pins s σ H Q I hq
  refine wpAny_Tuple_spliced (thn (h pos pins s σ H _ I hq) fun us s1 ⟨xs, H1, I1, r, z, q⟩ => ⟨by rw [← r.length]; exact z, ?_⟩)
  have hf : H1 s1.heap.objs.size = none := I1.hok.fresh (Nat.le_refl _)
  refine ⟨.ref s1.heap.objs.size, upd H1 s1.heap.objs.size (.tup xs), I1.laid (t' := s1.toks) (fun b u e => Heap.get?_push_of_some _ e) (Nat.le_refl _) ?_, rfl, q _ hf⟩
  exact ⟨z, us, r, ⟨_, Heap.get?_push_size _ rfl, rfl, _, rfl⟩⟩
theorem pe_lst (h : PA X es t) : PE X (.List es pos) (tLst t) := by
  intro pins s σ H Q I hq
  refine wpAny_List_spliced (thn (h pos pins s σ H _ I hq) fun us s1 ⟨xs, H1, I1, r, z, q⟩ => ⟨by rw [← r.length]; exact z, ?_⟩)
  have hf : H1 s1.heap.objs.size = none := I1.hok.fresh (Nat.le_refl _)
  refine ⟨.ref s1.heap.objs.size, upd H1 s1.heap.objs.size (.lst xs), I1.laid (t' := s1.toks) (fun b u e => Heap.get?_push_of_some _ e) (Nat.le_refl _) ?_, rfl, q _ hf⟩
  exact ⟨z, us, 0, r, Heap.get?_push_size _ rfl⟩
end
abbrev Sp := List V → Hp → VK → XK → Prop
abbrev CXT := List Env → Hp → Shared → XK → Value → Shared → Prop
structure Env0 (P : Program) (w : World) (K : PySem.W.Frag) (mg : Str → Option Value) (base : Heap) (A : Around) (outer : List Env) (s : Shared) (H : Hp) : Prop where
  frames : A.frames = some outer
  mod : Mod K mg base
  bs : ∀ b o, base.get? b = some o → s.heap.get? b = some o ∧ H b = none
  bsz : base.objs.size ≤ s.heap.objs.size
  funs : s.heap.FunFrames base outer
  frf : ∀ b ∈ frs outer, H b = none
  hok : HOk P w H s.heap
  bare : AllBare s.gens
noncomputable def CE (outer : List Env) (P : Program) (w : World) (H : Hp) (s : Shared) (Q : VK) (u : Value) (s' : Shared) : Prop :=
  ∃ v H', s'.os = s.os ∧ AllBare s'.gens ∧ Un (frs outer) [] H H' s.heap s'.heap ∧ HOk P w H' s'.heap ∧ RelV v u ∧ Q v H'
noncomputable def CR (CX : CXT) (outer : List Env) (P : Program) (w : World) (H : Hp) (s : Shared) (Q : VK) (E : XK) (r : Result) (s' : Shared) : Prop :=
  match r with
  | .ok (.ret u) => CE outer P w H s Q u s'
  | .ok _ => False
  | .error e => CX outer H s E e s'
structure FnOk (P : Program) (w : World) (K : PySem.W.Frag) (mg : Str → Option Value) (base : Heap) (CX : CXT) (k : Nat) (f : Addr) (fd : FuncData) (ps : List Str) (sp : Sp) : Prop where
  len : ∀ vs H Q E, sp vs H Q E → vs.length = ps.length
  run : ∀ (A : Around) (outer : List Env) (s : Shared) (H : Hp) (args : Args) (us : List Value) (vs : List V) (Q : VK) (E : XK), Room k A → Env0 P w K mg base A outer s H → BindsTo s fd args (ps.zip us) → Vals vs us → sp vs H Q E →
    codeAny (model P w) A (.call (.ref f) args) (CR CX outer P w H s Q E) s
section
variable {X : Cx} {pins : List (Addr × Obj)} {σ : St} {H : Hp} {s s' : Shared}
theorem Inv.env0 (I : Inv X pins σ H s) : Env0 X.prog X.w X.K X.mg X.base X.A X.stack s H :=
  ⟨I.ok.frames, I.ok.mod, I.bs, Nat.le_trans I.ok.bsz I.sz, I.stack, I.stkFree, I.hok, I.bare⟩
theorem Inv.after {Q : VK} {u : Value} (I : Inv X pins σ H s) (h : CE X.stack X.prog X.w H s Q u s') : EP X pins σ Q u s' := by
  obtain ⟨v, H', os, bare, un, hok, r, q⟩ := h
  obtain ⟨hh, g, d, t, os'⟩ := s'
  obtain rfl : os' = s.os := os
  exact ⟨v, H', I.call (h' := hh) (g' := g) (d' := d) (t' := t) (ch := []) un hok bare (fun b z => absurd z (by simp)), r, q⟩
end
noncomputable def tCall (sp : Sp) (dvs : List V) (E : XK) (t : TA) : TE := fun σ H Q => t σ H fun vs H1 => sp (vs ++ dvs) H1 Q E
noncomputable def Binds (K : PySem.W.Frag) (fd : FuncData) (ps : List Str) (ds : List Value) : Prop :=
  ∀ (s : Shared) (us : List Value), K.In s.heap → (us ++ ds).length = ps.length → BindsTo s fd ⟨us, []⟩ (ps.zip (us ++ ds))
theorem Binds.all {K : PySem.W.Frag} {fd : FuncData} {ps : List Str} (h : ∀ us : List Value, us.length = ps.length → bindArgs fd ⟨us, []⟩ = pure (ps.zip us)) : Binds K fd ps [] := fun s us _ hl => by
  rw [List.append_nil] at hl ⊢
  exact .of_eq (h us hl)
noncomputable def Passes (CX : CXT) (X : Cx) (E : XK) : Prop := ∀ (pins : List (Addr × Obj)) (σ : St) (H : Hp) (s : Shared) (e : Value) (s' : Shared), Inv X pins σ H s → CX X.stack H s E e s' → X.xe e s'
section
variable {X : Cx} {CX : CXT} {k : Nat} {f C : Addr} {fd : FuncData} {ps : List Str} {sp : Sp} {dvs : List V} {ds : List Value} {E : XK} {x m : Str} {p pos apos : Pos} {e o : Expr} {es : List Expr} {ta : TE} {t : TA}
theorem run_fn {pins : List (Addr × Obj)} {σ : St} {H : Hp} {s : Shared} {Q : VK} {us : List Value} {vs : List V} (F : FnOk X.prog X.w X.K X.mg X.base CX k f fd ps sp) (hr : Room k X.A) (hb : Binds X.K fd ps ds) (hd : Vals dvs ds) (hx : Passes CX X E)
    (I : Inv X pins σ H s) (r : Vals vs us) (h : sp (vs ++ dvs) H Q E) : wpAny (model X.prog X.w) X.A (call (.ref f) us) (EP X pins σ Q) X.xe s := by
  have r2 : Vals (vs ++ dvs) (us ++ ds) := r.append hd
  have hl : (us ++ ds).length = ps.length := by rw [← r2.length]; exact F.len _ _ _ _ h
  refine wpAny_call (codeAny_mono (F.run X.A X.stack s H ⟨us, []⟩ (us ++ ds) (vs ++ dvs) Q E hr I.env0 (hb s us I.kIn hl) r2 h) fun r s' hq => ?_)
  cases r with
  | error e => exact hx pins σ H s e s' I hq
  | ok fl =>
    cases fl with
    | ret u => exact I.after hq
    | next => exact False.elim hq
    | brk => exact False.elim hq
    | cont => exact False.elim hq
theorem pe_call (F : FnOk X.prog X.w X.K X.mg X.base CX k f fd ps sp) (hr : Room k X.A) (hg : Gl X x) (hm : X.mg x = some (.ref f)) (hk : PySem.W.keepIn X.K (.ref f) = true) (hb : Binds X.K fd ps ds) (hd : Vals dvs ds) (hx : Passes CX X E)
    (ha : PA X (e :: es) t) (hdb : (x == ("__debug__" : Str)) = false := by decide) (he : starEach (e :: es) X.env = (false, eval e X.env) :: starEach es X.env := by rfl) (hpl : (backTo pos (starEach es X.env)).any (·.1) = false := by rfl) :
    PE X (.Call (.Name x p) (e :: es) [] pos) (tCall sp dvs E t) := by
  intro pins s σ H Q I h
  refine wpAny_Call_Name_kw (ld_glob I hg hm ?_ hdb)
  refine PySem.W.callWith_K (h₀ := X.base) I.ok.mod.kin hk (thn (ha pos pins s σ H _ I h) fun us s1 ⟨vs, H1, I1, r, q⟩ => ⟨I1.kIn, ?_⟩) he hpl
  exact run_fn F hr hb hd hx I1 r q
end
section
variable {X : Cx} {CX : CXT} {k : Nat} {f C : Addr} {fd : FuncData} {ps ks : List Str} {sp : Sp} {E : XK} {x m : Str} {p pos apos kpos : Pos} {e o : Expr} {es : List Expr} {kws : List Keyword} {te ta : TE} {t tk : TA} {nm : Option Str}
variable {g : List Value → List Value → List Value} {gV : List V → List V → List V}
end
structure FnScope (N P : List Str) (sc : Scope) : Prop where
  kind : sc.kind = .function
  co : sc.isCoroutine = false
  gen : sc.isGenerator = false
  nd : N.Nodup
  pre : N.take P.length = P
  par : ∀ x ∈ P, sc.names.lookup x = some .local ∨ sc.names.lookup x = some .cell
  nofree : ∀ y ∈ sc.names, y.2 ≠ .free
theorem bindL_out {kindOf : Str → Option NameKind} {x : Str} : ∀ {binds : List (Str × Value)} {m : Str → Option Value}, (∀ v, (x, v) ∉ binds) → bindL kindOf binds m x = m x
  | [], _, _ => rfl
  | (n, v) :: r, m, h => by
    unfold bindL
    rw [bindL_out fun w hw => h w (List.mem_cons_of_mem _ hw)]
    split
    · have : x ≠ n := by rintro rfl; exact h v List.mem_cons_self
      simp [this]
    · rfl
theorem bindC_out {kindOf : Str → Option NameKind} {x : Str} : ∀ {binds : List (Str × Value)} {m : Str → Option Value}, (∀ v, (x, v) ∉ binds) → bindC kindOf binds m x = m x
  | [], _, _ => rfl
  | (n, v) :: r, m, h => by
    unfold bindC
    rw [bindC_out fun w hw => h w (List.mem_cons_of_mem _ hw)]
    split
    · rfl
    · have : x ≠ n := by rintro rfl; exact h v List.mem_cons_self
      simp [this]
theorem bindL_get {kindOf : Str → Option NameKind} {x : Str} {v : Value} : ∀ {P : List Str} {vs : List Value} {i : Nat} {m : Str → Option Value}, P.Nodup → P[i]? = some x → vs[i]? = some v → kindOf x = some .local →
    bindL kindOf (P.zip vs) m x = some v
  | [], _, _, _, _, h, _, _ => by simp at h
  | _ :: _, [], _, _, _, _, h, _ => by simp at h
  | p :: P, w :: vs, 0, m, nd, h1, h2, hk => by
    simp at h1 h2; subst h1; subst h2
    show bindL kindOf ((p, w) :: P.zip vs) m p = _
    unfold bindL
    rw [bindL_out fun v hv => (List.nodup_cons.mp nd).1 (List.of_mem_zip hv).1, if_pos hk]
    simp
  | p :: P, w :: vs, i + 1, m, nd, h1, h2, hk => by
    show bindL kindOf ((p, w) :: P.zip vs) m x = _
    unfold bindL
    exact bindL_get (i := i) (List.nodup_cons.mp nd).2 (by simpa using h1) (by simpa using h2) hk
theorem bindC_get {kindOf : Str → Option NameKind} {x : Str} {v : Value} : ∀ {P : List Str} {vs : List Value} {i : Nat} {m : Str → Option Value}, P.Nodup → P[i]? = some x → vs[i]? = some v → kindOf x ≠ some .local →
    bindC kindOf (P.zip vs) m x = some v
  | [], _, _, _, _, h, _, _ => by simp at h
  | _ :: _, [], _, _, _, _, h, _ => by simp at h
  | p :: P, w :: vs, 0, m, nd, h1, h2, hk => by
    simp at h1 h2; subst h1; subst h2
    show bindC kindOf ((p, w) :: P.zip vs) m p = _
    unfold bindC
    rw [bindC_out fun v hv => (List.nodup_cons.mp nd).1 (List.of_mem_zip hv).1, if_neg hk]
    simp
  | p :: P, w :: vs, i + 1, m, nd, h1, h2, hk => by
    show bindC kindOf ((p, w) :: P.zip vs) m x = _
    unfold bindC
    exact bindC_get (i := i) (List.nodup_cons.mp nd).2 (by simpa using h1) (by simpa using h2) hk
noncomputable def start (N : List Str) (vs : List V) : St := vs.map some ++ List.replicate (N.length - vs.length) none
noncomputable def cxOf (CX : CXT) (P : Program) (w : World) (K : PySem.W.Frag) (mg : Str → Option Value) (base : Heap) (N : List Str) (qual : Str) (scope : Scope) (f : Addr) (cd : Value) (A : Around) (outer : List Env) (s : Shared) (H : Hp) (E : XK) : Cx where
  prog := P
  w := w
  K := K
  mg := mg
  base := base
  A := A.deeper (envOfC qual scope s.heap.objs.size f cd)
  N := N
  s₀ := s
  H₀ := H
  env := envOfC qual scope s.heap.objs.size f cd
  outer := outer
  stack := envOfC qual scope s.heap.objs.size f cd :: outer
  ex := []
  calm := true
  fn := fun _ => true
  pn := []
  xe := fun e s' => wpAny (model P w) (A.deeper (envOfC qual scope s.heap.objs.size f cd)) (leaving (envOfC qual scope s.heap.objs.size f cd) e) (fun _ s'' => CX outer H s E e s'') (fun e' s'' => CX outer H s E e' s'') s'
theorem cell_has {sc : Scope} {n : Nat} {x : Str} (h : sc.names.lookup x = some .cell) : ∃ c, (cellsFrom n sc.names []).lookup x = some c := by
  have q := PySem.W.cellsFrom_some sc.names n [] (.inl h)
  exact Option.isSome_iff_exists.mp q
theorem inv_start {CX : CXT} {P : Program} {w : World} {K : PySem.W.Frag} {mg : Str → Option Value} {base : Heap} {N ps : List Str} {qual : Str} {scope : Scope} {f : Addr} {cd : Value} {A : Around} {outer : List Env} {s s1 : Shared} {H : Hp} {E : XK} {us : List Value} {vs : List V}
    (S : FnScope N ps scope) (hd : A.handled = none) (e0 : Env0 P w K mg base A outer s H) (hl : vs.length = ps.length) (r : Vals vs us)
    (x : InCallC s s.heap.objs.size (bindL (envOfC qual scope s.heap.objs.size f cd).kindOf (ps.zip us) fun _ => none) (cellsFrom (s.heap.objs.size + 1) scope.names []) (bindC (envOfC qual scope s.heap.objs.size f cd).kindOf (ps.zip us) fun _ => none) s1) :
    Inv (cxOf CX P w K mg base N qual scope f cd A outer s H E) [] (start N vs) H s1 := by
  have hpl : ps.length ≤ N.length := by have := congrArg List.length S.pre; rw [List.length_take] at this; omega
  obtain ⟨h1, tk, rfl, hk⟩ := x.done
  have noA : ∀ b : Addr, b ∉ (cxOf CX P w K mg base N qual scope f cd A outer s H E).ex := fun b z => absurd (show b ∈ ([] : List Addr) from z) (by simp)
  refine ⟨⟨e0.mod, S.kind, rfl, rfl, Nat.le_refl _, fun y z c h1 h2 => ?_, fun y hy => ?_, fun y c _ h => ?_, fun _ => hd, Around.frames_deeper e0.frames, .inr ⟨rfl, rfl⟩, fun b z => absurd z (noA b), e0.bs, e0.bsz, fun b _ _ => noA b, fun b z => absurd z (noA b), e0.funs, e0.frf⟩,
    rfl, e0.bare, Un.kept hk, ⟨_, x.toInCall.ns, fun i y v h1 h2 h3 => ?_⟩, fun y c h => ⟨_, x.cell y c h⟩, e0.hok.fresh (Nat.le_refl _), fun y c h => ?_, fun p hp => absurd (show p ∈ ([] : List (Addr × Obj)) from hp) (by simp), e0.hok.kept hk, ?_⟩
  · exact name_of_addr x.apart (PySem.mem_of_lookup h1) (PySem.mem_of_lookup h2)
  · have hy : scope.names.lookup y = some .cell ∨ scope.names.lookup y = some .free := hy
    rcases hy with hy | hy
    · exact cell_has hy
    · exact absurd rfl (S.nofree _ (PySem.mem_of_lookup hy))
  · exact Nat.le_of_lt (x.above y c (PySem.mem_of_lookup h))
  · have hi : i < vs.length := by
      unfold start at h2
      by_cases hi : i < vs.length
      · exact hi
      · rw [List.getElem?_append_right (by simpa using hi)] at h2
        rw [List.getElem?_replicate] at h2
        split at h2 <;> cases h2
    have ha : vs[i]? = some v := by
      unfold start at h2
      rw [List.getElem?_append_left (by simpa using hi), List.getElem?_map] at h2
      cases e : vs[i]? with
      | none => rw [e] at h2; cases h2
      | some a => rw [e] at h2; cases h2; rfl
    obtain ⟨u, hu, rv⟩ := r.get ha
    have hp : ps[i]? = some y := by
      rw [← S.pre, List.getElem?_take_of_lt (by omega)]; exact h1
    have ndP : ps.Nodup := by rw [← S.pre]; exact S.nd.sublist (List.take_sublist _ _)
    refine ⟨u, rv, ?_⟩
    rcases S.par y (List.mem_of_getElem? hp) with k | k
    · exact .inl ⟨k, bindL_get ndP hp hu k⟩
    · obtain ⟨c, e⟩ := cell_has (n := s.heap.objs.size + 1) k
      refine .inr ⟨.inl k, c, e, ?_⟩
      have q := x.cell y c e
      rw [bindC_get ndP hp hu (by show scope.names.lookup y ≠ _; rw [k]; decide)] at q
      exact q
  · exact e0.hok.fresh (Nat.le_of_lt (x.above y c (PySem.mem_of_lookup h)))
  · unfold start
    show _ = N.length
    rw [List.length_append, List.length_map, List.length_replicate]
    omega
theorem fn_of {CX : CXT} {P : Program} {w : World} {K : PySem.W.Frag} {mg : Str → Option Value} {base : Heap} {k : Nat} {f : Addr} {name qual : Str} {params : Arguments} {body : List Stmt} {scope : Scope} {dV kV doc pm cdv ct oc : Value} {an od : Option Addr}
    {osl : Array (Option Value)} {N ps : List Str} {sp : Sp} (lk : K.lookup f = some ⟨oc, od, .func (PySem.W.fnOf name qual params body scope dV kV doc pm an cdv ct), osl⟩) (hcd : PySem.W.codeIn K cdv qual = true) (S : FnScope N ps scope)
    (len : ∀ vs H Q E, sp vs H Q E → vs.length = ps.length)
    (hbody : ∀ (A : Around) (outer : List Env) (s : Shared) (H : Hp) (vs : List V) (Q : VK) (E : XK), Room k (A.deeper (envOfC qual scope s.heap.objs.size f cdv)) → sp vs H Q E →
      ∃ t, PSs (cxOf CX P w K mg base N qual scope f cdv A outer s H E) body t ∧ t { nx := fun _ H' => Q .non H', rt := Q } (start N vs) H) :
    FnOk P w K mg base CX (k + 1) f (PySem.W.fnOf name qual params body scope dV kV doc pm an cdv ct) ps sp := by
  refine ⟨len, fun A outer s H args us vs Q E hr e0 hb r hsp => ?_⟩
  have hl := len _ _ _ _ hsp
  have KX : K.In s.heap := e0.mod.kin.keeps fun b o e => (e0.bs b o e).1
  have lim : s.heap.NoLimit := e0.mod.nolimit.keeps fun b o e => (e0.bs b o e).1
  have hkind : ∀ y ∈ ps.zip us, scope.names.lookup y.1 = some .local ∨ (scope.names.lookup y.1 = some .cell ∧ ((cellsFrom (s.heap.objs.size + 1) scope.names []).lookup y.1).isSome = true) := fun ⟨n, v⟩ hy => by
    rcases S.par n (List.of_mem_zip hy).1 with q | q
    · exact .inl q
    · exact .inr ⟨q, PySem.W.cellsFrom_some _ _ _ (.inl q)⟩
  refine codeAny_call_function hr.depth (KX _ _ lk) rfl S.co S.gen rfl (PySem.W.codeRec_of KX hcd) (hb _ _ _ _ ?_)
  refine wpAny_newFunctionEnv_cells S.kind hkind fun env he s1 x => ?_
  subst he
  refine ⟨lim.keeps x.toInCall.keep, codeAny_func ?_⟩
  obtain ⟨t, ht, hq⟩ := hbody A outer s H vs Q E (hr.deeper _) hsp
  have I : Inv (cxOf CX P w K mg base N qual scope f cdv A outer s H E) [] (start N vs) H s1 := inv_start S hr.hd e0 hl r x
  refine wpAny_mono (ht [] s1 (start N vs) H _ I hq) (fun fl s' hs => ?_) fun e s' hs => hs
  have fin : ∀ {σ' : St} {H' : Hp} {v : V} {u : Value}, Inv (cxOf CX P w K mg base N qual scope f cdv A outer s H E) [] σ' H' s' → RelV v u → Q v H' → CE outer P w H s Q u s' :=
    fun {σ' H' v u} J rv q => ⟨v, H', J.os, J.bare, J.base, J.hok, rv, q⟩
  cases fl with
  | ret u =>
    obtain ⟨v, σ', H', J, rv, q⟩ := hs
    exact fin J rv q
  | next =>
    obtain ⟨σ', H', J, q⟩ := hs
    exact fin (v := V.non) (u := Value.none) J rfl q
  | brk =>
    obtain ⟨_, _, _, q⟩ := hs
    exact False.elim q
  | cont =>
    obtain ⟨_, _, _, q⟩ := hs
    exact False.elim q
end L2
namespace L2
open PySem PySem.Spec PyProof.Rows
section
variable {X : Cx} {x : Str} {p pos : Pos} {e : Expr} {es : List Expr} {t : TA} {id T : String} {r : List V → Hp → VK → Prop}
noncomputable def tCB (r : List V → Hp → VK → Prop) (t : TA) : TE := fun σ H Q => t σ H fun vs H1 => r vs H1 Q
theorem pe_callB (hc : CallR X (.builtin id) r) (hg : Gl X x) (hm : X.mg x = none) (hv : bootBuiltins x = some (.builtin id)) (ha : PA X (e :: es) t) (hn : x ≠ "__name__" := by decide) (hdb : (x == ("__debug__" : Str)) = false := by decide)
    (he : starEach (e :: es) X.env = (false, eval e X.env) :: starEach es X.env := by rfl) (hpl : (backTo pos (starEach es X.env)).any (·.1) = false := by rfl) : PE X (.Call (.Name x p) (e :: es) [] pos) (tCB r t) := by
  intro pins s σ H Q I h
  refine wpAny_Call_Name_kw (ld_blt I hg hm hv ?_ hn hdb)
  exact PyProof.Rows.callWith_builtin1 (thn (ha pos pins s σ H _ I h) fun us s1 ⟨vs, H1, I1, r1, q1⟩ => hc pins s1 σ H1 vs us Q I1 r1 q1) he hpl
theorem pe_callTy (hc : CallR X (.type T) r) (hg : Gl X x) (hm : X.mg x = none) (hv : bootBuiltins x = some (.type T)) (ha : PA X (e :: es) t) (hn : x ≠ "__name__" := by decide) (hdb : (x == ("__debug__" : Str)) = false := by decide)
    (he : starEach (e :: es) X.env = (false, eval e X.env) :: starEach es X.env := by rfl) (hpl : (backTo pos (starEach es X.env)).any (·.1) = false := by rfl) : PE X (.Call (.Name x p) (e :: es) [] pos) (tCB r t) := by
  intro pins s σ H Q I h
  refine wpAny_Call_Name_kw (ld_blt I hg hm hv ?_ hn hdb)
  exact PyProof.Rows.callWith_type1 (thn (ha pos pins s σ H _ I h) fun us s1 ⟨vs, H1, I1, r1, q1⟩ => hc pins s1 σ H1 vs us Q I1 r1 q1) he hpl
end
end L2
namespace HT
open PySem PyProof.Rows
noncomputable def lexLt : List Int → List Int → Bool
  | [], [] => false
  | [], _ :: _ => true
  | _ :: _, [] => false
  | x :: xs, y :: ys => if x = y then lexLt xs ys else decide (x < y)
theorem lexLt_cons (x y : Int) (xs ys : List Int) : lexLt (x :: xs) (y :: ys) = if x = y then lexLt xs ys else decide (x < y) := rfl
section
open PySem.SeqAt
open PySem.AutoSeq1 (wpAny_loadPart')
open PySem.MeetsSeq PySem.MeetsSeq2 PySem.MeetsSeq3
end
section
variable {prog : Program} {w : World} {A : Around} {E : Value → Shared → Prop} {s : Shared}
theorem cat_tup {t b : Addr} {vs ws : List Value} {Q : Value → Shared → Prop} (ht : IsTup s.heap t vs.toArray) (hb : IsTup s.heap b ws.toArray) (hv : vs ≠ [])
    (h1 : ws = [] → Q (.ref t) s) (h2 : ws ≠ [] → Q (.ref s.heap.objs.size) { s with heap := s.heap.push { cls := .type "tuple", data := .seq (vs ++ ws).toArray } })
    (hsz : vs.length + ws.length ≤ sizeLine) : wpAny (model prog w) A (binaryOp .Add (.ref t) (.ref b)) Q E s := by
  obtain ⟨⟨cls, dd, data, sl⟩, ho, hc, n, hd⟩ := id ht
  obtain ⟨⟨cls2, dd2, data2, sl2⟩, ho2, hc2, n2, hd2⟩ := id hb
  simp only at hc hd hc2 hd2
  subst hc hd hc2 hd2
  have e : vs.toArray ++ ws.toArray = (vs ++ ws).toArray := by simp
  by_cases hw : ws = []
  · exact concat_meets ⟨_, ho, rfl⟩ ⟨_, ho2, rfl⟩ noFill_tuple_add seq_tuple_add PySem.F.slot_tuple_add PySem.F.entry_tuple_add (PySem.F.args_tuple_add_2 _ _)
      (tuple_addW1 t b vs.toArray ws.toArray n n2 dd dd2 sl sl2 (by simpa using hv) (by simp [hw])) ⟨ho, ho2, h1 hw⟩
  · refine concat_meets ⟨_, ho, rfl⟩ ⟨_, ho2, rfl⟩ noFill_tuple_add seq_tuple_add PySem.F.slot_tuple_add PySem.F.entry_tuple_add (PySem.F.args_tuple_add_2 _ _)
      (tuple_addW2 t b vs.toArray ws.toArray n n2 dd dd2 sl sl2 (by simpa using hv) (by simpa using hw) (by rw [List.size_toArray, List.size_toArray]; exact hsz)) ⟨ho, ho2, ?_⟩
    rw [e]
    exact h2 hw
noncomputable def sIx (n d : Nat) : Option Int → Nat
  | none => d
  | some v => if v < 0 then (v + (n : Int)).toNat else min v.toNat n
theorem sIx_none (n d : Nat) : sIx n d none = d := rfl
theorem sIx_nat (n d k : Nat) : sIx n d (some (k : Int)) = min k n := by
  show (if (k : Int) < 0 then ((k : Int) + (n : Int)).toNat else min (k : Int).toNat n) = min k n
  rw [if_neg (by omega), Int.toNat_natCast]
theorem sIx_le (n d : Nat) (hd : d ≤ n) (o : Option Int) : sIx n d o ≤ n := by
  cases o with
  | none => exact hd
  | some v =>
    show (if v < 0 then (v + (n : Int)).toNat else min v.toNat n) ≤ n
    by_cases hv : v < 0
    · rw [if_pos hv]; omega
    · rw [if_neg hv]; exact Nat.min_le_right _ _
theorem clip_eq (v : Int) (n d : Nat) : (if v < 0 then max (v + (n : Int)) 0 else min v (n : Int)) = ((sIx n d (some v) : Nat) : Int) := by
  show (if v < 0 then max (v + (n : Int)) 0 else min v (n : Int)) = (((if v < 0 then (v + (n : Int)).toNat else min v.toNat n) : Nat) : Int)
  by_cases hv : v < 0
  · simp only [if_pos hv]; omega
  · simp only [if_neg hv]; omega
theorem adjust_gen (lo hi : Option Int) (n : Nat) : Builtin.Slice.sliceAdjust lo hi 1 (n : Int) = (((sIx n 0 lo : Nat) : Int), ((sIx n n hi : Nat) : Int)) := by
  have h1 : ¬ ((1 : Int) < 0) := by omega
  unfold Builtin.Slice.sliceAdjust
  simp only [h1, if_false]
  refine Prod.ext ?_ ?_
  · cases lo with
    | none => rfl
    | some v => exact clip_eq v n 0
  · cases hi with
    | none => rfl
    | some v => exact clip_eq v n n
theorem places_gen (i j : Nat) : Builtin.Slice.slicePlaces (i : Int) (j : Int) 1 = j - i := by
  unfold Builtin.Slice.slicePlaces
  have h1 : (1 : Int) > 0 := by omega
  simp only [h1, if_true, Int.ediv_one]
  split <;> omega
theorem slicePart_ {v : Value} {o : Option Int} {Q : Option Int → Shared → Prop} (p : IsPart v o) (h : Q o s) : wpAny (model prog w) A (Builtin.Slice.slicePartIndex v) Q E s := by
  cases p with
  | none => exact slicePart_none h
  | int i t => exact slicePart_int h
theorem sliceApplied_gen {sl : Addr} {vl vu : Value} {lo hi : Option Int} {n : Nat} {Q : Int × Int × Nat → Shared → Prop} (hs : s.heap.IsSliceOf sl vl vu .none) (pl : IsPart vl lo) (pu : IsPart vu hi)
    (h : Q (((sIx n 0 lo : Nat) : Int), 1, sIx n n hi - sIx n 0 lo) s) : wpAny (model prog w) A (Builtin.Slice.sliceApplied (.ref sl) (pure (n : Int))) Q E s := by
  obtain ⟨os, hos, hcs, hds⟩ := id hs
  unfold Builtin.Slice.sliceApplied Builtin.Slice.sliceFields
  refine wpAny_bind (wpAny_bind (wpAny_field hos hds (x := vl) rfl (wpAny_bind (wpAny_field hos hds (x := vu) rfl (wpAny_bind (wpAny_field hos hds (x := .none) rfl (wpAny_pure ?_)))))))
  refine wpAny_bind (slicePart_none ?_)
  show wpAny _ _ (if ((1 : Int) == 0) = true then _ else _) _ _ s
  rw [if_neg (by decide)]
  refine wpAny_bind (slicePart_ pl (wpAny_bind (slicePart_ pu (wpAny_bind (wpAny_pure ?_)))))
  show wpAny _ _ (match Builtin.Slice.sliceAdjust lo hi 1 (n : Int) with | (lo, hi) => pure (lo, (1 : Int), Builtin.Slice.slicePlaces lo hi 1)) _ _ s
  rw [adjust_gen lo hi n]
  show wpAny _ _ (pure (((sIx n 0 lo : Nat) : Int), (1 : Int), Builtin.Slice.slicePlaces ((sIx n 0 lo : Nat) : Int) ((sIx n n hi : Nat) : Int) 1)) _ _ s
  rw [places_gen]
  exact wpAny_pure h
theorem pick_gen (xs : Array Value) (i k : Nat) : ((List.range k).filterMap fun (m : Nat) => xs[((i : Int) + (m : Int) * 1).toNat]?).toArray = ((xs.toList.drop i).take k).toArray := by
  have e : (fun (m : Nat) => xs[((i : Int) + (m : Int) * 1).toNat]?) = fun m => xs[i + m]? := by
    funext m
    have : ((i : Int) + (m : Int) * 1).toNat = i + m := by omega
    rw [this]
  rw [e]
  have := pick_run xs i k
  rw [List.filterMap_map] at this
  have e2 : ((fun x => xs[x]?) ∘ fun x => i + x) = fun m => xs[i + m]? := rfl
  rw [e2] at this
  rw [this]
theorem getItem_tuple_cut {t sl : Addr} {items : Array Value} {vl vu : Value} {lo hi : Option Int} {Q : Value → Shared → Prop} (ht : IsTup s.heap t items) (hs : s.heap.IsSliceOf sl vl vu .none) (pl : IsPart vl lo) (pu : IsPart vu hi)
    (hw : ¬ (sIx items.size 0 lo = 0 ∧ sIx items.size items.size hi = items.size))
    (h : Q (.ref s.heap.objs.size) { s with heap := s.heap.push { cls := .type "tuple", data := .seq ((items.toList.drop (sIx items.size 0 lo)).take (sIx items.size items.size hi - sIx items.size 0 lo)).toArray } })
    (hsz : items.size ≤ sizeLine) : wpAny (model prog w) A (getItem (.ref t) (.ref sl)) Q E s := by
  have htake : sizeOk (.seq ((items.toList.drop (sIx items.size 0 lo)).take (sIx items.size items.size hi - sIx items.size 0 lo)).toArray) := by
    show ((items.toList.drop (sIx items.size 0 lo)).take (sIx items.size items.size hi - sIx items.size 0 lo)).toArray.size ≤ sizeLine
    rw [List.size_toArray, List.length_take, List.length_drop, Array.length_toList]
    omega
  have hj : sIx items.size items.size hi ≤ items.size := sIx_le _ _ (Nat.le_refl _) hi
  obtain ⟨os, hos, hcs, hds⟩ := id hs
  have hTs : s.TypeIs (.ref sl) "slice" := ⟨os, hos, hcs⟩
  unfold getItem
  try with_reducible refine wpAny_holding ?_
  first | refine wpAny_bind (wpAny_pure ?_) | skip
  refine wpAny_bind (wpAny_sequenceKey ht.typeIs (by decide) ?_)
  refine wpAny_bind (wpAny_callSpecial?_slot (name := Str.ofString "__getitem__") ht.typeIs PyProof.Rows.slot_tuple_getitem
    (wpAny_call_entry PyProof.Rows.slot_tuple_getitem ht.typeIs entry_tuple_getitem ?_ (args_tuple_getitem _ _)))
  show wpAny _ _ (Builtin.Tuple.tupleItemsOf (.ref t) >>= _) _ _ s
  refine wpAny_bind (tupleItemsOf_ ht ?_)
  refine wpAny_bind (wpAny_typeOf hTs ?_)
  rw [if_pos (by decide)]
  refine wpAny_bind (sliceApplied_gen hs pl pu ?_)
  have hno : ¬ ((((sIx items.size 0 lo : Nat) : Int) == 0 && (1 : Int) == 1 && (sIx items.size items.size hi - sIx items.size 0 lo) == items.size) = true) := by
    intro q
    rw [Bool.and_eq_true, Bool.and_eq_true] at q
    have q1 : ((sIx items.size 0 lo : Nat) : Int) = 0 := eq_of_beq q.1.1
    have q2 : sIx items.size items.size hi - sIx items.size 0 lo = items.size := eq_of_beq q.2
    exact hw ⟨by omega, by omega⟩
  show wpAny _ _ (if (((sIx items.size 0 lo : Nat) : Int) == 0 && (1 : Int) == 1 && (sIx items.size items.size hi - sIx items.size 0 lo) == items.size) = true then _ else _) _ _ s
  rw [if_neg hno, pick_gen]
  first
    | exact wpAny_bind (m := Builtin.Tuple.tupleExact _) (wpAny_newObj_type (wpAny_pure ⟨_, rfl, wpAny_pure h⟩) htake)
    | exact wpAny_bind (m := Builtin.Tuple.tupleExact _) (wpAny_newObj_type (wpAny_bind (wpAny_pure (wpAny_pure ⟨_, rfl, wpAny_pure h⟩))) htake)
    | exact wpAny_bind (wpAny_bind (m := Builtin.Tuple.tupleExact _) (wpAny_newObj_type (wpAny_pure (wpAny_pure ⟨_, rfl, wpAny_pure h⟩)) htake))
    | exact wpAny_bind (wpAny_bind (m := Builtin.Tuple.tupleExact _) (wpAny_newObj_type (wpAny_pure ⟨_, rfl, wpAny_pure h⟩) htake))
end
end HT
namespace L2
open PySem PySem.Spec PyProof.Rows
abbrev TO := St → Hp → (Option Int → Hp → Prop) → Prop
noncomputable def PO (X : Cx) (e : Option Expr) (t : TO) : Prop :=
  ∀ (pins : List (Addr × Obj)) (s : Shared) (σ : St) (H : Hp) (Q : Option Int → Hp → Prop), Inv X pins σ H s → t σ H Q →
    wpAny (model X.prog X.w) X.A (evalPart e X.env) (fun u s' => ∃ o H', Inv X pins σ H' s' ∧ IsPart u o ∧ Q o H') X.xe s
noncomputable def tNoPart : TO := fun _ H Q => Q none H
noncomputable def tPart (t : TE) : TO := fun σ H Q => t σ H fun x H1 => ∃ i, x = .int i ∧ Q (some i) H1
theorem intsAre_of {ns : List Int} : ∀ {us : List Value}, Vals (ns.map V.int) us → IntsAre us ns := by
  induction ns with
  | nil => intro us r; rw [List.map_nil] at r; cases r; exact .nil
  | cons n ns ih =>
    intro us r
    rw [List.map_cons] at r
    cases r with
    | cons r1 r2 =>
      obtain ⟨t, e⟩ := r1
      subst e
      exact .cons n t (ih r2)
section
variable {X : Cx} {e : Expr} {te : TE} {lo hi : Option Expr} {tl th : TO} {pos p2 : Pos}
theorem po_none : PO X none tNoPart := by
  intro pins s σ H Q I h
  rw [evalPart_none]
  exact wpAny_pure ⟨none, H, I, .none, h⟩
theorem po_some (h : PE X e te) : PO X (some e) (tPart te) := by
  intro pins s σ H Q I hw
  rw [evalPart_some]
  refine thn (h pins s σ H _ I hw) fun u s1 ⟨x, H1, I1, r1, q1⟩ => ?_
  obtain ⟨i, rfl, q⟩ := q1
  obtain ⟨t, rfl⟩ := r1
  exact ⟨some i, H1, I1, .int i t, q⟩
noncomputable def SlR (X : Cx) (r : V → Option Int → Option Int → Hp → VK → Prop) : Prop :=
  ∀ (pins : List (Addr × Obj)) (s : Shared) (σ : St) (H : Hp) (x : V) (v vl vu : Value) (lo hi : Option Int) (sl : Addr) (Q : VK), Inv X pins σ H s → RelV x v → s.heap.IsSliceOf sl vl vu .none → IsPart vl lo → IsPart vu hi → r x lo hi H Q →
    ∃ T id, typeLookup (.type T) "__getitem__" = pure (some (.builtin id)) ∧ s.TypeIs v T ∧ wpAny (model X.prog X.w) X.A (getItem v (.ref sl)) (EP X pins σ Q) X.xe s
noncomputable def tSl (r : V → Option Int → Option Int → Hp → VK → Prop) (te : TE) (tl th : TO) : TE := fun σ H Q => te σ H fun x H1 => tl σ H1 fun l H2 => th σ H2 fun u H3 => r x l u H3 Q
theorem pe_slice {r : V → Option Int → Option Int → Hp → VK → Prop} (hr : SlR X r) (he : PE X e te) (hl : PO X lo tl) (hu : PO X hi th) : PE X (.Subscript e (.Slice lo hi none p2) pos) (tSl r te tl th) := by
  intro pins s σ H Q I h
  refine Subscript_ (thn (he pins s σ H _ I h) fun v s1 ⟨x, H1, I1, r1, q1⟩ => ?_)
  refine wpAny_Slice (thn (hl pins s1 σ H1 _ I1 q1) fun vl s2 ⟨l, H2, I2, pl, q2⟩ => thn (hu pins s2 σ H2 _ I2 q2) fun vu s3 ⟨u, H3, I3, pu, q3⟩ => ?_)
  rw [evalPart_none]
  refine wpAny_pure ?_
  have I4 : Inv X pins σ H3 { s3 with heap := s3.heap.push { cls := .type "slice", data := .fields #[vl, vu, .none] } } := I3.kept (t' := s3.toks) fun b ob q => Heap.get?_push_of_some _ q
  obtain ⟨T, id, hT, ht, hg⟩ := hr pins { s3 with heap := s3.heap.push { cls := .type "slice", data := .fields #[vl, vu, .none] } } σ H3 x v vl vu l u s3.heap.objs.size Q I4 r1 (Heap.IsSliceOf.new ..) pl pu q3
  show wpAny (model X.prog X.w) X.A (subscriptTail e (.Slice lo hi none p2) v (.ref s3.heap.objs.size)) (EP X pins σ Q) X.xe { s3 with heap := s3.heap.push { cls := .type "slice", data := .fields #[vl, vu, .none] } }
  exact tail_any (ops := [.ref s3.heap.objs.size, v]) ht hT hg (by with_unfolding_all rfl)
noncomputable def cutV (xs : List V) (lo hi : Option Int) : List V := (xs.drop (HT.sIx xs.length 0 lo)).take (HT.sIx xs.length xs.length hi - HT.sIx xs.length 0 lo)
theorem cutV_length (xs : List V) (lo hi : Option Int) : (cutV xs lo hi).length ≤ xs.length := by
  unfold cutV
  rw [List.length_take, List.length_drop]
  omega
noncomputable def rSlT (K : PySem.W.Frag) : V → Option Int → Option Int → Hp → VK → Prop := fun x lo hi H Q => ∃ a xs, x = .ref a ∧ SqT K H a xs ∧
  ¬ (HT.sIx xs.length 0 lo = 0 ∧ HT.sIx xs.length xs.length hi = xs.length) ∧ ∀ p, H p = none → Q (.ref p) (upd H p (.tup (cutV xs lo hi)))
theorem sl_tup : SlR X (rSlT X.K) := by
  intro pins s σ H x v vl vu lo hi sl Q I rx hs pl pu h
  obtain ⟨a, xs, rfl, hx, hw, q⟩ := h
  cases rx
  obtain ⟨its, r, ht, hz⟩ := I.tuple hx
  have hlen : its.toArray.size = xs.length := by rw [List.size_toArray]; exact r.length.symm
  refine ⟨"tuple", _, PyProof.Rows.slot_tuple_getitem.lookup, ht.typeIs, ?_⟩
  refine HT.getItem_tuple_cut ht hs pl pu (by rw [hlen]; exact hw) ?_ (by rw [hlen]; exact hz)
  rw [hlen]
  refine ⟨.ref s.heap.objs.size, _, I.laid (t' := s.toks) (o := .tup (cutV xs lo hi)) (fun b ob q => Heap.get?_push_of_some _ q) (Nat.le_refl _) ?_, rfl, q _ (I.hok.fresh (Nat.le_refl _))⟩
  exact ⟨Nat.le_trans (cutV_length xs lo hi) hz, _, (r.drop (HT.sIx xs.length 0 lo)).take (HT.sIx xs.length xs.length hi - HT.sIx xs.length 0 lo), IsTup.new _ _⟩
noncomputable def rCatT (K : PySem.W.Frag) : R2 := fun x y H Q => ∃ a b xs ys, x = .ref a ∧ y = .ref b ∧ SqT K H a xs ∧ SqT K H b ys ∧ xs ≠ [] ∧ xs.length + ys.length ≤ sizeLine ∧
  (ys = [] → Q (.ref a) H) ∧ (ys ≠ [] → ∀ p, H p = none → Q (.ref p) (upd H p (.tup (xs ++ ys))))
theorem Vals.nil_iff {xs : List V} {us : List Value} (r : Vals xs us) : us = [] ↔ xs = [] := by
  cases r with
  | nil => simp
  | cons _ _ => simp
theorem op_catT : OpR X (binaryOp .Add) (rCatT X.K) := by
  intro pins s σ H x y v u Q I rx ry h
  obtain ⟨a, b, xs, ys, rfl, rfl, ha, hb, hx, hz, q1, q2⟩ := h
  cases rx
  cases ry
  obtain ⟨its, r1, p1, _⟩ := I.tuple ha
  obtain ⟨its2, r2, p2, _⟩ := I.tuple hb
  refine HT.cat_tup p1 p2 (fun z => hx (r1.nil_iff.mp z)) (fun z => ⟨.ref a, H, I, rfl, q1 (r2.nil_iff.mp z)⟩) (fun z => ?_) (by rw [← r1.length, ← r2.length]; exact hz)
  refine ⟨.ref s.heap.objs.size, _, I.laid (t' := s.toks) (o := .tup (xs ++ ys)) (fun b ob q => Heap.get?_push_of_some _ q) (Nat.le_refl _) ?_, rfl, q2 (fun w => z (r2.nil_iff.mpr w)) _ (I.hok.fresh (Nat.le_refl _))⟩
  exact ⟨by rw [List.length_append]; exact hz, _, r1.append r2, IsTup.new _ _⟩
end
end L2
namespace L2
open PySem PySem.Spec PyProof.Rows
noncomputable def ixN (n : Nat) (i : Int) : Option Nat := if 0 ≤ i then (if i < n then some i.toNat else none) else if -(n : Int) ≤ i then some (i + n).toNat else none
noncomputable def atI {α : Type} (xs : List α) (i : Int) : Option α := (ixN xs.length i).bind fun j => xs[j]?
theorem ixN_seq {n : Nat} {i : Int} {j : Nat} (h : ixN n i = some j) : seqIndex? i n = some j ∧ j < n ∧ -(n : Int) ≤ i ∧ i < n := by
  unfold ixN at h
  by_cases h0 : 0 ≤ i
  · rw [if_pos h0] at h
    by_cases h1 : i < n
    · rw [if_pos h1] at h
      have e : i.toNat = j := Option.some.inj h
      exact ⟨by rw [seqIndex_of h0 h1, e], by omega, by omega, h1⟩
    · rw [if_neg h1] at h; cases h
  · rw [if_neg h0] at h
    by_cases h1 : -(n : Int) ≤ i
    · rw [if_pos h1] at h
      have e : (i + n).toNat = j := Option.some.inj h
      exact ⟨by rw [seqIndex_neg (by omega) h1, e], by omega, h1, by omega⟩
    · rw [if_neg h1] at h; cases h
theorem atI_get {α : Type} {xs : List α} {i : Int} {v : α} (h : atI xs i = some v) : ∃ j, seqIndex? i xs.length = some j ∧ xs[j]? = some v ∧ j < xs.length ∧ -(xs.length : Int) ≤ i ∧ i < xs.length := by
  unfold atI at h
  cases e : ixN xs.length i with
  | none => rw [e] at h; cases h
  | some j =>
    rw [e] at h
    obtain ⟨h1, h2, h3, h4⟩ := ixN_seq e
    exact ⟨j, h1, h, h2, h3, h4⟩
theorem atI_nat {α : Type} {xs : List α} {j : Nat} {v : α} (h : xs[j]? = some v) : atI xs (j : Int) = some v := by
  have hj : j < xs.length := (List.getElem?_eq_some_iff.mp h).1
  have e : ixN xs.length (j : Int) = some j := by
    unfold ixN
    rw [if_pos (by omega), if_pos (by omega)]; simp
  unfold atI; rw [e]; exact h
noncomputable def PlainIx (b : Expr) : Prop := ∀ o i, subscripted b false o i = operate [o, i] (getItem o i)
noncomputable def IxR (X : Cx) (r : R2) : Prop :=
  ∀ (value slice : Expr) (pins : List (Addr × Obj)) (s : Shared) (σ : St) (H : Hp) (x y : V) (v u : Value) (Q : VK), Inv X pins σ H s → RelV x v → RelV y u → r x y H Q →
    subscripted slice false v u = operate [v, u] (getItem v u) → wpAny (model X.prog X.w) X.A (subscriptTail value slice v u) (EP X pins σ Q) X.xe s
noncomputable def MtR (X : Cx) (id : String) (r : V → List V → Hp → VK → Prop) : Prop :=
  ∀ (pins : List (Addr × Obj)) (s : Shared) (σ : St) (H : Hp) (x : V) (xs : List V) (v : Value) (us : List Value) (Q : VK), Inv X pins σ H s → RelV x v → Vals xs us → r x xs H Q →
    wpAny (model X.prog X.w) X.A (call (.builtin id) (v :: us)) (EP X pins σ Q) X.xe s
section
variable {X : Cx} {a b : Expr} {ta tb : TE} {pos : Pos}
theorem pe_ix {r : R2} (hr : IxR X r) (ha : PE X a ta) (hb : PE X b tb) (hs : PlainIx b) : PE X (.Subscript a b pos) (tOp r ta tb) := by
  intro pins s σ H Q I h
  exact Subscript_ (binT ha hb I h fun v u s2 x y H2 I2 rx ry q => hr a b pins s2 σ H2 x y v u Q I2 rx ry q (hs _ _))
noncomputable def rIxL (K : PySem.W.Frag) : R2 := fun x y H Q => ∃ p xs i v, x = .ref p ∧ y = .int i ∧ SqL K H p xs ∧ atI xs i = some v ∧ Q v H
noncomputable def rIxT (K : PySem.W.Frag) : R2 := fun x y H Q => ∃ p xs i v, x = .ref p ∧ y = .int i ∧ SqT K H p xs ∧ atI xs i = some v ∧ Q v H
noncomputable def rIxS : R2 := fun x y H Q => ∃ z i c, x = .str z ∧ y = .int i ∧ z.length ≤ sizeLine ∧ atI z.cps.toList i = some c ∧ Q (.str ⟨#[c]⟩) H
theorem ix_list : IxR X (rIxL X.K) := by
  intro value slice pins s σ H x y v u Q I rx ry h hs
  obtain ⟨p, xs, i, z, rfl, rfl, hq, he, q⟩ := h
  cases rx
  obtain ⟨t, rfl⟩ := ry
  obtain ⟨its, r, pl, hz⟩ := I.list hq
  obtain ⟨j, h1, h2, h3, h4, h5⟩ := atI_get he
  obtain ⟨w, ew, rw'⟩ := r.get h2
  have hl := r.length
  have hn := line63
  have fin : EP X pins σ Q w s := ⟨z, H, I, rw', q⟩
  by_cases h0 : 0 ≤ i
  · have hj : i.toNat = j := by
      rw [seqIndex_of h0 h5] at h1
      exact Option.some.inj h1
    exact item_listR pl.isList h0 (by omega) (by rw [hj]; simpa using ew) fin hs
  · have hj : (i + (its.toArray.size : Int)).toNat = j := by
      rw [seqIndex_neg (by omega) h4] at h1
      rw [List.size_toArray, ← hl]
      exact Option.some.inj h1
    exact subscriptTail_builtinR (x := w) pl.isList.typeIs slot_list_getitem.lookup
      (wpAny_getItem_list_neg (Q := fun r s' => r = w ∧ EP X pins σ Q r s') pl.isList (by omega) (by rw [List.size_toArray] <;> omega) (by omega) (by rw [hj]; simpa using ew) ⟨rfl, fin⟩) hs
theorem ix_tup : IxR X (rIxT X.K) := by
  intro value slice pins s σ H x y v u Q I rx ry h hs
  obtain ⟨p, xs, i, z, rfl, rfl, hq, he, q⟩ := h
  cases rx
  obtain ⟨t, rfl⟩ := ry
  obtain ⟨its, r, pl, hz⟩ := I.tuple hq
  obtain ⟨j, h1, h2, h3, h4, h5⟩ := atI_get he
  obtain ⟨w, ew, rw'⟩ := r.get h2
  have hl := r.length
  have hn := line63
  have fin : EP X pins σ Q w s := ⟨z, H, I, rw', q⟩
  exact subscriptTail_builtinR (x := w) pl.typeIs slot_tuple_getitem.lookup
    (getItem_tuple (j := j) (Q := fun r s' => r = w ∧ EP X pins σ Q r s') pl (by omega) (by omega) (by rw [List.size_toArray, ← hl]; exact h1) (by simpa using ew) ⟨rfl, fin⟩) hs
theorem ix_str : IxR X rIxS := by
  intro value slice pins s σ H x y v u Q I rx ry h hs
  obtain ⟨z, i, c, rfl, rfl, hz, he, q⟩ := h
  obtain ⟨t, rfl⟩ := rx
  obtain ⟨t', rfl⟩ := ry
  obtain ⟨j, h1, h2, h3, h4, h5⟩ := atI_get he
  have hl : z.cps.toList.length = z.length := by simp [Str.length]
  rw [hl] at h1 h4 h5
  have hn := line63
  exact tail_any (typeIs_str s z t) slot_str_getitem.lookup (getItem_str (c := c) (by
    have e1 : decide (i < -(2 ^ 63 : Int)) = false := decide_eq_false (by omega)
    have e2 : decide (i ≥ 2 ^ 63) = false := decide_eq_false (by omega)
    rw [e1, e2, Bool.or_false]) (by rw [h1]; simpa using h2) ⟨.str ⟨#[c]⟩, H, I.tok _, ⟨_, rfl⟩, q⟩) hs
theorem slice_bounds (lo hi : Option Int) (n : Nat) : (sliceBounds lo hi none n).1 = ((HT.sIx n 0 lo : Nat) : Int) ∧ (sliceBounds lo hi none n).2.1 = ((HT.sIx n n hi : Nat) : Int) ∧ (sliceBounds lo hi none n).2.2 = 1 := by
  refine ⟨?_, ?_, rfl⟩
  · cases lo with
    | none => simp [sliceBounds, HT.sIx]
    | some i =>
      simp only [sliceBounds, HT.sIx, Option.getD_none, show (1 : Int) > 0 by decide, if_true]
      by_cases h : i < 0
      · simp only [h, if_true] <;> omega
      · simp only [h, if_false] <;> omega
  · cases hi with
    | none => simp [sliceBounds, HT.sIx]
    | some i =>
      simp only [sliceBounds, HT.sIx, Option.getD_none, show (1 : Int) > 0 by decide, if_true]
      by_cases h : i < 0
      · simp only [h, if_true] <;> omega
      · simp only [h, if_false] <;> omega
theorem slicePick_cut (its : List Value) (lo hi : Option Int) : slicePick its.toArray lo hi none = ((its.drop (HT.sIx its.length 0 lo)).take (HT.sIx its.length its.length hi - HT.sIx its.length 0 lo)).toArray := by
  obtain ⟨h1, h2, h3⟩ := slice_bounds lo hi its.toArray.size
  unfold slicePick
  rw [h1, h2, h3]
  simp only [sliceRange_one, pick_run, List.size_toArray] <;> rfl
noncomputable def rSlL (K : PySem.W.Frag) : V → Option Int → Option Int → Hp → VK → Prop := fun x lo hi H Q => ∃ a xs, x = .ref a ∧ SqL K H a xs ∧ ∀ p, H p = none → Q (.ref p) (upd H p (.lst (cutV xs lo hi)))
theorem sl_list : SlR X (rSlL X.K) := by
  intro pins s σ H x v vl vu lo hi sl Q I rx hs pl pu h
  obtain ⟨a, xs, rfl, hx, q⟩ := h
  cases rx
  obtain ⟨its, r, ht, hz⟩ := I.list hx
  have hlen := r.length
  refine ⟨"list", _, slot_list_getitem.lookup, ht.isList.typeIs, ?_⟩
  refine wpAny_getItem_list_slice ht.isList hs pl pu .none (by simp) ?_ (by rw [List.size_toArray] <;> omega)
  rw [slicePick_cut, ← hlen]
  refine ⟨.ref s.heap.objs.size, _, I.laid (t' := s.toks) (o := .lst (cutV xs lo hi)) (fun b ob q => Heap.get?_push_of_some _ q) (Nat.le_refl _) ?_, rfl, q _ (I.hok.fresh (Nat.le_refl _))⟩
  exact ⟨Nat.le_trans (cutV_length xs lo hi) hz, _, 0, (r.drop (HT.sIx xs.length 0 lo)).take (HT.sIx xs.length xs.length hi - HT.sIx xs.length 0 lo), Heap.get?_push_size _ rfl⟩
noncomputable def flatV : V → Bool
  | .non => true
  | .bl _ => true
  | .int _ => true
  | .str _ => true
  | _ => false
noncomputable def eqV : V → V → Bool
  | .non, .non => true
  | .bl a, .bl b => a == b
  | .bl a, .int b => (if a then 1 else 0) == b
  | .int a, .bl b => a == (if b then 1 else 0)
  | .int a, .int b => a == b
  | .str a, .str b => a == b
  | _, _ => false
theorem eqAt_V {A : Around} {s : Shared} {y x : V} {u v : Value} (ry : RelV y u) (rx : RelV x v) (fy : flatV y = true) (fx : flatV x = true) : SeqAt.EqAt A s u v (eqV y x) := by
  cases y with
  | non =>
    cases ry
    cases x with
    | non => cases rx; exact SeqAt.EqAt.same _
    | bl b => cases rx; exact SeqAt.EqAt.none_bool b
    | int b => obtain ⟨t, rfl⟩ := rx; exact SeqAt.EqAt.none_int b t
    | str b => obtain ⟨t, rfl⟩ := rx; exact SeqAt.EqAt.none_str b t
    | _ => exact absurd (show false = true from fx) Bool.false_ne_true
  | bl a =>
    cases ry
    cases x with
    | non => cases rx; exact SeqAt.EqAt.bool_none a
    | bl b => cases rx; exact SeqAt.EqAt.bool_bool a b
    | int b => obtain ⟨t, rfl⟩ := rx; exact SeqAt.EqAt.bool_int a b t
    | str b => obtain ⟨t, rfl⟩ := rx; exact SeqAt.EqAt.bool_str a b t
    | _ => exact absurd (show false = true from fx) Bool.false_ne_true
  | int a =>
    obtain ⟨t', rfl⟩ := ry
    cases x with
    | non => cases rx; exact SeqAt.EqAt.int_none a t'
    | bl b => cases rx; exact SeqAt.EqAt.int_bool a t' b
    | int b => obtain ⟨t, rfl⟩ := rx; exact SeqAt.EqAt.int_int a t' b t
    | str b => obtain ⟨t, rfl⟩ := rx; exact SeqAt.EqAt.int_str a t' b t
    | _ => exact absurd (show false = true from fx) Bool.false_ne_true
  | str a =>
    obtain ⟨t', rfl⟩ := ry
    cases x with
    | non => cases rx; exact SeqAt.EqAt.str_none a t'
    | bl b => cases rx; exact SeqAt.EqAt.str_bool a t' b
    | int b => obtain ⟨t, rfl⟩ := rx; exact SeqAt.EqAt.str_int a t' b t
    | str b => obtain ⟨t, rfl⟩ := rx; exact SeqAt.EqAt.str_str a t' b t
    | _ => exact absurd (show false = true from fx) Bool.false_ne_true
  | _ => exact absurd (show false = true from fy) Bool.false_ne_true
noncomputable def eqU (x : V) (u : Value) : Bool := match u with
  | .none => eqV .non x
  | .bool b => eqV (.bl b) x
  | .int i _ => eqV (.int i) x
  | .str z _ => eqV (.str z) x
  | _ => false
theorem eqU_of {x y : V} {u : Value} (r : RelV y u) (f : flatV y = true) : eqU x u = eqV y x := by
  cases y with
  | non => cases r; rfl
  | bl b => cases r; rfl
  | int i => obtain ⟨t, rfl⟩ := r; rfl
  | str z => obtain ⟨t, rfl⟩ := r; rfl
  | _ => exact absurd (show false = true from f) Bool.false_ne_true
theorem any_eqU {x : V} : ∀ {xs : List V} {us : List Value}, Vals xs us → xs.all flatV = true → us.any (eqU x) = xs.any fun y => eqV y x
  | _, _, .nil, _ => rfl
  | y :: xs, u :: us, .cons r t, f => by
    rw [List.all_cons, Bool.and_eq_true] at f
    rw [List.any_cons, List.any_cons, eqU_of r f.1, any_eqU t f.2]
theorem mem_eqAt {A : Around} {s : Shared} {x : V} {v : Value} (rx : RelV x v) (fx : flatV x = true) : ∀ {xs : List V} {us : List Value}, Vals xs us → xs.all flatV = true → ∀ u ∈ us, SeqAt.EqAt A s u v (eqU x u)
  | _, _, .nil, _ => fun u hu => by cases hu
  | y :: xs, u :: us, .cons r t, f => fun u' hu => by
    rw [List.all_cons, Bool.and_eq_true] at f
    rcases List.mem_cons.mp hu with rfl | hu
    · rw [eqU_of r f.1]; exact eqAt_V r rx f.1 fx
    · exact mem_eqAt rx fx t f.2 u' hu
noncomputable def inV (x : V) (xs : List V) : Bool := xs.any fun y => eqV y x
noncomputable def rIn (K : PySem.W.Frag) (neg : Bool) : R2 := fun x y H Q => ∃ p xs, y = .ref p ∧ (SqL K H p xs ∨ SqT K H p xs) ∧ flatV x = true ∧ xs.all flatV = true ∧ Q (.bl (if neg then !inV x xs else inV x xs)) H
theorem op_in_seq : OpR X (compareOp .In) (rIn X.K false) := by
  intro pins s σ H x y v u Q I rx ry h
  obtain ⟨p, xs, rfl, hq, fx, fs, q⟩ := h
  cases ry
  rcases hq with hq | hq
  · obtain ⟨its, r, pl, hz⟩ := I.list hq
    refine SeqAt.in_listAt (eqU x) pl.isList (fun w hw => mem_eqAt rx fx r fs w (by simpa using hw)) ⟨.bl _, H, I, rfl, ?_⟩
    rw [show its.toArray.any (eqU x) = its.any (eqU x) by simp, any_eqU r fs]
    exact q
  · obtain ⟨its, r, pl, hz⟩ := I.tuple hq
    refine SeqAt.in_tupleAt (eqU x) pl (fun w hw => mem_eqAt rx fx r fs w (by simpa using hw)) ⟨.bl _, H, I, rfl, ?_⟩
    rw [show its.toArray.any (eqU x) = its.any (eqU x) by simp, any_eqU r fs]
    exact q
theorem op_notIn_seq : OpR X (compareOp .NotIn) (rIn X.K true) := by
  intro pins s σ H x y v u Q I rx ry h
  obtain ⟨p, xs, rfl, hq, fx, fs, q⟩ := h
  cases ry
  rcases hq with hq | hq
  · obtain ⟨its, r, pl, hz⟩ := I.list hq
    refine SeqAt.notIn_listAt (eqU x) pl.isList (fun w hw => mem_eqAt rx fx r fs w (by simpa using hw)) ⟨.bl _, H, I, rfl, ?_⟩
    rw [show its.toArray.any (eqU x) = its.any (eqU x) by simp, any_eqU r fs]
    exact q
  · obtain ⟨its, r, pl, hz⟩ := I.tuple hq
    refine SeqAt.notIn_tupleAt (eqU x) pl (fun w hw => mem_eqAt rx fx r fs w (by simpa using hw)) ⟨.bl _, H, I, rfl, ?_⟩
    rw [show its.toArray.any (eqU x) = its.any (eqU x) by simp, any_eqU r fs]
    exact q
theorem call_len_seq : CallR X (.builtin "len") (fun xs H Q => ∃ p ys, xs = [.ref p] ∧ (SqL X.K H p ys ∨ SqT X.K H p ys) ∧ Q (.int ys.length) H) := by
  intro pins s σ H xs us Q I r h
  obtain ⟨p, ys, rfl, hq, q⟩ := h
  obtain ⟨u, rfl, rx⟩ := vals1 r
  cases rx
  have hn := line63
  rcases hq with hq | hq
  · obtain ⟨its, r', pl, hz⟩ := I.list hq
    have hlen := r'.length
    exact Calls.call_len_list pl.isList (by simp only [List.size_toArray] <;> omega) ⟨.int ys.length, H, I.tok _, ⟨s.toks + 1, by rw [List.size_toArray, hlen]⟩, q⟩
  · obtain ⟨its, r', pl, hz⟩ := I.tuple hq
    have hlen := r'.length
    exact len_tuple pl (by simp only [List.size_toArray] <;> omega) ⟨.int ys.length, H, I.tok _, ⟨s.toks + 1, by rw [List.size_toArray, hlen]⟩, q⟩
theorem call_len_str : CallR X (.builtin "len") (fun xs H Q => ∃ z, xs = [.str z] ∧ z.length ≤ sizeLine ∧ Q (.int z.length) H) := by
  intro pins s σ H xs us Q I r h
  obtain ⟨z, rfl, hz, q⟩ := h
  obtain ⟨u, rfl, t, rfl⟩ := vals1 r
  have hn := line63
  exact len_str (by omega) ⟨.int z.length, H, I.tok _, ⟨_, rfl⟩, q⟩
theorem call_list_of : CallR X (.type "list") (fun xs H Q => ∃ p ys, xs = [.ref p] ∧ (SqL X.K H p ys ∨ SqT X.K H p ys) ∧ ∀ l, H l = none → Q (.ref l) (upd H l (.lst ys))) := by
  intro pins s σ H xs us Q I r h
  obtain ⟨p, ys, rfl, hq, q⟩ := h
  obtain ⟨u, rfl, rx⟩ := vals1 r
  cases rx
  have fin : ∀ (its : List Value), Vals ys its → ys.length ≤ sizeLine → ∀ (h' : Heap) (c' : Nat), (∀ b o', s.heap.get? b = some o' → h'.get? b = some o') →
      h'.get? s.heap.objs.size = some { cls := .type "list", dict := none, data := .seq its.toArray c', slots := #[] } → EP X pins σ Q (.ref s.heap.objs.size) { s with heap := h' } := fun its r' hz h' c' kp e =>
    ⟨.ref s.heap.objs.size, _, I.laid (t' := s.toks) kp (Nat.le_refl _) (show ObjOk X.prog X.w _ h' _ (.lst ys) from ⟨hz, its, c', r', e⟩), rfl, q _ (I.hok.fresh (Nat.le_refl _))⟩
  rcases hq with hq | hq
  · obtain ⟨its, r', pl, hz⟩ := I.list hq
    have hlen := r'.length
    obtain ⟨o, ho, hc, n, hd⟩ := pl.isList
    exact call_list_seq p (.inl rfl) ho hc hd (fun h' c' kp e => fin its r' hz h' c' kp e) (by simp only [List.size_toArray] <;> omega)
  · obtain ⟨its, r', pl, hz⟩ := I.tuple hq
    have hlen := r'.length
    obtain ⟨o, ho, hc, n, hd⟩ := pl
    exact call_list_seq p (.inr rfl) ho hc hd (fun h' c' kp e => fin its r' hz h' c' kp e) (by simp only [List.size_toArray] <;> omega)
theorem call_tuple_of : CallR X (.type "tuple") (fun xs H Q => ∃ p ys, xs = [.ref p] ∧ ((SqL X.K H p ys ∧ ∀ l, H l = none → Q (.ref l) (upd H l (.tup ys))) ∨ (SqT X.K H p ys ∧ Q (.ref p) H))) := by
  intro pins s σ H xs us Q I r h
  obtain ⟨p, ys, rfl, h⟩ := h
  obtain ⟨u, rfl, rx⟩ := vals1 r
  cases rx
  rcases h with ⟨hq, q⟩ | ⟨hq, q⟩
  · obtain ⟨its, r', pl, hz⟩ := I.list hq
    have hlen := r'.length
    refine call_tuple_list pl.isList (fun h' kp => ?_) (by simp only [List.size_toArray] <;> omega)
    have I1 : Inv X pins σ H { s with heap := h' } := I.kept (t' := s.toks) kp
    have I2 : Inv X pins σ (upd H h'.objs.size (.tup ys)) { s with heap := h'.push { cls := .type "tuple", data := .seq its.toArray } } :=
      I1.laid (t' := s.toks) (fun b o e => Heap.get?_push_of_some _ e) (Nat.le_refl _) (show ObjOk X.prog X.w _ _ _ (.tup ys) from ⟨hz, its, r', IsTup.new _ _⟩)
    exact ⟨.ref h'.objs.size, _, I2, rfl, q _ (I1.hok.fresh (Nat.le_refl _))⟩
  · obtain ⟨its, r', pl, hz⟩ := I.tuple hq
    exact call_tuple_same pl ⟨.ref p, H, I, rfl, q⟩
noncomputable def tyV (K : PySem.W.Frag) (T : String) (x : V) (H : Hp) : Prop := match x with
  | .str _ => T = "str"
  | .int _ => T = "int"
  | .ref p => (T = "list" ∧ ∃ xs, SqL K H p xs) ∨ (T = "tuple" ∧ ∃ o, K.lookup p = some o ∧ o.cls = .type "tuple" ∧ o.dict = none) ∨
      (T = "dict" ∧ ((∃ kvs, H p = some (.dK kvs)) ∨ ∃ kvs, H p = some (.dT kvs))) ∨ (T = "set" ∧ ∃ S n, H p = some (.set S n))
  | _ => False
theorem tyV_is {pins : List (Addr × Obj)} {σ : St} {H : Hp} {s : Shared} {T : String} {x : V} {v : Value} (I : Inv X pins σ H s) (r : RelV x v) (ty : tyV X.K T x H) :
    s.TypeIs v T ∧ ∀ a, v = .ref a → ∃ ob, s.heap.get? a = some ob ∧ ob.dict = none := by
  cases x with
  | str z =>
    obtain ⟨t, rfl⟩ := r
    cases (show T = "str" from ty)
    exact ⟨typeIs_str s z t, fun _ e => nomatch e⟩
  | int i =>
    obtain ⟨t, rfl⟩ := r
    cases (show T = "int" from ty)
    exact ⟨typeIs_int s i t, fun _ e => nomatch e⟩
  | ref p =>
    cases r
    rcases ty with ⟨rfl, xs, hq⟩ | ⟨rfl, o, hk, hc, hd⟩ | ⟨rfl, hk⟩ | ⟨rfl, S, n, hk⟩
    · obtain ⟨its, _, pl, _⟩ := I.list hq
      refine ⟨pl.isList.typeIs, fun a e => ?_⟩
      cases e
      obtain ⟨o, n, e, c, hd, _⟩ := pl
      exact ⟨o, e, hd⟩
    · refine ⟨⟨o, I.kIn p o hk, hc⟩, fun a e => ?_⟩
      cases e
      exact ⟨o, I.kIn _ o hk, hd⟩
    · have z : ∃ o, s.heap.get? p = some o ∧ o.ExactDict := by
        rcases hk with ⟨kvs, hk⟩ | ⟨kvs, hk⟩
        · obtain ⟨_, _, _, _, o, _, _, e, ex, _⟩ := I.hok p _ hk
          exact ⟨o, e, ex⟩
        · obtain ⟨_, _, _, _, o, _, _, e, ex, _⟩ := I.hok p _ hk
          exact ⟨o, e, ex⟩
      obtain ⟨o, e, ex⟩ := z
      refine ⟨⟨o, e, ex.1⟩, fun a e2 => ?_⟩
      cases e2
      exact ⟨o, e, ex.2.1⟩
    · obtain ⟨o, _, _, _, e, ex, _⟩ := I.hok p _ hk
      refine ⟨⟨o, e, ex.1⟩, fun a e2 => ?_⟩
      cases e2
      exact ⟨o, e, ex.2.1⟩
  | _ => exact False.elim ty
noncomputable def tBM0 (K : PySem.W.Frag) (T : String) (r : V → List V → Hp → VK → Prop) (to : TE) : TE := fun σ H Q => to σ H fun x H1 => tyV K T x H1 ∧ r x [] H1 Q
noncomputable def tBM (K : PySem.W.Frag) (T : String) (r : V → List V → Hp → VK → Prop) (to : TE) (t : TA) : TE := fun σ H Q => to σ H fun x H1 => tyV K T x H1 ∧ t σ H1 fun xs H2 => r x xs H2 Q
variable {o e : Expr} {es : List Expr} {to : TE} {t : TA} {name : Str} {apos cpos : Pos} {T id : String} {r : V → List V → Hp → VK → Prop}
theorem pe_bm0 (pa : PlainAttrs T) (slot : Slot T name id) (hty : typeOf (.builtin id) = pure (.type "method_descriptor")) (hm : MtR X id r) (ho : PE X o to)
    (hbase : attributeBase o name X.env (eval o X.env) = eval o X.env := by rfl) (hline : (apos.endLine == cpos.line) = true := by rfl) : PE X (.Call (.Attribute o name apos) [] [] cpos) (tBM0 X.K T r to) := by
  intro pins s σ H Q I h
  refine wpAny_Call_method0_late hbase hline (thn (ho pins s σ H _ I h) fun v s1 ⟨x, H1, I1, r1, ty, q1⟩ => ?_)
  obtain ⟨h1, h2⟩ := tyV_is I1 r1 ty
  exact ⟨T, id, pa, slot, hty, h1, h2, Calls.callWith_builtin rfl (PySem.evalArgs_none (hm pins s1 σ H1 x [] v [] Q I1 r1 .nil q1))⟩
theorem pe_bm (pa : PlainAttrs T) (slot : Slot T name id) (hty : typeOf (.builtin id) = pure (.type "method_descriptor")) (hm : MtR X id r) (ho : PE X o to) (ha : PA X (e :: es) t)
    (hbase : attributeBase o name X.env (eval o X.env) = eval o X.env := by rfl)
    (hfew : ((backTo cpos (starEach (e :: es) X.env)).all (fun x => !x.1) && (backToKw cpos (keywordEach [] X.env)).all (fun x => x.1.isSome)
      && decide ((e :: es).length + ([] : List Keyword).length + (if ([] : List Keyword).isEmpty then 0 else 1) < 30)) = true := by rfl)
    (hline : (apos.endLine == cpos.line) = true := by rfl) (hs : starEach (e :: es) X.env = (false, eval e X.env) :: starEach es X.env := by rfl) (hplain : (backTo cpos (starEach es X.env)).any (·.1) = false := by rfl) :
    PE X (.Call (.Attribute o name apos) (e :: es) [] cpos) (tBM X.K T r to t) := by
  intro pins s σ H Q I h
  refine wpAny_Call_method_late hbase hfew hline rfl (thn (ho pins s σ H _ I h) fun v s1 ⟨x, H1, I1, r1, ty, q1⟩ => ?_)
  obtain ⟨h1, h2⟩ := tyV_is I1 r1 ty
  refine ⟨T, id, pa, slot, hty, h1, h2, ?_⟩
  have hA := ha cpos pins s1 σ H1 _ I1 q1
  rw [hs] at hA ⊢
  refine Calls.callWith_builtin (by show (false || (backTo cpos (starEach es X.env)).any (·.1)) = false; rw [hplain] <;> rfl) (Calls.evalArgs_plain ?_)
  exact thn hA fun us s2 ⟨vs, H2, I2, r2, q2⟩ => hm pins s2 σ H2 x vs v us Q I2 r1 r2 q2
/- xs.append(e), list.index on a module's tuple .. are MtR facts of 06m -/
end
end L2
namespace L2
open PySem PySem.Spec PyProof.Rows
noncomputable def MtM (X : Cx) (id : String) (r : V → List V → Hp → VK → Prop) : Prop :=
  ∀ (pins : List (Addr × Obj)) (s : Shared) (σ : St) (H : Hp) (x : V) (xs : List V) (v : Value) (us : List Value) (Q : VK), Inv X pins σ H s → RelV x v → Vals xs us → r x xs H Q →
    wpAny (model X.prog X.w) X.A (call (.builtin id) (v :: us)) (EP X pins σ Q) X.xe s
theorem Vals.one : ∀ {x : V} {us : List Value}, Vals [x] us → ∃ u, us = [u] ∧ RelV x u
  | _, _, .cons r .nil => ⟨_, rfl, r⟩
theorem Vals.zero : ∀ {us : List Value}, Vals [] us → us = []
  | _, .nil => rfl
theorem Vals.dropLast {xs : List V} {us : List Value} (h : Vals xs us) : Vals xs.dropLast us.dropLast := by
  induction h with
  | nil => exact .nil
  | cons r t ih =>
    cases t with
    | nil => exact .nil
    | cons q t' => exact .cons r ih
theorem Vals.rep {xs : List V} {us : List Value} (h : Vals xs us) : ∀ k : Nat, Vals (List.replicate k xs).flatten (List.replicate k us).flatten
  | 0 => .nil
  | k + 1 => by
    rw [List.replicate_succ, List.replicate_succ, List.flatten_cons, List.flatten_cons]
    exact Vals.append h (Vals.rep h k)
theorem erase_last {α : Type} (l : List α) : l.eraseIdx (l.length - 1) = l.dropLast := by
  induction l with
  | nil => rfl
  | cons a r ih =>
    cases r with
    | nil => rfl
    | cons b r =>
      have e : (a :: b :: r).length - 1 = ((b :: r).length - 1) + 1 := by
        have h1 : (a :: b :: r).length = r.length + 2 := rfl
        have h2 : (b :: r).length = r.length + 1 := rfl
        omega
      rw [e, List.eraseIdx_cons_succ, ih]
      all_goals rfl
theorem foldl_rep (its : List Value) : ∀ (k : Nat) (acc : List Value),
    List.foldl (fun x1 x2 => x1 ++ x2) acc.toArray (List.replicate k its.toArray) = (acc ++ (List.replicate k its).flatten).toArray
  | 0, acc => by simp
  | k + 1, acc => by
    have e : acc.toArray ++ its.toArray = (acc ++ its).toArray := by simp
    have e2 : (acc ++ its) ++ (List.replicate k its).flatten = acc ++ (List.replicate (k + 1) its).flatten := by
      rw [List.replicate_succ, List.flatten_cons, List.append_assoc]
    rw [← e2, ← foldl_rep its k (acc ++ its), ← e, List.replicate_succ, List.foldl_cons]
section
variable {X : Cx} {pins : List (Addr × Obj)} {σ : St} {H : Hp} {s : Shared} {l b : Addr} {xs ys zs : List V}
theorem Inv.lset {its its' : List Value} {n : Nat} {f : Array Value → Array Value} {t' : Nat} (I : Inv X pins σ H s) (hH : H l = some (.lst xs))
    (e : s.heap.get? l = some { cls := .type "list", data := .seq its.toArray n }) (hf : f its.toArray = its'.toArray) (hv : Vals ys its') (hz : ys.length ≤ sizeLine) :
    Inv X pins σ (upd H l (.lst ys)) { s with heap := s.heap.update l (Obj.mapSeq f), toks := t' } := by
  have q := PySem.IsL.update e f
  rw [hf] at q
  refine I.write (x := l) (e := l) (by rw [hH]; exact trivial) (.inl rfl) (fun b' u hb hu => (Heap.get?_update_other s.heap (Obj.mapSeq f) (Ne.symm hb)).trans hu) ⟨_, q⟩ ?_
  exact ⟨hz, its', _, hv, q⟩
theorem Inv.lnew {its : List Value} {t' : Nat} (I : Inv X pins σ H s) (hv : Vals ys its) (hz : ys.length ≤ sizeLine) :
    Inv X pins σ (upd H s.heap.objs.size (.lst ys)) { s with heap := s.heap.push { cls := .type "list", data := .seq its.toArray }, toks := t' } :=
  I.laid (fun _ _ q => Heap.get?_push_of_some _ q) (Nat.le_refl _) ⟨hz, its, 0, hv, Heap.get?_push_size _ rfl⟩
theorem Inv.fresh (I : Inv X pins σ H s) : H s.heap.objs.size = none := I.hok.fresh (Nat.le_refl _)
theorem Inv.lstM (I : Inv X pins σ H s) (hH : H l = some (.lst xs)) : xs.length ≤ sizeLine ∧ ∃ (its : List Value) (n : Nat), Vals xs its ∧ xs.length = its.length ∧ s.heap.get? l = some { cls := .type "list", data := .seq its.toArray n } := by
  obtain ⟨z, its, n, r, e⟩ := I.hok l _ hH
  exact ⟨z, its, n, r, r.length, e⟩
theorem notLongL {n : Nat} (h : n ≤ sizeLine) : Builtin.List.listTooLong n = false := by
  unfold Builtin.List.listTooLong
  exact decide_eq_false (by omega)
end
section
variable {X : Cx}
noncomputable def rAppend : V → List V → Hp → VK → Prop := fun x vs H Q => ∃ l xs y, x = .ref l ∧ vs = [y] ∧ H l = some (.lst xs) ∧ xs.length < sizeLine ∧ Q .non (upd H l (.lst (xs ++ [y])))
theorem mt_append : MtM X "list.append" rAppend := by
  intro pins s σ H x vs v us Q I rx rv h
  obtain ⟨l, xs, y, rfl, rfl, hH, hz, q⟩ := h
  cases rx
  obtain ⟨u, rfl, ru⟩ := rv.one
  obtain ⟨z, its, n, r, hl, e⟩ := I.lstM hH
  refine call_meets F.slot_list_append ⟨_, e, rfl⟩ F.entry_list_append (F.args_list_append_2 _ _) (PySem.list_append l its.toArray n u (by rw [List.size_toArray]; omega)) ⟨e, ?_⟩
  refine ⟨.non, _, I.lset (its' := its ++ [u]) hH e (by simp) (r.append (.cons ru .nil)) ?_, rfl, q⟩
  rw [List.length_append, List.length_singleton]
  omega
noncomputable def rExtend : V → List V → Hp → VK → Prop := fun x vs H Q => ∃ l b xs zs, x = .ref l ∧ vs = [.ref b] ∧ H l = some (.lst xs) ∧ H b = some (.lst zs) ∧ xs.length + zs.length ≤ sizeLine ∧ Q .non (upd H l (.lst (xs ++ zs)))
theorem mt_extend : MtM X "list.extend" rExtend := by
  intro pins s σ H x vs v us Q I rx rv h
  obtain ⟨l, b, xs, zs, rfl, rfl, hH, hB, hz, q⟩ := h
  cases rx
  obtain ⟨u, rfl, ru⟩ := rv.one
  cases ru
  obtain ⟨z, its, n, r, hl, e⟩ := I.lstM hH
  obtain ⟨z2, its2, n2, r2, hl2, e2⟩ := I.lstM hB
  have hsz : its.toArray.size + its2.toArray.size ≤ sizeLine := by rw [List.size_toArray, List.size_toArray]; omega
  have hlong : ¬ (!its.toArray.isEmpty && Builtin.List.listTooLong (its.toArray.size + its2.toArray.size)) = true := by
    rw [notLongL hsz, Bool.and_false]
    exact Bool.false_ne_true
  refine call_meets F.slot_list_extend ⟨_, e, rfl⟩ F.entry_list_extend (F.args_list_extend_2 _ _)
    (AutoSeq1.list_extend_list_list_0 l its.toArray n b its2.toArray n2 hlong (by rw [List.size_toArray]; omega) (by omega)) ⟨e, e2, ?_⟩
  refine ⟨.non, _, I.lset (its' := its ++ its2) hH e (by simp) (r.append r2) ?_, rfl, q⟩
  rw [List.length_append]
  omega
noncomputable def rPop : V → List V → Hp → VK → Prop := fun x vs H Q => ∃ l xs y, x = .ref l ∧ vs = [] ∧ H l = some (.lst xs) ∧ xs[xs.length - 1]? = some y ∧ Q y (upd H l (.lst xs.dropLast))
theorem mt_pop : MtM X "list.pop" rPop := by
  intro pins s σ H x vs v us Q I rx rv h
  obtain ⟨l, xs, y, rfl, rfl, hH, hy, q⟩ := h
  cases rx
  have hus := rv.zero
  subst hus
  obtain ⟨z, its, n, r, hl, e⟩ := I.lstM hH
  obtain ⟨u, hu, ru⟩ := r.get hy
  have hy' : its.toArray[its.toArray.size - 1]? = some u := by
    show its.toArray[its.length - 1]? = some u
    rw [← Array.getElem?_toList, ← hl]
    exact hu
  refine call_meets F.slot_list_pop ⟨_, e, rfl⟩ F.entry_list_pop (F.args_list_pop_1 _) (MeetsSeq.list_pop_last l its.toArray n u hy' (by rw [List.size_toArray]; omega)) ⟨e, ?_⟩
  refine ⟨y, _, I.lset (its' := its.dropLast) hH e ?_ r.dropLast ?_, ru, q⟩
  · show its.toArray.eraseIdxIfInBounds (its.toArray.size - 1) = its.dropLast.toArray
    rw [List.size_toArray, List.eraseIdxIfInBounds_toArray, erase_last]
  · rw [List.length_dropLast]
    omega
noncomputable def rClear : V → List V → Hp → VK → Prop := fun x vs H Q => ∃ l xs, x = .ref l ∧ vs = [] ∧ H l = some (.lst xs) ∧ Q .non (upd H l (.lst []))
theorem mt_clear : MtM X "list.clear" rClear := by
  intro pins s σ H x vs v us Q I rx rv h
  obtain ⟨l, xs, rfl, rfl, hH, q⟩ := h
  cases rx
  have hus := rv.zero
  subst hus
  obtain ⟨z, its, n, r, hl, e⟩ := I.lstM hH
  refine call_meets F.slot_list_clear ⟨_, e, rfl⟩ F.entry_list_clear (F.args_list_clear_1 _) (AutoSeq1.list_clear_list_0 l its.toArray n (by rw [List.size_toArray]; omega)) ⟨e, ?_⟩
  exact ⟨.non, _, I.lset (its' := []) (ys := []) hH e rfl .nil (Nat.zero_le _), rfl, q⟩
noncomputable def rCat : R2 := fun x y H Q => ∃ l b xs zs, x = .ref l ∧ y = .ref b ∧ H l = some (.lst xs) ∧ H b = some (.lst zs) ∧ xs.length + zs.length ≤ sizeLine ∧ ∀ p, H p = none → Q (.ref p) (upd H p (.lst (xs ++ zs)))
theorem op_cat : OpR X (binaryOp .Add) rCat := by
  intro pins s σ H x y v u Q I rx ry h
  obtain ⟨l, b, xs, zs, rfl, rfl, hH, hB, hz, q⟩ := h
  cases rx
  cases ry
  obtain ⟨z, its, n, r, hl, e⟩ := I.lstM hH
  obtain ⟨z2, its2, n2, r2, hl2, e2⟩ := I.lstM hB
  refine PySem.P.add_list e e2 ?_ (by rw [List.size_toArray, List.size_toArray]; omega)
  have ea : its.toArray ++ its2.toArray = (its ++ its2).toArray := by simp
  rw [ea]
  exact ⟨.ref _, _, I.lnew (t' := s.toks) (r.append r2) (by rw [List.length_append]; omega), rfl, q _ I.fresh⟩
noncomputable def rRep : R2 := fun x y H Q => ∃ l k xs, x = .ref l ∧ y = .int k ∧ H l = some (.lst xs) ∧ -(2 ^ 63) ≤ k ∧ k < 2 ^ 63 ∧ xs.length * k.toNat ≤ sizeLine ∧
  ∀ p, H p = none → Q (.ref p) (upd H p (.lst (List.replicate k.toNat xs).flatten))
theorem len_rep {α : Type} (xs : List α) (k : Nat) : (List.replicate k xs).flatten.length = k * xs.length := by
  induction k with
  | zero => simp
  | succ k ih => rw [List.replicate_succ, List.flatten_cons, List.length_append, ih, Nat.succ_mul, Nat.add_comm]
theorem op_rep : OpR X (binaryOp .Mult) rRep := by
  intro pins s σ H x y v u Q I rx ry h
  obtain ⟨l, k, xs, rfl, rfl, hH, h1, h2, hz, q⟩ := h
  cases rx
  obtain ⟨t, rfl⟩ := ry
  obtain ⟨z, its, n, r, hl, e⟩ := I.lstM hH
  have hlen : its.toArray.size * k.toNat ≤ sizeLine := by rw [List.size_toArray, ← hl]; exact hz
  have hcap : ¬ its.toArray.size * k.toNat > (2 ^ 63 - 1) / 8 := by
    have : (sizeLine : Nat) ≤ (2 ^ 63 - 1) / 8 := by decide
    omega
  have hfit : ¬ (!Builtin.List.listFitsIndex k) = true := by
    rw [fitsIndex_both h1 h2]
    exact Bool.false_ne_true
  have hlong : ¬ Builtin.List.listTooLong (its.toArray.size * k.toNat) = true := by
    rw [notLongL hlen]
    exact Bool.false_ne_true
  have hnew : List.foldl (fun x1 x2 => x1 ++ x2) #[] (List.replicate (if its.toArray.isEmpty = true then 0 else k.toNat) its.toArray) = (List.replicate k.toNat its).flatten.toArray := by
    have f0 : ∀ m : Nat, List.foldl (fun x1 x2 => x1 ++ x2) #[] (List.replicate m its.toArray) = (List.replicate m its).flatten.toArray := fun m => by
      have := foldl_rep its m []
      rw [List.nil_append] at this
      exact this
    rw [f0]
    cases its with
    | nil => simp
    | cons a r' => rw [if_neg (by simp)]
  refine wpAny_binaryOp_repeat_ref (T := "list") (U := "int") (by decide) ⟨_, e, rfl⟩ (fun s' => typeIs_int s' k t) noFill_list_mul F.fills_int_mul F.slot_int_rmul repeat_list F.slot_int_index.lookup
    (call_meets F.slot_int_rmul (typeIs_int s k t) F.entry_int_rmul (F.args_int_rmul_2 _ _) (int___rmul___int_list k t l its.toArray n)
      ⟨e, rfl, ⟨_, e, rfl⟩, call_meets F.slot_list_mul ⟨_, e, rfl⟩ F.entry_list_mul (F.args_list_mul_2 _ _) (AutoListH.list___mul___list_int_3 l its.toArray n k t hfit hcap hlong) ⟨e, ?_⟩⟩)
  rw [hnew]
  exact ⟨.ref _, _, I.lnew (t' := s.toks) (r.rep k.toNat) (by rw [len_rep, Nat.mul_comm]; exact hz), rfl, q _ I.fresh⟩
end
section
variable {prog : Program} {w : World} {A : Around} {E : Value → Shared → Prop} {s : Shared}
end
section
variable {X : Cx}
end
end L2
namespace Att
open PySem PySem.W PySem.Calls PyProof.Rows
theorem ints_of_wellAll {P : Params} {h : Heap} : ∀ (ns : List Int) (vs : List Value), WellAll P h vs (ns.map WData.int) → IntsAre vs ns := by
  intro ns
  induction ns with
  | nil =>
    intro vs w
    rw [List.map_nil] at w
    cases w
    exact .nil
  | cons n ns ih =>
    intro vs w
    rw [List.map_cons] at w
    cases w with
    | cons a b =>
      cases a
      exact .cons _ _ (ih _ b)
theorem script_of {l : OpenLaw} {n : Nat} (hn : l.most = some n) {P : Params} {h : Heap} {args : List WData} {vals : List Value}
    (hpre : l.row.toRowW.claim.pre args = true) (hwl : WellAll P h vals args) :
    ∃ a vs ns, vals = [Value.ref a] ∧ args = [WData.list (ns.map WData.int)] ∧ h.get? a = some { cls := .type "list", data := .seq vs.toArray } ∧ IntsAre vs ns ∧ ns.length ≤ n := by
  have hsh : WShape.hasAll [] args [.list .int] = true := (pre_splitW hpre).1
  have hc : l.pre.holds [] { args := args } = true := (pre_splitW hpre).2
  obtain ⟨d, r, rfl, h1, h2⟩ := hasAllW_cons hsh
  obtain rfl := hasAllW_nil h2
  obtain ⟨xs, rfl, h3⟩ := hasW_list h1
  obtain ⟨ns, rfl⟩ := items_int h3
  have hlen : ns.length ≤ n := by
    unfold OpenLaw.pre at hc
    have h4 : (WTm.not (.lt (.lit (.int (n : Int))) (.len (.arg 0)))).holds [] { args := [.list (ns.map .int)] } = true := by
      have h4 := (holds_andW hc).1
      rw [hn] at h4
      exact h4
    have h5 := condW_of h4 (w_not (w_lt w_lit (w_len_list (w_arg rfl))))
    rw [List.length_map] at h5
    refine Nat.le_of_not_lt fun q => ?_
    have q' : (n : Int) < ((ns.length : Nat) : Int) := by omega
    first
      | (rw [decide_eq_true q'] at h5; exact absurd h5 (by decide))
      | (simp at h5; omega)
  cases hwl with
  | cons w1 w2 =>
    cases w2
    cases w1 with
    | list ho hall => exact ⟨_, _, ns, rfl, rfl, ho, ints_of_wellAll ns _ hall, hlen⟩
theorem post_true (l : OpenLaw) (args : List WData) : l.row.toRowW.claim.post args (.bool true) args = true :=
  postW_of (r := l.row.toRowW) (X := (true == true))
    (show WShape.has [] (.bool true) .bool = true by first | rfl | decide | simp [WShape.has, WShape.arms, WShape.armsAll])
    (show (WTm.eq .res (.lit (.bool true))).value [] { args := args, res := some (.bool true), after := args } = some (.bool (true == true)) from w_eq_bool (w_res rfl) w_lit) rfl
theorem attach_call {l : OpenLaw} {n : Nat} {q : Program} {loose : List Str} {XP : (Str → Option Value) → Heap → Prop} {YP : World → Heap → Prop} {d : DefRec}
    (hn : l.most = some n) (hdf : d.params.defaults = [])
    (call : ∀ (w : World) (s₀ s₁ : Shared) (mg mb : Str → Option Value) (fa : Addr) (o : Obj) (pm cd doc : Value) (a : Addr) (vs : List Value) (ns : List Int),
      Ground q loose [] XP w s₀ mg mb s₁.heap → YP w s₁.heap →
      s₁.heap.get? fa = some o → o.data = .func (docDef d.name d.params d.body d.scope pm cd doc) → s₁.heap.CodeRec cd d.name → mg d.name = some (.ref fa) →
      s₁.heap.get? a = some { cls := .type "list", data := .seq vs.toArray } → IntsAre vs ns → ns.length ≤ n → s₁.gens = #[] →
      codeAny (model l.prog w) callerA (.call (.ref fa) ⟨[.ref a], []⟩) (fun r s' => r = .ok (.ret (.bool true)) ∧ OldK s₁.heap s'.heap ∧ s'.os = s₁.os ∧ AllBare s'.gens) s₁) :
    WalkO q loose XP YP l.row.toRowW d [] (fun f vs => PySem.call f vs) := by
  intro w s₀ s₁ mg mb G Y fa o pm cd doc dV kV ho hd hcd hD hmg hg args vals as hpre hlay hrd hwl hlo
  obtain rfl : dV = .none := Dflts.none hD hdf
  obtain rfl : kV = .none := Dflts.noKw hD
  obtain ⟨a, vs, ns, rfl, rfl, hobj, hints, hlen⟩ := script_of hn hpre hwl
  refine enter_call (codeAny_mono (call w s₀ s₁ mg mb fa o pm cd doc a vs ns G Y ho (fd_plain hd) hcd hmg hobj hints hlen hg) fun r s' hq => ?_)
  obtain ⟨rfl, h2, h3, h4⟩ := hq
  exact ⟨.inl ⟨.bool true, .bool true, [], rfl, fun _ => rfl, .bool true, post_true l _, fun _ => ⟨List.Pairwise.nil, fun _ hm => (nomatch hm)⟩⟩, h2, h3, h4⟩
section
variable {prog : Program} {w : World} {A : Around} {E : Value → Shared → Prop} {s : Shared} {K : Frag}
end
end Att
namespace L2
open PySem PySem.Spec PyProof.Rows
theorem vals_ints : ∀ {vs : List Value} {ns : List Int}, IntsAre vs ns → Vals (ns.map V.int) vs
  | _, _, .nil => .nil
  | _, _, .cons n t h => .cons ⟨t, rfl⟩ (vals_ints h)
noncomputable def Only (H : Hp) : Prop := ∀ b, H b = none ∨ ∃ o xs, H b = some (.frz o (.lst xs))
theorem law_call {P : Program} {w : World} {K : PySem.W.Frag} {mg mb : Str → Option Value} {CX : CXT} {k : Nat} {fa a : Addr} {fd : FuncData} {x : Str} {sp : Sp} {s₁ : Shared} {vs : List Value} {ns : List Int}
    (KX : K.In s₁.heap) (hns : s₁.heap.Ns mainGlobals mg) (hb : s₁.heap.Ns builtinsNs mb) (hbb : ∀ x : Str, x ≠ "__name__" → mb x = bootBuiltins x) (hlim : s₁.heap.NoLimit) (hg : s₁.gens = #[])
    (ha : s₁.heap.get? a = some { cls := .type "list", data := .seq vs.toArray }) (hi : IntsAre vs ns) (hl : ns.length ≤ sizeLine) (hr : Room k callerA)
    (F : ∀ base : Heap, K.In base → base.Ns mainGlobals mg → FnOk P w K mg base CX k fa fd [x] sp) (hbind : ∀ (s : Shared) (u : Value), BindsTo s fd ⟨[u], []⟩ [(x, u)])
    (hsp : ∀ H : Hp, Only H → SqL K H a (ns.map V.int) → sp [.ref a] H (fun v _ => v = .bl true) fun _ _ _ => False)
    (hCX : ∀ H e s', CX [] H s₁ (fun _ _ _ => False) e s' → False) :
    codeAny (model P w) callerA (.call (.ref fa) ⟨[.ref a], []⟩) (fun r s' => r = .ok (.ret (.bool true)) ∧ OldK s₁.heap s'.heap ∧ s'.os = s₁.os ∧ AllBare s'.gens) s₁ := by
  have rv := vals_ints hi
  have lenV := hi.length
  have core : ∀ H : Hp, Only H → SqL K H a (ns.map V.int) → HOk P w H s₁.heap → (∀ b, H b ≠ none → b = a) → (H a ≠ none → K.lookup a = none) →
      codeAny (model P w) callerA (.call (.ref fa) ⟨[.ref a], []⟩) (fun r s' => r = .ok (.ret (.bool true)) ∧ OldK s₁.heap s'.heap ∧ s'.os = s₁.os ∧ AllBare s'.gens) s₁ := by
    intro H hO hS hok hA hK
    have base_of : ∀ {b : Addr} {o : Obj}, s₁.heap.get? b = some o → H b = none → (hidT s₁.heap H).get? b = some o := fun e n => hidT_get e n
    have noA : ∀ {b : Addr} {o : Obj} {es : Array DictEntry} {ep : Nat}, s₁.heap.get? b = some o → o.data = .dict es ep → H b = none := fun {b o es ep} e d => by
      cases q : H b with
      | none => rfl
      | some u =>
        have e' : b = a := hA b (by rw [q]; simp)
        subst e'
        rw [ha] at e; cases e
        have d' : Data.seq vs.toArray _ = Data.dict es ep := d
        cases d'
    have nsK : ∀ {b : Addr} {m : Str → Option Value}, s₁.heap.Ns b m → (hidT s₁.heap H).Ns b m := fun {b m} ⟨o, es, ep, e, d, r⟩ => ⟨o, es, ep, base_of e (noA e d), d, r⟩
    have hKb : K.In (hidT s₁.heap H) := fun b o e => base_of (KX b o e) (by
      cases q : H b with
      | none => rfl
      | some u =>
        have e' : b = a := hA b (by rw [q]; simp)
        subst e'
        rw [hK (by rw [q]; simp)] at e; cases e)
    have hM : Mod K mg (hidT s₁.heap H) := ⟨hKb, nsK hns, ⟨mb, nsK hb, hbb⟩, let ⟨mc, h1, h2⟩ := hlim; ⟨mc, nsK h1, h2⟩⟩
    have e0 : Env0 P w K mg (hidT s₁.heap H) callerA [] s₁ H := ⟨rfl, hM, fun b o e => of_hidT e, Nat.le_of_eq (hidT_size _ _), trivial, fun b hb => absurd (show b ∈ ([] : List Addr) from hb) (by simp), hok, .of_eq hg⟩
    refine codeAny_mono ((F _ hKb (nsK hns)).run callerA [] s₁ H ⟨[.ref a], []⟩ [.ref a] [.ref a] _ _ hr e0 (hbind s₁ (.ref a)) (.cons rfl .nil) (hsp H hO hS)) fun r s' h => ?_
    cases r with
    | error e => exact (hCX H e s' h).elim
    | ok fl =>
      cases fl with
      | next => exact False.elim h
      | brk => exact False.elim h
      | cont => exact False.elim h
      | ret u =>
        obtain ⟨v, H', os, bare, un, hok', r', q⟩ := h
        have q' : v = .bl true := q
        subst q'
        obtain rfl : u = Value.bool true := r'
        refine ⟨rfl, OldK.of_keep fun b o e => ?_, os, bare⟩
        cases q : H b with
        | none => exact un.keep b o e q (by intro z; exact absurd (show b ∈ ([] : List Addr) from z) (by simp)) (by simp)
        | some u =>
          rcases hO b with z | ⟨ob, xs, z⟩
          · rw [q] at z; cases z
          · have z2 := un.frzs b ob _ z
            obtain ⟨e1, _⟩ := hok b _ z
            obtain ⟨e2, _⟩ := hok' b _ z2
            rw [e] at e1; cases e1
            exact e2
  cases hk : K.lookup a with
  | some o =>
    have e := KX a o hk
    rw [ha] at e
    cases e
    refine core (fun _ => none) (fun _ => .inl rfl) (.inr ⟨_, vs.toArray, _, hk, rfl, rfl, rfl, by rw [List.size_toArray, lenV]; exact hl, by simpa using rv⟩) (fun b u z => by have z' : (none : Option HO) = some u := z; cases z') (fun b z => absurd rfl z) fun z => absurd rfl z
  | none =>
    refine core (fun b => if b = a then some (.frz { cls := .type "list", data := .seq vs.toArray } (.lst (ns.map V.int))) else none) (fun b => ?_) (.inl (.inr ⟨{ cls := .type "list", data := .seq vs.toArray }, if_pos rfl⟩)) (fun b u z => ?_) (fun b z => ?_) fun _ => hk
    · by_cases hb : b = a
      · exact .inr ⟨_, _, if_pos hb⟩
      · exact .inl (if_neg hb)
    · by_cases hb : b = a
      · have z' := (if_pos hb).symm.trans z
        cases z'
        subst hb
        exact ⟨ha, by rw [List.length_map]; exact hl, vs, _, rv, ha⟩
      · have z' := (if_neg hb).symm.trans z
        cases z'
    · by_cases hb : b = a
      · exact hb
      · exact absurd (if_neg hb) z
end L2
namespace L2
open PySem PySem.Spec PyProof.Rows
theorem walk_of {l : PySem.W.OpenLaw} {n k : Nat} {q : Program} {loose : List Str} {XP : (Str → Option Value) → Heap → Prop} {YP : World → Heap → Prop} {d : DefRec} {K : Params → PySem.W.Frag} {CX : World → CXT} {sp : World → Sp} {x : Str}
    (hn : l.most = some n) (hn2 : n ≤ sizeLine) (hdf : d.params.defaults = []) (hr : Room k callerA)
    (hY : ∀ (w : World) (h : Heap), YP w h → (K w.params).In h)
    (F : ∀ (w : World) (mg : Str → Option Value) (fa : Addr) (h : Heap), (K w.params).In h → h.Ns mainGlobals mg → mg d.name = some (.ref fa) →
      ∃ fd : FuncData, (∀ (s : Shared) (u : Value), BindsTo s fd ⟨[u], []⟩ [(x, u)]) ∧
        ∀ base : Heap, (K w.params).In base → base.Ns mainGlobals mg → FnOk l.prog w (K w.params) mg base (CX w) k fa fd [x] (sp w))
    (hsp : ∀ (w : World) (H : Hp) (a : Addr) (ns : List Int), ns.length ≤ n → Only H → SqL (K w.params) H a (ns.map V.int) → sp w [.ref a] H (fun v _ => v = .bl true) fun _ _ _ => False)
    (hCX : ∀ (w : World) (H : Hp) (s : Shared) (e : Value) (s' : Shared), CX w [] H s (fun _ _ _ => False) e s' → False) :
    PySem.W.WalkO q loose XP YP l.row.toRowW d [] (fun f vs => PySem.call f vs) := by
  refine Att.attach_call hn hdf fun w s₀ s₁ mg mb fa o pm cd doc a vs ns G Y ho hd hcd hmg hobj hints hlen hg => ?_
  have KX := hY w _ Y
  obtain ⟨fd, hb, hF⟩ := F w mg fa _ KX G.T.g hmg
  exact law_call KX G.T.g G.T.b G.T.builtins G.T.nolimit hg hobj hints (Nat.le_trans hlen hn2) hr hF hb (fun H hO hS => hsp w H a ns hlen hO hS) fun H e s' => hCX w H s₁ e s'
end L2
/- THE LAST THEOREM (shape; LID, My.* are yours):
   My.Adr: a structure of the addresses that your layer names (classes, functions); My.Txt K t: a structure (Prop) of the equations over K;
   My.txt_mk : {K} {implicit addresses ..} (e1 : nsIn K mainGlobals "law" = some (some (.ref f))) (e2 : K.lookup f = some ⟨oc, od, .func (fnOf "law" "law" params body scope dV kV doc pm an cdv ct), sl⟩) (e3 : codeIn K cdv "law" = true) .. : ∃ t, My.Txt K t
(the tactic k_is has no namespace: write k_is) -/
namespace L2
open PySem PySem.Spec PyProof.Rows
noncomputable def defArgs (s : Stmt) : Arguments := match s with
  | .FunctionDef _ a _ _ _ _ _ _ _ _ => a
  | _ => { posonlyargs := [], args := [], vararg := none, kwonlyargs := [], kw_defaults := [], kwarg := none, defaults := [] }
noncomputable def defBody (s : Stmt) : List Stmt := match s with
  | .FunctionDef _ _ b _ _ _ _ _ _ _ => b
  | _ => []
noncomputable def defScope (s : Stmt) : Scope := match s with
  | .FunctionDef _ _ _ _ _ _ sc _ _ _ => sc
  | _ => { kind := .function, names := [], isGenerator := false, isCoroutine := false }
abbrev CX0 : CXT := fun _ _ _ _ _ _ => False
abbrev E0 : XK := fun _ _ _ => False
theorem pass0 {X : Cx} : Passes CX0 X E0 := fun _ _ _ _ _ _ _ h => h.elim
structure Fun (K : PySem.W.Frag) (x qual : Str) (st : Stmt) (f : Addr) (fd : FuncData) : Prop where
  ex : ∃ (oc : Value) (od : Option Addr) (kV doc pm : Value) (an : Option Addr) (cdv ct : Value) (osl : Array (Option Value)),
    fd = PySem.W.fnOf x qual (defArgs st) (defBody st) (defScope st) .none kV doc pm an cdv ct ∧ K.lookup f = some ⟨oc, od, .func fd, osl⟩ ∧ PySem.W.codeIn K cdv qual = true
  kp : PySem.W.keepIn K (.ref f) = true
section
variable {P : Program} {w : World} {K : PySem.W.Frag} {mg : Str → Option Value} {base : Heap}
theorem Fun.ok {x qual : Str} {st : Stmt} {f : Addr} {fd : FuncData} {N ps : List Str} {k : Nat} {sp : Sp} (F : Fun K x qual st f fd) (S : FnScope N ps (defScope st)) (len : ∀ vs H Q E, sp vs H Q E → vs.length = ps.length)
    (hbody : ∀ (cdv : Value) (A : Around) (outer : List Env) (s : Shared) (H : Hp) (vs : List V) (Q : VK) (E : XK), Room k (A.deeper (envOfC qual (defScope st) s.heap.objs.size f cdv)) → sp vs H Q E →
      ∃ t, PSs (cxOf CX0 P w K mg base N qual (defScope st) f cdv A outer s H E).nox (defBody st) t ∧ t { nx := fun _ H' => Q .non H', rt := Q } (start N vs) H) : FnOk P w K mg base CX0 (k + 1) f fd ps sp := by
  obtain ⟨oc, od, kV, doc, pm, an, cdv, ct, osl, rfl, lk, hcd⟩ := F.ex
  refine fn_of lk hcd S len fun A outer s H vs Q E hr hsp => ?_
  obtain ⟨t, h, q⟩ := hbody cdv A outer s H vs Q E hr hsp
  exact ⟨t, h.nox, q⟩
theorem Fun.binds {x qual : Str} {st : Stmt} {f : Addr} {fd : FuncData} {ps : List Str} (F : Fun K x qual st f fd)
    (h : ∀ (kV doc pm : Value) (an : Option Addr) (cdv ct : Value) (us : List Value), us.length = ps.length → bindArgs (PySem.W.fnOf x qual (defArgs st) (defBody st) (defScope st) .none kV doc pm an cdv ct) ⟨us, []⟩ = pure (ps.zip us)) : Binds K fd ps [] := by
  obtain ⟨oc, od, kV, doc, pm, an, cdv, ct, osl, rfl, lk, hcd⟩ := F.ex
  exact .all (h kV doc pm an cdv ct)
theorem fun_mk {x qual : Str} {st : Stmt} {f : Addr} {oc : Value} {od an : Option Addr} {osl : Array (Option Value)} {kV doc pm cdv ct : Value} (l : K.lookup f = some ⟨oc, od, .func (PySem.W.fnOf x qual (defArgs st) (defBody st) (defScope st) .none kV doc pm an cdv ct), osl⟩)
    (c : PySem.W.codeIn K cdv qual = true) (k : PySem.W.keepIn K (.ref f) = true) : Fun K x qual st f (PySem.W.fnOf x qual (defArgs st) (defBody st) (defScope st) .none kV doc pm an cdv ct) := ⟨⟨oc, od, kV, doc, pm, an, cdv, ct, osl, rfl, l, c⟩, k⟩
end
theorem hu_of {A : Around} {k : Nat} (hr : Room k A) : A.units + 1 < cLine := Nat.lt_of_le_of_lt (Nat.add_le_add_left (by decide : 1 ≤ 64) _) hr.units
theorem small1000 {n : Nat} (h : n ≤ 1000) : n < sizeLine := Nat.lt_of_le_of_lt h (by decide)
section
variable {X : Cx}
theorem pv (i : Nat) {x : Str} {pos : Pos} (hN : X.N[i]? = some x := by rfl) (hv : Vis X.env.scope x := by first | exact Or.inl rfl | exact Or.inr (Or.inl rfl) | exact Or.inr (Or.inr rfl)) (hd : (x == ("__debug__" : Str)) = false := by decide)
    (hcd : (x == ("__classdict__" : Str)) = false := by decide) : PE X (.Name x pos) (tVar i) := pe_var hN hv hd hcd
end
noncomputable def Same (H H' : Hp) : Prop := ∀ b o, H b = some o → H' b = some o
theorem Same.refl (H : Hp) : Same H H := fun _ _ h => h
theorem Same.trans {H H1 H2 : Hp} (a : Same H H1) (b : Same H1 H2) : Same H H2 := fun c o h => b c o (a c o h)
theorem Same.free {H H' : Hp} (e : Same H H') {l : Addr} (h : H' l = Option.none) : H l = Option.none := by
  cases q : H l with
  | none => rfl
  | some o =>
    rw [e l o q] at h
    cases h
theorem Same.seq {K : PySem.W.Frag} {H H' : Hp} {a : Addr} {xs : List V} (e : Same H H') (h : SqL K H a xs) : SqL K H' a xs := by
  rcases h with (h | ⟨o, h⟩) | h
  · exact .inl (.inl (e _ _ h))
  · exact .inl (.inr ⟨o, e _ _ h⟩)
  · exact .inr h
end L2
set_option maxHeartbeats 16000000
namespace L2
open PySem PySem.Spec PyProof.Rows
noncomputable def blk (X : Cx) (N : List Str) (s : Shared) (H : Hp) (sc : Scope) (cl : List (Str × Addr)) (C : Addr) (ex : List Addr) : Cx where
  prog := X.prog
  w := X.w
  K := X.K
  mg := X.mg
  base := X.base
  A := X.A
  N := N
  s₀ := s
  H₀ := H
  env := compEnvC sc cl C X.env
  outer := X.stack
  stack := X.stack
  ex := ex
  fn := fun _ => false
  calm := X.calm
  pn := []
  xe := fun _ _ => False
section
variable {prog : Program} {w : World} {A : Around} {R : Result → Shared → Prop} {s : Shared}
theorem compLoop_go {elt target iter : Expr} {ifs : List Expr} {scope : Scope} {pos : Pos} {it acc : Value} {env : Env} (I : Nat → Shared → Prop)
    (turn : ∀ n s, I n s → wpAny (model prog w) A (pyNext it) (fun r s₁ => match r with
      | none => R (.ok .next) s₁
      | some v => wpAny (model prog w) A (letOwnedTupleGo target it v) (fun _ s₁' => wpAny (model prog w) A (assign target env v) (fun _ s₂ =>
          wpAny (model prog w) A (forIn ifs true fun c r => if r = true then do let ok ← isTrue c env (eval c env); pure (ForInStep.yield ok) else pure (ForInStep.yield r)) (fun ok s₃ =>
            if ok = true then wpAny (model prog w) A (eval elt env) (fun x s₄ =>
              wpAny (model prog w) A (call (.builtin "list.append") [acc, x]) (fun _ s₅ => ∃ m, m < n ∧ I m s₅) (fun _ _ => False) s₄) (fun _ _ => False) s₃
            else ∃ m, m < n ∧ I m s₃) (fun _ _ => False) s₂) (fun _ _ => False) s₁') (fun _ _ => False) s₁) (fun _ _ => False) s)
    (n : Nat) (h : I n s) :
    codeAny (model prog w) A (.compLoop (.ListComp elt [⟨target, iter, ifs, 0⟩] scope pos) 0 it acc env) R s := by
  refine codeAny_loop rfl I (fun n s hI => ?_) n h
  show wpAny _ A ((compTurn (.ListComp elt [⟨target, iter, ifs, 0⟩] scope pos) 0 it acc env).onRaise (fun x => do noteFrame x env; theTreesLotGoes x)) _ _ s
  refine wpAny_noted ?_
  rw [compTurn_list]
  refine wpAny_bind (wpAny_standAt (wpAny_bind (wpAny_mono (turn n s hI) (fun r s₁ h₁ => ?_) fun _ _ h' => h'.elim)))
  cases r with
  | none => exact wpAny_pure h₁
  | some v =>
    refine wpAny_bind (wpAny_mono h₁ (fun _ s₁' h₁' => ?_) fun _ _ h' => h'.elim)
    refine wpAny_bind (wpAny_mono h₁' (fun _ s₂ h₂ => wpAny_bind (wpAny_mono h₂ (fun ok s₃ h₃ => ?_) fun _ _ h' => h'.elim)) fun _ _ h' => h'.elim)
    cases ok with
    | false => exact wpAny_pure ⟨rfl, h₃⟩
    | true =>
      exact wpAny_bind (wpAny_bind (wpAny_mono h₃ (fun x s₄ h₄ => wpAny_bind (wpAny_mono h₄ (fun _ s₅ h₅ => wpAny_pure (wpAny_pure ⟨rfl, h₅⟩)) fun _ _ h' => h'.elim)) fun _ _ h' => h'.elim))
end
noncomputable def PTs (X : Cx) (ifs : List Expr) (t : TT) : Prop :=
  ∀ (pins : List (Addr × Obj)) (s : Shared) (σ : St) (H : Hp) (Q : Bool → Hp → Prop), Inv X pins σ H s → t σ H Q →
    wpAny (model X.prog X.w) X.A (forIn ifs true fun c r => if r = true then do let ok ← isTrue c X.env (eval c X.env); pure (ForInStep.yield ok) else pure (ForInStep.yield r)) (TP X pins σ Q) X.xe s
noncomputable def tYes : TT := fun _ H Q => Q true H
theorem pts_nil {X : Cx} : PTs X [] tYes := fun _ _ _ H _ I h => wpAny_tests_nil ⟨H, I, h⟩
theorem pts_one {X : Cx} {c : Expr} {t : TT} (h : PT X c t) : PTs X [c] t := fun pins s σ H Q I q => wpAny_tests_one (h pins s σ H Q I q)
noncomputable def frees (σ : St) (ix : List Nat) : St := ix.map fun j => (σ[j]?).getD none
noncomputable def CompGo (J : It) (H1 : Hp) (σ : St) (ix : List Nat) (tc : TT) (te : TE) (Q : VK) : Prop := ∀ D, H1 D = none →
  ∃ W : Nat → Nat → Hp → Prop, (∃ m, W 0 m (upd H1 D (.lst []))) ∧ ∀ i m H, W i m H →
    (J.stop i H ∧ Q (.ref D) H) ∨ (J.go i H ∧ ∀ x H', J.yld i H x H' → tc (some x :: frees σ ix) H' fun b H2 =>
      if b = true then te (some x :: frees σ ix) H2 fun y H3 => ∃ ys, H3 D = some (.lst ys) ∧ ys.length < sizeLine ∧ ∃ m', m' < m ∧ W (i + 1) m' (upd H3 D (.lst (ys ++ [y])))
      else ∃ m', m' < m ∧ W (i + 1) m' H2)
noncomputable def tComp (ix : List Nat) (wi : TI) (tc : TT) (te : TE) : TE := fun σ H Q => wi σ H fun J H1 => CompGo J H1 σ ix tc te Q
section
variable {X : Cx}
theorem inv_blk {pins : List (Addr × Obj)} {σ : St} {H : Hp} {s : Shared} {N : List Str} {x : Str} {sc : Scope} {cl : List (Str × Addr)} {fp : List Addr} {ix : List Nat} {h1 : Heap} {m : Str → Option Value} {tk : Nat}
    (I : Inv X pins σ H s) (hkind : sc.kind = .function) (hN : N = x :: ix.map fun j => (X.N[j]?).getD "")
    (hsub : ∀ y c, cl.lookup y = some c → X.env.cells.lookup y = some c) (hhas : ∀ y, ((relabel sc X.env).names.lookup y = some .cell ∨ (relabel sc X.env).names.lookup y = some .free) → ∃ c, cl.lookup y = some c)
    (hix : ∀ j ∈ ix, ∃ y, X.N[j]? = some y ∧ X.env.kindOf y = some .cell ∧ (relabel sc X.env).names.lookup y = some .cell)
    (hfp : ∀ b ∈ fp, FpOk X pins H b) (hlt : ∀ b ∈ fp, b < s.heap.objs.size)
    (hns : h1.Ns s.heap.objs.size m) (hk : ∀ b o, s.heap.get? b = some o → h1.get? b = some o) :
    Inv (blk X N s H sc cl s.heap.objs.size fp) [] (none :: frees σ ix) H { s with heap := h1, toks := tk } := by
  have fresh : H s.heap.objs.size = none := I.hok.fresh (Nat.le_refl _)
  refine ⟨⟨I.ok.mod, hkind, I.ok.glob, I.ok.blt, Nat.le_refl _, fun y z c h1 h2 => I.ok.inj y z c (hsub y c h1) (hsub z c h2), fun y hy => hhas y hy, fun y c z _ => absurd (show false = true from z) (by decide), I.ok.hd, I.ok.frames, .inl rfl,
    fun b hb => ⟨Nat.ne_of_lt (hlt b hb), fun y c e => (hfp b hb).2.2.2.2.1 y c (hsub y c e)⟩, I.bs, Nat.le_trans I.ok.bsz I.sz, fun b o e hb => ?_, fun b hb z => ?_, I.stack, I.stkFree⟩,
    rfl, I.bare, Un.kept hk, ⟨m, hns, fun i y v e1 e2 e3 => ?_⟩, fun y c e => ?_, fresh, fun y c e => I.freeC y c (hsub y c e), fun p hp => absurd (show p ∈ ([] : List (Addr × Obj)) from hp) (by simp), I.hok.kept hk, ?_⟩
  · rcases (hfp b hb).2.2.2.1 with z | z
    · exact I.ok.noex b o e z
    · exact absurd (Nat.lt_of_lt_of_le (Heap.lt_size e) (Nat.le_trans I.ok.bsz z)) (Nat.lt_irrefl _)
  · rcases List.mem_cons.mp (I.stkSub b z) with q | q
    · exact (hfp b hb).2.1 q
    · exact (hfp b hb).2.2.1 q
  · cases i with
    | zero =>
      have e2' : (some none : Option (Option V)) = some (some v) := e2
      cases e2'
    | succ i =>
      have e2' : (frees σ ix)[i]? = some (some v) := by simpa using e2
      unfold frees at e2'
      rw [List.getElem?_map] at e2'
      cases q : ix[i]? with
      | none => rw [q] at e2'; cases e2'
      | some j =>
        rw [q] at e2'
        have e3' : (σ[j]?).getD none = some v := by simpa using e2'
        have e4 : σ[j]? = some (some v) := by
          cases q2 : σ[j]? with
          | none => rw [q2] at e3'; cases e3'
          | some w => rw [q2] at e3'; simpa using e3'
        obtain ⟨y', hy, hc, hr⟩ := hix j (List.mem_of_getElem? q)
        have ey : y' = y := by
          have e1' : N[i + 1]? = some y := e1
          rw [hN, List.getElem?_cons_succ, List.getElem?_map, q] at e1'
          have := Option.some.inj e1'
          simpa [hy] using this
        subst ey
        obtain ⟨m0, hn0, hl0⟩ := I.loc
        obtain ⟨u, r, l⟩ := hl0 j y' v hy e4 (.inr (.inl hc))
        refine ⟨u, r, .inr ⟨.inl hr, ?_⟩⟩
        rcases l with ⟨k, _⟩ | ⟨_, c, ec, ic⟩
        · rw [hc] at k; cases k
        · obtain ⟨c', ec'⟩ := hhas y' (.inl hr)
          have := hsub y' c' ec'
          rw [ec] at this; cases this
          obtain ⟨o, ho, hd⟩ := ic
          exact ⟨c, ec', o, hk c o ho, hd⟩
  · obtain ⟨v, o, ho, hd⟩ := I.cell y c (hsub y c e)
    exact ⟨v, o, hk c o ho, hd⟩
  · show (none :: frees σ ix).length = N.length
    rw [hN]
    simp [frees]
theorem comp_core {elt iter : Expr} {x : Str} {px pos p0 : Pos} {ifs : List Expr} {sc : Scope} {cl : List (Str × Addr)} {ix : List Nat} {wi : TI} {tc : TT} {te : TE} (N : List Str)
    (hc : X.calm = true) (hi : PI X (.Name x px) iter wi) (hif : ∀ s H C ex, PTs (blk X N s H sc cl C ex) ifs tc) (he : ∀ s H C ex, PE (blk X N s H sc cl C ex) elt te)
    (hkind : sc.kind = .function) (hN : N = x :: ix.map fun j => (X.N[j]?).getD "") (hnd : N.Nodup) (hx : sc.names.lookup x = some .local)
    (hcl : closureFor sc X.env = pure cl) (hcell : ∀ y ∈ sc.names, y.2 ≠ .cell) (hnames : ∀ y ∈ sc.names, y.2 = .local → sc.names.lookup y.1 = some .local)
    (hsub : ∀ y c, cl.lookup y = some c → X.env.cells.lookup y = some c) (hhas : ∀ y, ((relabel sc X.env).names.lookup y = some .cell ∨ (relabel sc X.env).names.lookup y = some .free) → ∃ c, cl.lookup y = some c)
    (hix : ∀ j ∈ ix, ∃ y, X.N[j]? = some y ∧ X.env.kindOf y = some .cell ∧ (relabel sc X.env).names.lookup y = some .cell)
    (hs : ∀ x, foldedSetIterable iter X.env x = pure x)
    {use : Option (Value → Sem Unit)} {RP : Value → Shared → Prop} {Q : VK} {pins : List (Addr × Obj)} {s : Shared} {σ : St} {H : Hp} (I : Inv X pins σ H s) (h : tComp ix wi tc te σ H Q)
    (hfin : ∀ (D C : Addr) (s6 : Shared) (H5 : Hp) (mm : Str → Option Value), Inv X pins σ H5 s6 → s6.heap.Ns C mm → H5 C = none → C ≠ X.env.locals → (∀ z c, X.env.cells.lookup z = some c → c ≠ C) → X.s₀.heap.objs.size ≤ C → (∀ p ∈ X.pn ++ pins, p.1 ≠ C) → Q (.ref D) H5 → compPost (model X.prog X.w) X.A X.xe use RP (.ref D) C (.ok .next) s6) :
    wpAny (model X.prog X.w) X.A (comprehension (.ListComp elt [⟨.Name x px, iter, ifs, 0⟩] sc pos) sc X.env p0 (newList []) false (eval iter X.env) use) RP X.xe s := by
  refine wpAny_comprehension_free (use := use) rfl hs hcl hkind hnames (thn (hi pins s σ H _ I h) fun v s1 h1 => thn h1 fun itv s2 h2 => ?_)
  obtain ⟨it, fp, tn, J, H2, e, I2, T, st2, f2, q2⟩ := h2
  subst e
  have fr2 : H2 s2.heap.objs.size = none := I2.hok.fresh (Nat.le_refl _)
  obtain ⟨W, ⟨m0, w0⟩, turn⟩ := q2 s2.heap.objs.size fr2
  refine wpAny_newObj_type ?_
  have I3 : Inv X pins σ (upd H2 s2.heap.objs.size (.lst [])) { s2 with heap := s2.heap.push { cls := .type "list", dict := none, data := .seq ([] : List Value).toArray } } := by
    exact I2.lnew (its := []) (ys := []) (t' := s2.toks) .nil (Nat.zero_le _)
  have lt2 : ∀ b ∈ fp, b < s2.heap.objs.size := fun b hb => by
    obtain ⟨o, ho, _⟩ := T.obj _ _ st2 b hb
    exact Heap.lt_size ho
  have f3 : ∀ b ∈ fp, FpOk X pins (upd H2 s2.heap.objs.size (.lst [])) b := fun b hb => ⟨by rw [upd_ne (Nat.ne_of_lt (lt2 b hb))]; exact (f2 b hb).1, (f2 b hb).2⟩
  generalize hs3 : ({ s2 with heap := s2.heap.push { cls := .type "list", dict := none, data := .seq ([] : List Value).toArray } } : Shared) = s3 at I3
  have hsz3 : s2.heap.objs.size ≤ s3.heap.objs.size := by rw [← hs3]; show _ ≤ (s2.heap.push _).objs.size; rw [Heap.size_push]; exact Nat.le_succ _
  have tn3 : tn 0 s3.heap := T.keep _ _ _ st2 fun b _ o e => by rw [← hs3]; exact Heap.get?_push_of_some _ e
  have lt3 : ∀ b ∈ fp, b < s3.heap.objs.size := fun b hb => Nat.lt_of_lt_of_le (lt2 b hb) hsz3
  refine wpAny_newFunctionEnv hcell (by intro y hy; simp at hy) (fun h4 hns4 hsb4 => ?_) hkind
  have old : ∀ b o, s3.heap.get? b = some o → h4.get? b = some o := fun b o e => hsb4.extBut b o (Nat.ne_of_lt (Heap.lt_size e)) (Heap.get?_push_of_some _ e)
  have I4 := inv_blk (m := _) (tk := s3.toks + ([] : List (Str × Value)).length) (N := N) I3 hkind hN hsub hhas hix f3 lt3 hns4 old
  have tn4 : tn 0 h4 := T.keep _ _ _ tn3 fun b _ o e => old b o e
  have fpB : ∀ {H' : Hp}, (∀ b ∈ fp, H' b = none) → ∀ b ∈ fp, FpOk (blk X N s3 (upd H2 s2.heap.objs.size (.lst [])) sc cl s3.heap.objs.size fp) [] H' b := fun {H'} hn b hb =>
    ⟨hn b hb, Nat.ne_of_lt (lt3 b hb), I4.ok.exfs b hb, .inl hb, fun y c e => (I4.ok.exf b hb).2 y c e, fun p hp => absurd (show p ∈ ([] : List (Addr × Obj)) from hp) (by simp)⟩
  have loop : codeAny (model X.prog X.w) X.A (.compLoop (.ListComp elt [⟨.Name x px, iter, ifs, 0⟩] sc pos) 0 (.ref it) (.ref s2.heap.objs.size) (compEnvC sc cl s3.heap.objs.size X.env))
      (compPost (model X.prog X.w) X.A X.xe use RP (.ref s2.heap.objs.size) s3.heap.objs.size) { s3 with heap := h4, toks := s3.toks + ([] : List (Str × Value)).length } := by
    refine compLoop_go (fun n s' => ∃ i v0 H', Inv (blk X N s3 (upd H2 s2.heap.objs.size (.lst [])) sc cl s3.heap.objs.size fp) [] (v0 :: frees σ ix) H' s' ∧ tn i s'.heap ∧ (∀ b ∈ fp, H' b = none) ∧ W i n H') ?_ m0
      ⟨0, none, _, I4, tn4, fun b hb => (f3 b hb).1, w0⟩
    rintro n s5 ⟨i, v0, H5, I5, st5, fr5, w5⟩
    rcases turn i n H5 w5 with ⟨stop, qn⟩ | ⟨go, step⟩
    · refine thn (T.done (blk X N s3 (upd H2 s2.heap.objs.size (.lst [])) sc cl s3.heap.objs.size fp) rfl rfl rfl hc i [] s5 _ H5 _ I5 (fpB fr5) st5 stop) fun r s6 ⟨hr, I6⟩ => ?_
      subst hr
      obtain ⟨mm, hm, _⟩ := I6.loc
      have I7 : Inv X pins σ H5 s6 := by
        have hC : H5 s3.heap.objs.size = none := I6.free
        have hc3 : s3.heap.get? s3.heap.objs.size = none := Heap.get?_none_of_le (Nat.le_refl _)
        have up : ∀ b o, b ≠ s3.heap.objs.size → s6.heap.get? b = some o → s6.heap.get? b = some o := fun b o hb e => e
        have neC : ∀ b o, s3.heap.get? b = some o → b ≠ s3.heap.objs.size := fun b o e => Nat.ne_of_lt (Heap.lt_size e)
        have u := I6.base
        refine I3.call' (s' := s6) (ch := fp) I6.os ⟨fun b o e n hb hx => ?_, fun b o e n hb hx => ?_, fun b o e n hx => u.free b o e n hx, fun b o e hx => ?_, u.tups, u.frzs, u.tbls⟩ (fun b o e => ?_) I6.bare fun b hb => ⟨(f3 b hb).2.2.2.1, (f3 b hb).2.1, (f3 b hb).2.2.2.2.1, (f3 b hb).2.2.2.2.2⟩
        · exact up b o (neC b o e) (u.keep b o e n hb hx)
        · obtain ⟨sl, e1⟩ := u.slot b o e n hb hx
          exact ⟨sl, up b _ (neC b o e) e1⟩
        · obtain ⟨o', e1⟩ := u.there b o e hx
          exact ⟨o', up b _ (neC b o e) e1⟩
        · refine (I6.hok b o e).stay (fun c v hc' q => up c v ?_ q) (fun _ q => q) fun _ _ q => q
          rintro rfl
          rcases hc' with z | z
          · rw [← z, hC] at e; cases e
          · rw [hC] at z; cases z
      have hCn : H5 s3.heap.objs.size = none := I6.free
      have hCl : s3.heap.objs.size ≠ X.env.locals := Nat.ne_of_gt I3.lt
      have hCc : ∀ z c, X.env.cells.lookup z = some c → c ≠ s3.heap.objs.size := fun z c e e2 => by
        obtain ⟨v', q⟩ := I3.cell z c e
        exact absurd (e2 ▸ q.lt) (Nat.lt_irrefl _)
      exact hfin _ _ s6 H5 mm I7 hm hCn hCl hCc I3.sz (fun p hp e2 => absurd (e2 ▸ Heap.lt_size (I3.pin p hp).1) (Nat.lt_irrefl _)) qn
    · refine thn (T.item (blk X N s3 (upd H2 s2.heap.objs.size (.lst [])) sc cl s3.heap.objs.size fp) rfl rfl rfl hc i [] s5 _ H5 _ I5 (fpB fr5) st5 go) fun r s6 ⟨u, hr, h6⟩ => ?_
      subst hr
      refine thn h6 fun _ s7 ⟨y, H7, I7, r7, y7, st7, fr7⟩ => ?_
      have I7' := I7.pinned (fpB fr7) (T.obj _ _ st7)
      refine wpAny_assign_Name (store_ok (i := 0) I7' hnd (by show N[0]? = some x; rw [hN]; rfl) (.inl (lookup_relabel_local hx)) r7 (fun s8 I8 => ?_) (.inr (lookup_relabel_local hx)))
      have I8' : Inv (blk X N s3 (upd H2 s2.heap.objs.size (.lst [])) sc cl s3.heap.objs.size fp) ([] ++ pinsAt fp s7.heap) (some y :: frees σ ix) H7 s8 := I8
      refine thn (hif _ _ _ _ _ s8 _ H7 _ I8' (step y H7 y7)) fun ok s9 ⟨H9, I9, q9⟩ => ?_
      have again : ∀ {H' : Hp} {s' : Shared} {m' : Nat}, Inv (blk X N s3 (upd H2 s2.heap.objs.size (.lst [])) sc cl s3.heap.objs.size fp) ([] ++ pinsAt fp s7.heap) (some y :: frees σ ix) H' s' → m' < n → W (i + 1) m' H' →
          ∃ m, m < n ∧ ∃ i v0 H', Inv (blk X N s3 (upd H2 s2.heap.objs.size (.lst [])) sc cl s3.heap.objs.size fp) [] (v0 :: frees σ ix) H' s' ∧ tn i s'.heap ∧ (∀ b ∈ fp, H' b = none) ∧ W i m H' := fun {H' s' m'} Ia hm wa => by
        refine ⟨m', hm, i + 1, some y, H', Ia.unpinned, T.keep _ _ _ st7 fun b hb o e => (Ia.pin (b, o) (List.mem_append_right _ (List.mem_append_right _ (mem_pinsAt hb e)))).1, fun b hb => ?_, wa⟩
        obtain ⟨o, e, d⟩ := T.obj _ _ st7 b hb
        exact (Ia.pin (b, o) (List.mem_append_right _ (List.mem_append_right _ (mem_pinsAt hb e)))).2.1
      cases ok with
      | false =>
        rw [if_neg Bool.false_ne_true] at q9 ⊢
        obtain ⟨m', hm, wa⟩ := q9
        exact again I9 hm wa
      | true =>
        rw [if_pos rfl] at q9 ⊢
        refine thn (he _ _ _ _ _ s9 _ H9 _ I9 q9) fun v10 s10 ⟨z, H10, I10, r10, ys, hD, hl, m', hm, wa⟩ => ?_
        exact thn (mt_append _ s10 _ H10 (.ref s2.heap.objs.size) [z] (.ref s2.heap.objs.size) [v10] (fun _ H' => H' = upd H10 s2.heap.objs.size (.lst (ys ++ [z]))) I10 rfl (.cons r10 .nil) ⟨_, ys, z, rfl, rfl, hD, hl, rfl⟩)
          fun _ s11 ⟨_, H11, I11, _, e11⟩ => again I11 hm (by rw [e11]; exact wa)
  subst hs3
  exact codeAny_compStart_list loop (T.self _ 0 _ _ _ tn4 loop)
theorem pe_comp {elt iter : Expr} {x : Str} {px pos : Pos} {ifs : List Expr} {sc : Scope} {cl : List (Str × Addr)} {ix : List Nat} {wi : TI} {tc : TT} {te : TE} (N : List Str)
    (hc : X.calm = true) (hi : PI X (.Name x px) iter wi) (hif : ∀ s H C ex, PTs (blk X N s H sc cl C ex) ifs tc) (he : ∀ s H C ex, PE (blk X N s H sc cl C ex) elt te)
    (hkind : sc.kind = .function) (hN : N = x :: ix.map fun j => (X.N[j]?).getD "") (hnd : N.Nodup) (hx : sc.names.lookup x = some .local)
    (hcl : closureFor sc X.env = pure cl) (hcell : ∀ y ∈ sc.names, y.2 ≠ .cell) (hnames : ∀ y ∈ sc.names, y.2 = .local → sc.names.lookup y.1 = some .local)
    (hsub : ∀ y c, cl.lookup y = some c → X.env.cells.lookup y = some c) (hhas : ∀ y, ((relabel sc X.env).names.lookup y = some .cell ∨ (relabel sc X.env).names.lookup y = some .free) → ∃ c, cl.lookup y = some c)
    (hix : ∀ j ∈ ix, ∃ y, X.N[j]? = some y ∧ X.env.kindOf y = some .cell ∧ (relabel sc X.env).names.lookup y = some .cell)
    (hs : ∀ x, foldedSetIterable iter X.env x = pure x := by intro _; rfl) :
    PE X (.ListComp elt [⟨.Name x px, iter, ifs, 0⟩] sc pos) (tComp ix wi tc te) := by
  intro pins s σ H Q I h
  rw [eval_ListComp]
  exact comp_core N hc hi hif he hkind hN hnd hx hcl hcell hnames hsub hhas hix hs I h fun D C s6 H5 mm I7 hm hCn hCl hCc hsz hpin qn =>
    ⟨mm, hm, fun h7 sb7 => ⟨.ref D, H5, I7.turned (t' := s6.toks) (it := C) (fun b o hb e => sb7.extBut b o hb e) hCn hCl (.inr hsz) hCc hpin, rfl, qn⟩⟩
end
end L2
namespace L2
open PySem PySem.Spec PyProof.Rows
noncomputable def Its (x : Str) : It := ⟨fun i _ => i < x.cps.size, fun i H v H' => H' = H ∧ ∃ c, x.cps[i]? = some c ∧ v = .str ⟨#[c]⟩, fun i _ => x.cps.size ≤ i⟩
theorem turn_str {P : Program} {w : World} {K : PySem.W.Frag} {tg : Expr} {x : Str} {t : Tok} (it : Addr) (T : String) (hT : T = "str_ascii_iterator" ∨ T = "str_iterator") : Turn P w K tg (Its x) [it] it (fun i h => h.IsStrIter it T x t i ∧ i ≤ x.cps.size) where
  mem := by simp
  obj := fun i h st b hb => by
    have e : b = it := by simpa using hb
    subst e
    obtain ⟨⟨o, e, c, d⟩, _⟩ := st
    exact ⟨o, e, fun v z => by rw [d] at z; cases z⟩
  keep := fun i h h' st k => ⟨let ⟨o, ho, r⟩ := st.1; ⟨o, k it (by simp) o ho, r⟩, st.2⟩
  item := by
    intro X hP hw hK hc i pins s σ H E I hf st hg
    subst hP hw hK
    obtain ⟨f0, f1, f2, f3, f4, f5⟩ := hf it (by simp)
    have hi : i < x.cps.size := hg
    have fin : ∀ h', h'.IsStrIter it T x t (i + 1) → (∀ b o, b ≠ it → s.heap.get? b = some o → h'.get? b = some o) → ∀ u : Tok, ∃ uv, some (Value.str ⟨#[x.cps[i]]⟩ u) = some uv ∧
        wpAny (model X.prog X.w) X.A (letOwnedTupleGo tg (.ref it) uv) (fun _ s2 => ∃ v H', Inv X pins σ H' s2 ∧ RelV v uv ∧ (Its x).yld i H v H' ∧ (s2.heap.IsStrIter it T x t (i + 1) ∧ i + 1 ≤ x.cps.size) ∧ ∀ b ∈ [it], H' b = none) E { s with heap := h', toks := s.toks + 1 } := fun h' st' kk u => by
      have I1 : Inv X pins σ H { s with heap := h', toks := s.toks + 1 } := I.turned (fun b o hb e => kk b o hb e) f0 f1 f3 f4 f5
      obtain ⟨o, e, c, d⟩ := id st'
      refine ⟨_, rfl, go_of (s := { s with heap := h', toks := s.toks + 1 }) e c d (by rcases hT with rfl | rfl <;> decide) ⟨.str ⟨#[x.cps[i]]⟩, H, I1, ⟨u, rfl⟩, ⟨rfl, _, by simp [hi], rfl⟩, ⟨st', hi⟩, fun b hb => ?_⟩⟩
      exact (hf b hb).1
    rcases hT with rfl | rfl
    · exact wpAny_pyNext_ascii_item st.1 (c := x.cps[i]) (by simp [hi]) fun h' hit' hs' => fin h' hit' (fun b o hb e => hs'.extBut b o hb e) _
    · exact wpAny_pyNext_wide_item st.1 (c := x.cps[i]) (by simp [hi]) fun h' hit' hs' => fin h' hit' (fun b o hb e => hs'.extBut b o hb e) _
  done := by
    intro X hP hw hK hc i pins s σ H E I hf st hg
    subst hP hw hK
    obtain ⟨f0, f1, f2, f3, f4, f5⟩ := hf it (by simp)
    have hi : x.cps.size ≤ i := hg
    rcases hT with rfl | rfl
    · exact wpAny_pyNext_ascii_end (I.ok.hd hc) st.1 (by simp; omega) fun h' eb => ⟨rfl, I.turned (t' := s.toks) (fun b o hb e => eb b o hb e) f0 f1 f3 f4 f5⟩
    · exact wpAny_pyNext_wide_end (I.ok.hd hc) st.1 (by simp; omega) fun h' eb => ⟨rfl, I.turned (t' := s.toks) (fun b o hb e => eb b o hb e) f0 f1 f3 f4 f5⟩
  self := fun _ _ _ _ _ st h => by
    rcases hT with rfl | rfl
    · exact wpAny_pyIter_striter_ascii st.1 h
    · exact wpAny_pyIter_striter_wide st.1 h
section
variable {X : Cx} {tg : Expr}
noncomputable def iStr (tl : TE) : TI := fun σ H R => tl σ H fun x H1 => ∃ z, x = .str z ∧ R (Its z) H1
theorem pi_str {l : Expr} {tl : TE} (hl : PE X l tl) : PI X tg l (iStr tl) := by
  intro pins s σ H R I h
  refine thn (hl pins s σ H _ I h) fun v s1 ⟨x, H1, I1, r1, q1⟩ => ?_
  obtain ⟨z, e, q⟩ := q1
  subst e
  obtain ⟨t, rfl⟩ := r1
  have fin : ∀ (o : Obj) (T : String), (T = "str_ascii_iterator" ∨ T = "str_iterator") → (s1.heap.push o).IsStrIter s1.heap.objs.size T z t 0 → PIE X pins σ tg R (.ref s1.heap.objs.size) { s1 with heap := s1.heap.push o } := fun o T hT hs => by
    refine ⟨s1.heap.objs.size, [s1.heap.objs.size], _, _, H1, rfl, I1.kept (t' := s1.toks) fun b o e => Heap.get?_push_of_some _ e, turn_str (x := z) (t := t) _ T hT, ⟨hs, Nat.zero_le _⟩, fun b hb => ?_, q⟩
    have e : b = s1.heap.objs.size := by simpa using hb
    subst e
    exact I1.fpOk (Nat.le_refl _) (I1.hok.fresh (Nat.le_refl _))
  cases ha : z.cps.all (· < 128)
  · exact wpAny_pyIter_wide ha (fin _ _ (.inr rfl) ⟨_, Heap.get?_push_size _ rfl, rfl, rfl⟩)
  · exact wpAny_pyIter_ascii ha (fin _ _ (.inl rfl) ⟨_, Heap.get?_push_size _ rfl, rfl, rfl⟩)
theorem call_all (hc : X.calm = true) : CallR X (.builtin "all") (fun xs H Q => ∃ (a : Addr) (bs : List Bool), xs = [.ref a] ∧ SqL X.K H a (bs.map V.bl) ∧ Q (.bl (bs.all id)) H) := by
  intro pins s σ H xs us Q I r h
  obtain ⟨a, bs, rfl, hq, q⟩ := h
  obtain ⟨u, rfl, ru⟩ := r.one
  cases ru
  obtain ⟨its, rv, p, hz⟩ := I.list hq
  have hlt : a < s.heap.objs.size := by obtain ⟨o, n, e, _⟩ := p; exact Heap.lt_size e
  refine call_all_walk (wpAny_pyIter_list p.isList ?_)
  have len : bs.length = its.length := by have := rv.length; simpa using this
  refine ⟨s.heap.objs.size, _, _, _, _, _, fun i => (bs[i]?).getD false, rfl, Walks.list (A := X.A.in1) (show X.A.in1.handled = none from I.ok.hd hc) s.heap.objs.size a (Nat.ne_of_lt hlt) its.toArray, ⟨⟨_, Heap.get?_push_size _ rfl, rfl, rfl⟩, p.isList.at fun o e => Heap.get?_push_of_some _ e⟩, ?_, ?_⟩
  · intro i v s' Q' E' hv hQ
    have hv' : its[i]? = some v := by simpa using hv
    cases hb : bs[i]? with
    | none =>
      have h1 := List.getElem?_eq_none_iff.mp hb
      have h2 := (List.getElem?_eq_some_iff.mp hv').1
      omega
    | some b =>
      obtain ⟨u, hu, ru⟩ := rv.get (i := i) (x := V.bl b) (by rw [List.getElem?_map, hb] <;> rfl)
      rw [hv'] at hu
      cases hu
      cases ru
      simp only [hb, Option.getD_some] at hQ
      exact wpAny_truthy_bool hQ
  · intro h' tk hk
    have e : (List.range its.toArray.size).all (fun i => (bs[i]?).getD false) = bs.all id := by
      rw [List.size_toArray, ← len]
      rw [Bool.eq_iff_iff]
      simp only [List.all_eq_true, List.mem_range, id]
      constructor
      · intro h b hb
        obtain ⟨i, hi, e⟩ := List.mem_iff_getElem.mp hb
        have := h i hi
        rw [List.getElem?_eq_getElem hi, Option.getD_some, e] at this
        exact this
      · intro h i hi
        rw [List.getElem?_eq_getElem hi, Option.getD_some]
        exact h _ (List.getElem_mem hi)
    have fr : FpOk X pins H s.heap.objs.size := I.fpOk (Nat.le_refl _) (I.hok.fresh (Nat.le_refl _))
    refine ⟨.bl (bs.all id), H, ?_, by rw [e]; rfl, q⟩
    have I1 : Inv X pins σ H { s with heap := h', toks := tk } := I.kept (h' := h') (t' := tk) fun b o e => hk b o (fun z => by
      have : b = s.heap.objs.size := by simpa using z
      exact absurd (Heap.lt_size e) (by rw [this]; exact Nat.lt_irrefl _)) (Heap.get?_push_of_some _ e)
    exact I1
theorem call_isi_list : CallR X (.builtin "isinstance") (fun xs H Q => ∃ a ys, xs = [.ref a, .ty "list"] ∧ SqL X.K H a ys ∧ Q (.bl true) H) := by
  intro pins s σ H xs us Q I r h
  obtain ⟨a, ys, rfl, hq, q⟩ := h
  cases r with
  | cons r1 r =>
    cases r with
    | cons r2 r =>
      cases r
      cases r1
      cases r2
      obtain ⟨its, rv, p, hz⟩ := I.list hq
      obtain ⟨o, n, e, hc, _⟩ := p
      exact IsiPair.list_list e hc ⟨.bl true, H, I, rfl, q⟩
theorem call_isi_tuple : CallR X (.builtin "isinstance") (fun xs H Q => ∃ a ys, xs = [.ref a, .ty "tuple"] ∧ SqT X.K H a ys ∧ Q (.bl true) H) := by
  intro pins s σ H xs us Q I r h
  obtain ⟨a, ys, rfl, hq, q⟩ := h
  cases r with
  | cons r1 r =>
    cases r with
    | cons r2 r =>
      cases r
      cases r1
      cases r2
      obtain ⟨its, rv, p, hz⟩ := I.tuple hq
      obtain ⟨o, e, hc, _⟩ := p
      exact IsiPair.tuple_tuple e hc ⟨.bl true, H, I, rfl, q⟩
theorem call_isi_str : CallR X (.builtin "isinstance") (fun xs H Q => ∃ z, xs = [.str z, .ty "str"] ∧ Q (.bl true) H) := by
  intro pins s σ H xs us Q I r h
  obtain ⟨z, rfl, q⟩ := h
  cases r with
  | cons r1 r =>
    cases r with
    | cons r2 r =>
      cases r
      obtain ⟨t, rfl⟩ := r1
      cases r2
      exact IsiPair.str_str ⟨.bl true, H, I, rfl, q⟩
end
end L2
namespace L2
open PySem PySem.Spec PyProof.Rows
theorem layNew_led (t : SetTable) (es : Array (Int × Value)) (h : Int) (x : Value) : (layNew t es h x).2.1.led = t.led := by
  unfold layNew
  split
  · dsimp only
    unfold SetTable.orStandIn
    split <;> rfl
  · rfl
theorem relaid_flags {t t' : SetTable} {hs : Array Int} {n : Nat} {o : Array Nat} (h : t.relaid hs n = some (t', o)) : t'.led = t.led ∧ t'.plain = t.plain := by
  unfold SetTable.relaid SetTable.laid at h
  cases e : SetTable.layClean (SetTable.sizeAbove n - 1) hs with
  | none => rw [e] at h; cases h
  | some ow =>
    rw [e] at h
    have h' := Option.some.inj h
    cases h'
    exact ⟨rfl, rfl⟩
theorem relayAll_led (t : SetTable) (es : Array (Int × Value)) (n : Nat) : (relayAll t es n).2.1.led = t.led := by
  unfold relayAll
  split
  · rename_i t' o e
    dsimp only
    split
    · exact (relaid_flags e).1
    · rfl
  · rfl
theorem relayAll_plain (t : SetTable) (es : Array (Int × Value)) (n : Nat) (hp : (relayAll t es n).2.1.plain = true) : t.plain = true := by
  unfold relayAll at hp
  split at hp
  · rename_i t' o e
    dsimp only at hp
    split at hp
    · rw [← (relaid_flags e).2]; exact hp
    · cases hp
  · cases hp
noncomputable def txtOf : Value → Str
  | .str x _ => x
  | _ => ⟨#[]⟩
noncomputable def SSet (P : Program) (w : World) (h : Heap) (a : Addr) (ss : List Str) : Prop :=
  ∃ o es ep t, h.get? a = some o ∧ o.ExactSet ∧ o.data = .set es ep t ∧ ElemsOf (strKind P w) es.toList ∧ es.toList.map (fun e => txtOf e.2) = ss ∧ ss.Nodup ∧ es.size < scanBound ∧ t.fits es.size = true ∧
    t.led = !w.params.followText "set-order" ∧ (1 ≤ es.size → t.plain = false)
theorem str_is {P : Program} {w : World} {x : Str} {v : Value} (h : (strKind P w).is x v = true) : ∃ u, v = .str x u := Value.isStrOf_shape h
theorem elems_txt {P : Program} {w : World} {l : List (Int × Value)} (h : ElemsOf (strKind P w) l) {e : Int × Value} (he : e ∈ l) : ∃ u, e.2 = .str (txtOf e.2) u := by
  obtain ⟨⟨k, hk, _⟩, _⟩ := h e he
  obtain ⟨u, hu⟩ := str_is hk
  exact ⟨u, by rw [hu]; rfl⟩
theorem find_mem {P : Program} {w : World} {l : List (Int × Value)} (h : ElemsOf (strKind P w) l) (x : Str) : (l.findIdx? (fun e => (strKind P w).is x e.2)).isSome = decide (x ∈ l.map fun e => txtOf e.2) := by
  rw [Bool.eq_iff_iff, List.findIdx?_isSome, List.any_eq_true, decide_eq_true_eq, List.mem_map]
  constructor
  · rintro ⟨e, he, hk⟩
    obtain ⟨u, hu⟩ := str_is hk
    exact ⟨e, he, by rw [hu]; rfl⟩
  · rintro ⟨e, he, rfl⟩
    obtain ⟨u, hu⟩ := elems_txt h he
    refine ⟨e, he, ?_⟩
    rw [hu]
    exact strKind_is _ _ _ _
section
variable {P : Program} {w : World} {A : Around} {E : Value → Shared → Prop} {s : Shared}
theorem sset_add {a : Addr} {ss : List Str} {x : Str} {u : Tok} {Q : Bool → Shared → Prop} (hS : SSet P w s.heap a ss) (hroom : ss.length + 1 < scanBound)
    (h : ∀ h' ss' b, Heap.SameBut a s.heap h' → SSet P w h' a ss' → (if x ∈ ss then ss' = ss else ss'.Perm (ss ++ [x])) → Q b { s with heap := h' }) :
    wpAny (model P w) A (setAddHashed a (.str x u) (hashStr w x)) Q E s := by
  obtain ⟨o, es, ep, t, ho, hex, hd, hel, hss, hnd, hb, hf, hled, hpl⟩ := hS
  have hkey : (strKind P w).is x (.str x u) = true := strKind_is _ _ _ _
  have hn : es.size = ss.length := by rw [← hss, List.length_map, Array.length_toList]
  unfold setAddHashed setAddHashedIn
  refine wpAny_holding (wpAny_bind (wpAny_setState_of ho hd hf ?_))
  dsimp only
  rw [byScan_of (knd := strKind P w) rfl hb hel]
  simp only [↓reduceIte]
  unfold setAddByScan
  refine wpAny_bind ?_
  refine wpAny_bind (wpAny_rule ?_)
  refine wpAny_bind (wpAny_setScan_of (knd := strKind P w) hkey ho hd hf hel ?_)
  have hfm := find_mem hel x
  rw [hss] at hfm
  cases hr : List.findIdx? (fun e => (strKind P w).is x e.2) es.toList with
  | some j =>
    dsimp only
    rw [hr] at hfm
    have hx : x ∈ ss := of_decide_eq_true (Eq.symm hfm)
    refine wpAny_pure (wpAny_pure ?_)
    have := h s.heap ss false (Heap.SameBut.refl a s.heap) ⟨o, es, ep, t, ho, hex, hd, hel, hss, hnd, hb, hf, hled, hpl⟩ (by rw [if_pos hx])
    exact this
  | none =>
    dsimp only
    rw [hr] at hfm
    have hx : x ∉ ss := of_decide_eq_false (Eq.symm hfm)
    have hgw : ∀ (b : Bool) {s₁ : Shared} {Q' : Unit → Shared → Prop}, Q' () s₁ → wpAny (model P w) A (match b with | true => rule "set.scan.the-table-gave-way" | false => pure ()) Q' E s₁ :=
      fun b s₁ Q' hq => by cases b <;> first | exact wpAny_pure hq | exact wpAny_rule hq
    have hperm := layNew_perm t es (hashStr w x) (.str x u)
    have hfits := layNew_fits t es (hashStr w x) (.str x u)
    have hled1 := layNew_led t es (hashStr w x) (.str x u)
    show wpAny (model P w) A _ _ E s
    have hash : (strKind P w).hash x = hashStr w x := rfl
    try rw [hash]
    generalize hL : layNew t es (hashStr w x) (.str x u) = L at hperm hfits hled1 ⊢
    obtain ⟨es1, t1, wasDummy, gave⟩ := L
    dsimp only at hperm hfits hled1 ⊢
    rw [Array.toList_push] at hperm
    have hel1 : ElemsOf (strKind P w) es1.toList := (ElemsOf.push (knd := strKind P w) hel hkey rfl).perm hperm
    have hss1 : (es1.toList.map fun e => txtOf e.2).Perm (ss ++ [x]) := by
      have := hperm.map (fun e : Int × Value => txtOf e.2)
      rw [List.map_append, hss] at this
      exact this
    have hsz1 : es1.size = ss.length + 1 := by rw [← Array.length_toList, hperm.length_eq, List.length_append, Array.length_toList, hn]; rfl
    have hb1 : es1.size < scanBound := by rw [hsz1]; exact hroom
    have hnd1 : (es1.toList.map fun e => txtOf e.2).Nodup := by
      refine hss1.nodup_iff.mpr ?_
      rw [List.nodup_append]
      exact ⟨hnd, by simp, fun y hy z hz e => by rw [List.mem_singleton.mp hz] at e; exact hx (e ▸ hy)⟩
    refine wpAny_bind (hgw _ ?_)
    have tail : ∀ t2 : SetTable, t2.fits es1.size = true → t2.led = t.led → t2.plain = false → ∀ (g : Bool → Sem Unit), (∀ (b : Bool) (s₁ : Shared) (Q' : Unit → Shared → Prop), Q' () s₁ → wpAny (model P w) A (g b) Q' E s₁) →
        wpAny (model P w) A (do
          storeSet a es1 t2
          if (!wasDummy && t2.tooFull) = true then do
              g (relayAll t2 es1 (SetTable.grown es1.size)).2.2
              storeSet a (relayAll t2 es1 (SetTable.grown es1.size)).1 (relayAll t2 es1 (SetTable.grown es1.size)).2.1
              pure (some true)
            else pure (some true)) (fun r s' => r = some true ∧ ∃ h' ss', s' = { s with heap := h' } ∧ Heap.SameBut a s.heap h' ∧ SSet P w h' a ss' ∧ ss'.Perm (ss ++ [x])) E s := by
      intro t2 hf2 hl2 hp2 g hg
      refine wpAny_bind (wpAny_storeSet_of ho hd ?_ (fits_of_scanBound hb1))
      have ho1 : (s.heap.update a (Obj.putSet es1 t2)).get? a = some { o with data := .set es1 (ep + 1) t2 } := by
        have := Heap.get?_update_self (Obj.putSet es1 t2) ho (by rw [putSet_of es1 t2 hd]; rfl)
        rw [putSet_of es1 t2 hd] at this; exact this
      have hsb1 := Heap.SameBut.update s.heap a (Obj.putSet es1 t2)
      split
      · have hp := relayAll_perm t2 es1 (SetTable.grown es1.size)
        have hfr := relayAll_fits t2 es1 (SetTable.grown es1.size)
        have hlr := relayAll_led t2 es1 (SetTable.grown es1.size)
        have hpr := relayAll_plain t2 es1 (SetTable.grown es1.size)
        generalize hRl : relayAll t2 es1 (SetTable.grown es1.size) = Rl at hp hfr hlr hpr ⊢
        obtain ⟨es2, t3, gave2⟩ := Rl
        dsimp only at hp hfr hlr hpr ⊢
        have hsz : es2.size = es1.size := by rw [← Array.length_toList, hp.length_eq, Array.length_toList]
        have hb2 : es2.size < scanBound := by rw [hsz]; exact hb1
        refine wpAny_bind (hg _ _ _ ?_)
        refine wpAny_bind (wpAny_storeSet_of ho1 rfl ?_ (fits_of_scanBound hb2))
        have ho2 : ((s.heap.update a (Obj.putSet es1 t2)).update a (Obj.putSet es2 t3)).get? a = some { o with data := .set es2 (ep + 1 + 1) t3 } := by
          have := Heap.get?_update_self (Obj.putSet es2 t3) ho1 (by rw [putSet_of es2 t3 rfl]; rfl)
          rw [putSet_of (o := { o with data := .set es1 (ep + 1) t2 }) es2 t3 rfl] at this; exact this
        have hss2 := hp.map (fun e : Int × Value => txtOf e.2)
        refine wpAny_pure ⟨rfl, _, es2.toList.map (fun e => txtOf e.2), rfl, hsb1.trans (Heap.SameBut.update _ a _), ⟨_, es2, ep + 1 + 1, t3, ho2, hex, rfl, hel1.perm hp, rfl, hss2.nodup_iff.mpr hnd1, hb2, hfr, hlr.trans (hl2.trans hled), fun _ => ?_⟩, hss2.trans hss1⟩
        cases hq : t3.plain with
        | false => rfl
        | true => rw [hpr hq] at hp2; cases hp2
      · exact wpAny_pure ⟨rfl, _, es1.toList.map (fun e => txtOf e.2), rfl, hsb1, ⟨_, es1, ep + 1, t2, ho1, hex, rfl, hel1, rfl, hnd1, hb1, hf2, hl2.trans hled, fun _ => hp2⟩, hss1⟩
    have fin : ∀ s' : Shared, (∃ h' ss', s' = { s with heap := h' } ∧ Heap.SameBut a s.heap h' ∧ SSet P w h' a ss' ∧ ss'.Perm (ss ++ [x])) → Q true s' := by
      rintro s' ⟨h', ss', rfl, hsb, hS', hp'⟩
      exact h h' ss' true hsb hS' (by rw [if_neg hx]; exact hp')
    split
    · refine wpAny_bind ?_
      rw [hashByValue_scannable 8 (x := .str x u) rfl]
      refine wpAny_pure ?_
      dsimp only [plainKind]
      simp only [Bool.false_eq_true, if_false]
      refine wpAny_mono (tail { t1 with plain := false } (SetTable.fits_plain_off hfits) hled1 rfl _ ?_) (fun r s' hq => ?_) fun _ _ e => e
      · intro b s₁ Q' hq; cases b <;> first | exact wpAny_pure hq | exact wpAny_rule hq
      · obtain ⟨rfl, hq⟩ := hq
        exact wpAny_pure (fin s' hq)
    · rename_i hnp
      refine wpAny_bind (wpAny_pure ?_)
      simp only [↓reduceIte]
      refine wpAny_mono (tail t1 hfits hled1 (by simpa using hnp) _ ?_) (fun r s' hq => ?_) fun _ _ e => e
      · intro b s₁ Q' hq; cases b <;> first | exact wpAny_pure hq | exact wpAny_rule hq
      · obtain ⟨rfl, hq⟩ := hq
        exact wpAny_pure (fin s' hq)
end
end L2
namespace L2
open PySem PySem.Spec PyProof.Rows
inductive Dd : List Str → List Str → Prop
  | nil : Dd [] []
  | old {xs ss : List Str} {x : Str} : Dd xs ss → x ∈ ss → Dd (xs ++ [x]) ss
  | new {xs ss ss' : List Str} {x : Str} : Dd xs ss → x ∉ ss → ss'.Perm (ss ++ [x]) → Dd (xs ++ [x]) ss'
theorem Dd.mem {xs ss : List Str} (h : Dd xs ss) : ∀ y, y ∈ ss ↔ y ∈ xs := by
  induction h with
  | nil => intro y; exact Iff.rfl
  | old d hx ih =>
    rename_i zs ss x
    intro y
    rw [ih y, List.mem_append, List.mem_singleton]
    constructor
    · exact .inl
    · rintro (q | rfl)
      · exact q
      · exact (ih y).mp hx
  | new d hx hp ih =>
    rename_i zs ss ss' x
    intro y
    rw [hp.mem_iff, List.mem_append, List.mem_append, ih y]
theorem Dd.nodup {xs ss : List Str} (h : Dd xs ss) : ss.Nodup := by
  induction h with
  | nil => exact List.nodup_nil
  | old d hx ih => exact ih
  | new d hx hp ih =>
    rename_i zs ss ss' x
    refine hp.nodup_iff.mpr (List.nodup_append.mpr ⟨ih, by simp, fun y hy z hz e => ?_⟩)
    rw [List.mem_singleton.mp hz] at e
    exact hx (e ▸ hy)
theorem Dd.len {xs ss : List Str} (h : Dd xs ss) : ss.length ≤ xs.length := by
  induction h with
  | nil => exact Nat.le_refl _
  | old d hx ih => rw [List.length_append]; exact Nat.le_trans ih (Nat.le_add_right _ _)
  | new d hx hp ih => rw [hp.length_eq, List.length_append, List.length_append]; exact Nat.add_le_add_right ih _
theorem strs_at : ∀ {vs : List Value} {xs : List Str}, StrsAre vs xs → ∀ (i : Nat) (v : Value), vs[i]? = some v → ∃ x t, xs[i]? = some x ∧ v = .str x t
  | _, _, .nil, i, v, h => by simp at h
  | _, _, .cons x t r, 0, v, h => by simp at h; exact ⟨x, t, rfl, h.symm⟩
  | _, _, .cons x t r, i + 1, v, h => by
    obtain ⟨y, u, e1, e2⟩ := strs_at r i v (by simpa using h)
    exact ⟨y, u, by simpa using e1, e2⟩
section
variable {P : Program} {w : World} {A : Around} {R : Result → Shared → Prop} {I : Addr} {fp wr : List Addr} {G : Array GenState → Array GenState → Prop} {n : Nat} {Pv : Nat → Value → Prop} {St : Nat → Shared → Prop}
theorem SSet.at {h h' : Heap} {a : Addr} {ss : List Str} (hS : SSet P w h a ss) (k : ∀ o, h.get? a = some o → h'.get? a = some o) : SSet P w h' a ss := by
  obtain ⟨o, es, ep, tb, ho, rest⟩ := hS
  exact ⟨o, es, ep, tb, k o ho, rest⟩
theorem sset_update_loop (W : WalksS P w A.in1 I fp wr G n Pv St) (S : Addr) (hSf : S ∉ fp) (xs : List Str) (hn : xs.length = n) (hval : ∀ i v, Pv i v → ∃ x t, xs[i]? = some x ∧ v = .str x t) (hb : n + 1 < scanBound) :
    ∀ (k i : Nat) (s : Shared) (ss : List Str), n - i = k → i ≤ n → St i s → SSet P w s.heap S ss → Dd (xs.take i) ss →
      (∀ s' ss', Moved (S :: wr) G s s' → SSet P w s'.heap S ss' → Dd xs ss' → R (.ok (.ret .none)) s') →
      codeAny (model P w) A (.builtin "set.update.loop" ⟨[.ref S, .ref I], []⟩) R s := by
  have hSw : S ∉ wr := fun h => hSf (W.sub _ h)
  have hsub : ∀ b ∈ wr, b ∈ S :: wr := fun b hb => List.mem_cons_of_mem _ hb
  intro k
  induction k with
  | zero =>
    intro i s ss hk hi hst hS hd hR
    have hin : i = n := by omega
    subst hin
    refine codeAny_builtin PyProof.Rows.F.entry_set_update_loop ?_
    rw [Around.under_plainId PyProof.Rows.F.plain_set_update_loop _]
    show wpAny _ A.in1 (pyNext (.ref I) >>= _) _ _ s
    refine wpAny_bind (W.done s _ _ hst fun s' hm => ?_)
    show wpAny _ A.in1 (ret Value.none) _ _ s'
    refine wpAny_pure (hR s' ss (hm.mono hsub) (hS.at fun o e => hm.heap S _ hSw e) ?_)
    rw [List.take_of_length_le (Nat.le_of_eq hn)] at hd
    exact hd
  | succ k ih =>
    intro i s ss hk hi hst hS hd hR
    have hlt : i < n := by omega
    refine codeAny_builtin PyProof.Rows.F.entry_set_update_loop ?_
    rw [Around.under_plainId PyProof.Rows.F.plain_set_update_loop _]
    show wpAny _ A.in1 (pyNext (.ref I) >>= _) _ _ s
    refine wpAny_bind (W.item i s _ _ hlt hst fun v s' hP hst' hm => ?_)
    obtain ⟨x, t, hx, rfl⟩ := hval i v hP
    have hS' : SSet P w s'.heap S ss := hS.at fun o e => hm.heap S _ hSw e
    show wpAny _ A.in1 (holding [Value.str x t] (setAdd S (.str x t)) >>= _) _ _ s'
    refine wpAny_bind (wpAny_holding ?_)
    unfold setAdd
    refine wpAny_holding ?_
    refine wpAny_bind ((strKind P w).pyHash (k := x) (strKind_is _ _ _ _) ?_)
    have hl : ss.length ≤ i := by have := hd.len; rw [List.length_take] at this; omega
    refine sset_add (s := { s' with toks := s'.toks + 1 }) hS' (by omega) fun h' ss' b hsb hS2 hss => ?_
    have hd' : Dd (xs.take (i + 1)) ss' := by
      have e : xs.take (i + 1) = xs.take i ++ [x] := by rw [List.take_add_one, hx]; rfl
      rw [e]
      by_cases hm : x ∈ ss
      · rw [if_pos hm] at hss
        rw [hss]
        exact .old hd hm
      · rw [if_neg hm] at hss
        exact .new hd hm hss
    refine wpAny_pure ⟨plainId_quiet PyProof.Rows.F.plain_set_update_loop _, ih (i + 1) _ ss' (by omega) hlt (W.frame _ s' _ _ hst' (Nat.le_succ _) fun b hb o e => ?_) hS2 hd' fun s'' ss'' hm'' hS'' hd'' => ?_⟩
    · rw [hsb.2 b (fun h : b = S => hSf (by rw [← h]; exact hb))]; exact e
    · refine hR s'' ss'' (Moved.trans W.gtrans ((hm.mono hsub).then_heap (Nat.le_succ _) fun b o hb e => ?_) hm'') hS'' hd''
      rw [hsb.2 b (fun h : b = S => hb (by rw [h]; exact List.mem_cons_self))]; exact e
end
section
variable {P : Program} {w : World} {A : Around} {E : Value → Shared → Prop} {s : Shared}
theorem code_set_new_led (a : Value) {Q₁ : Value → Shared → Prop}
    (h : Q₁ (.ref s.heap.objs.size) { s with heap := s.heap.push { cls := .type "set", dict := none, data := .set #[] 0 (.fresh 0 0 (!w.params.followText "set-order")) } }) :
    codeAny (model P w) A (.call (.builtin "set.__new__") ⟨[.type "set", a], []⟩) (wants Q₁ E) s := by
  refine codeAny_of_tree ?_
  show wpAny _ A.in1 (do checkBuiltinCall "set.__new__" ⟨[.type "set", a], []⟩; again (.builtin "set.__new__" ⟨[.type "set", a], []⟩)) _ _ s
  refine wpAny_bind (wpAny_of_eq (PySem.F.newCall_set_1 a) (wpAny_pure ⟨plainId_quiet PySem.F.plain_set_new _, codeAny_builtin PySem.F.entry_set_new ?_⟩))
  rw [Around.under_plainId PySem.F.plain_set_new _]
  unfold Builtin.«set.__new__» Builtin.Frozenset.newClass
  have hsub := sub_set_self
  obtain ⟨hp, g, d, tk, os⟩ := s
  dsimp only
  wp_walk
  refine wpAny_askSetting (wpAny_pure ?_)
  dsimp only
  simp only [newObj]
  refine wpAny_bind (wpAny_alloc (wpAny_pure ?_))
  exact wpAny_pure h
set_option maxHeartbeats 16000000 in
theorem call_set_strs {l : Addr} {items : Array Value} {xs : List Str} {Q : Value → Shared → Prop}
    (hh : A.handled = none) (hl : s.heap.IsList l items) (hi : StrsAre items.toList xs) (hb : items.size + 1 < scanBound)
    (h : ∀ (h' : Heap) (tk : Nat) (ss : List Str), SSet P w h' s.heap.objs.size ss → Dd xs ss → (∀ b o, b < s.heap.objs.size → s.heap.get? b = some o → h'.get? b = some o) → Q (.ref s.heap.objs.size) { s with heap := h', toks := tk }) :
    wpAny (model P w) A (call (.type "set") [.ref l]) Q E s := by
  obtain ⟨c, tl, hmro⟩ := PySem.F.called_set.mro
  have hmade := PySem.F.called_set.made
  have hsub := PySem.F.called_set.sub
  refine wpAny_call (codeAny_of_tree ?_)
  show wpAny _ _ (callAny (.type "set") _) _ _ _
  refine wpAny_pure ⟨Code.quiet_builtin _ (by decide +kernel), codeAny_builtin PySem.F.entry_type_call ?_⟩
  rw [Around.under_plain (weight_type_call_type "set" [.ref l] []) rfl]
  have h1 := PySem.F.called_set.notType
  have h2 := PySem.F.called_set.canCreate
  have hct := PySem.F.typeCall_set_1 (.ref l)
  repeat (any_goals (first | assumption | wp_step))
  refine codeAny_mono (code_set_new_led (.ref l) (E := E) (Q₁ := fun obj s₁ => obj = .ref s.heap.objs.size ∧ s₁ = { s with heap := s.heap.push { cls := .type "set", dict := none, data := .set #[] 0 (.fresh 0 0 (!w.params.followText "set-order")) } }) ⟨rfl, rfl⟩) fun r s₁ hr => ?_
  cases r with
  | error e => exact hr
  | ok fl =>
    cases fl with
    | ret obj =>
      obtain ⟨rfl, rfl⟩ := hr
      generalize hled : (!w.params.followText "set-order") = led
      have hS : (s.heap.push { cls := .type "set", dict := none, data := .set #[] 0 (.fresh 0 0 led) }).get? s.heap.objs.size = some { cls := .type "set", dict := none, data := .set #[] 0 (.fresh 0 0 led) } := Heap.get?_push_size _ rfl
      have hT : Shared.TypeIs { s with heap := s.heap.push { cls := .type "set", dict := none, data := .set #[] 0 (.fresh 0 0 led) } } (.ref s.heap.objs.size) "set" := ⟨_, hS, rfl⟩
      have hli := PySem.F.called_set.init.lookup
      have hbi := PySem.F.called_set.init.bind (.ref s.heap.objs.size)
      repeat (any_goals (first | assumption | wp_step))
      refine codeAny_mono (codeAny_call_builtin (R := wants (fun r s₂ => r = .none ∧ ∃ h' tk ss, s₂ = { s with heap := h', toks := tk } ∧ SSet P w h' s.heap.objs.size ss ∧ Dd xs ss ∧
          (∀ b o, b < s.heap.objs.size → s.heap.get? b = some o → h'.get? b = some o)) E) PySem.F.called_set.init.plain PySem.F.entry_set_init (check_set_init_1 hT ?_)) fun r₂ s₂ hr₂ => ?_
      · obtain ⟨ol, hol, hcl, nl, hdl⟩ := hl
        obtain ⟨ocls, odict, odata, oslots⟩ := ol
        simp only at hcl hdl
        subst hcl; subst hdl
        have hol' : (s.heap.push { cls := .type "set", dict := none, data := .set #[] 0 (.fresh 0 0 led) }).get? l = some { cls := .type "list", dict := odict, data := .seq items nl, slots := oslots } := Heap.get?_push_of_some _ hol
        have hsls := PySem.F.sub_list_set
        have hslf := PySem.F.sub_list_frozenset
        have hne : (Value.type "list" == Value.type "dict") = false := by decide
        have hl1 : (s.heap.push { cls := .type "set", dict := none, data := .set #[] 0 (.fresh 0 0 led) }).IsList l items := ⟨_, hol', rfl, nl, rfl⟩
        unfold Builtin.«set.__init__» noKeywords Builtin.Frozenset.updateFrom
        generalize hPI : pyIter = PI
        wp_walk
        subst hPI
        refine wpAny_pyIter_list hl1 ?_
        refine wpAny_bind (wpAny_runValue ?_)
        have hlS : l < s.heap.objs.size := Heap.lt_size hol
        have hh3 : A.in1.in1.in1.handled = none := by simp [hh]
        have hneI : l ≠ (s.heap.push { cls := .type "set", dict := none, data := .set #[] 0 (.fresh 0 0 led) }).objs.size := by
          rw [Heap.size_push]; exact Nat.ne_of_lt (Nat.lt_succ_of_lt hlS)
        have hSf : s.heap.objs.size ∉ [(s.heap.push { cls := .type "set", dict := none, data := .set #[] 0 (.fresh 0 0 led) }).objs.size, l] := by
          rw [Heap.size_push]; simp only [List.mem_cons, List.mem_singleton, List.not_mem_nil, or_false, not_or]
          exact ⟨Nat.ne_of_lt (Nat.lt_succ_self _), Nat.ne_of_gt hlS⟩
        have hlen : xs.length = items.size := by have := hi.length; simpa using this.symm
        have hval : ∀ (i : Nat) (v : Value), items[i]? = some v → ∃ x t, xs[i]? = some x ∧ v = .str x t := fun i v hv => strs_at hi i v (by rw [Array.getElem?_toList]; exact hv)
        refine sset_update_loop ((Walks.list hh3 _ l hneI items).toS) s.heap.objs.size hSf xs hlen hval hb (items.size - 0) 0 _ [] (by omega) (Nat.zero_le _)
          ⟨⟨_, Heap.get?_push_size _ rfl, rfl, rfl⟩, (hl1.push _)⟩ ?hS0 (by rw [List.take_zero]; exact .nil) ?hR
        case hS0 =>
          have hget : ((s.heap.push { cls := .type "set", dict := none, data := .set #[] 0 (.fresh 0 0 led) }).push { cls := .type "list_iterator", data := .fields #[.ref l, .int 0 0] }).get? s.heap.objs.size
              = some { cls := .type "set", dict := none, data := .set #[] 0 (.fresh 0 0 led) } := Heap.get?_push_of_some _ hS
          exact ⟨_, #[], 0, _, hget, ⟨rfl, rfl, rfl⟩, rfl, fun e he => by simp at he, rfl, List.nodup_nil, by decide, by rfl, hled.symm, fun q => absurd q (by simp)⟩
        case hR =>
          intro s' ss' hm hS' hd'
          obtain ⟨h', g', d', tk', os'⟩ := s'
          have eg : g' = s.gens := hm.gens
          have ed : d' = s.drawn := hm.drawn
          have eo : os' = s.os := hm.os
          subst eg; subst ed; subst eo
          show wpAny _ _ _ _ _ _
          refine wpAny_pure ?_
          show wpAny _ _ (ret Value.none) _ _ _
          refine wpAny_pure ⟨rfl, h', tk', ss', rfl, hS', hd', fun b o hb e => ?_⟩
          have hb1 : b ≠ s.heap.objs.size := Nat.ne_of_lt hb
          have hb2 : b ≠ (s.heap.push { cls := .type "set", dict := none, data := .set #[] 0 (.fresh 0 0 led) }).objs.size := by
            rw [Heap.size_push]; exact Nat.ne_of_lt (Nat.lt_succ_of_lt hb)
          exact hm.heap b o (by simp only [List.mem_cons, List.mem_singleton, List.not_mem_nil, or_false, not_or]; exact ⟨hb1, hb2⟩) (Heap.get?_push_of_some _ (Heap.get?_push_of_some _ e))
      · cases r₂ with
        | error e => exact hr₂
        | ok fl₂ =>
          cases fl₂ with
          | ret r =>
            obtain ⟨rfl, h', tk, ss, rfl, hS', hd', hk'⟩ := hr₂
            repeat (any_goals (first | assumption | wp_step))
            exact h _ _ ss hS' hd' hk'
          | _ => exact hr₂.elim
    | _ => exact hr.elim
end
end L2
namespace L2
open PySem PySem.Spec PyProof.Rows
namespace SF
theorem entry_set_iter : entryFor table "set.__iter__" = some Builtin.«frozenset.__iter__» := entryFor_alias (id' := "frozenset.__iter__") (by kernel_rfl) rfl (by decide +kernel) (by kernel_rfl)
theorem slot_next : Slot "set_iterator" "__next__" "set_iterator.__next__" :=
  .of (owner := "set_iterator") (n := "__next__") (by rw [typeLookup_type, builtinLookup_eq_fast]; kernel_rfl) (by decide +kernel) (by decide +kernel) (by decide +kernel)
    (by first | exact .inl (by decide +kernel) | exact .inr (by decide +kernel)) (by rw [isSubtype_type]; kernel_rfl)
theorem entry_next : entryFor table "set_iterator.__next__" = some Builtin.«set_iterator.__next__» := entryFor_of_tree (by kernel_rfl)
theorem args_next (a : Value) : argsOk "set_iterator.__next__" ⟨[a], []⟩ := by unfold argsOk; kernel_rfl
theorem slot_self : Slot "set_iterator" "__iter__" "set_iterator.__iter__" :=
  .of (owner := "set_iterator") (n := "__iter__") (by rw [typeLookup_type, builtinLookup_eq_fast]; kernel_rfl) (by decide +kernel) (by decide +kernel) (by decide +kernel)
    (by first | exact .inl (by decide +kernel) | exact .inr (by decide +kernel)) (by rw [isSubtype_type]; kernel_rfl)
theorem entry_self : entryFor table "set_iterator.__iter__" = some Builtin.«dict_keyiterator.__iter__» :=
  entryFor_alias (id' := "dict_keyiterator.__iter__") (by kernel_rfl) rfl (by decide +kernel) (by kernel_rfl)
theorem args_self (a : Value) : argsOk "set_iterator.__iter__" ⟨[a], []⟩ := by unfold argsOk; kernel_rfl
theorem set_len : typeLookup (.type "set") "__len__" = pure (some (.builtin "set.__len__")) := by rw [typeLookup_type, builtinLookup_eq_fast]; kernel_rfl
theorem sub_set : isSubtype (.type "set") (.type "set") = pure true := by rw [isSubtype_type]; kernel_rfl
end SF
end L2
namespace L2
open PySem PySem.Spec PyProof.Rows
theorem erase_perm {α : Type} : ∀ (l : List α) (i : Nat) (h : i < l.length), (l[i] :: l.eraseIdx i).Perm l
  | x :: r, 0, _ => List.Perm.refl _
  | x :: r, i + 1, h => by
    have h' : i < r.length := by simpa using h
    exact (List.Perm.swap x r[i] (r.eraseIdx i)).trans ((erase_perm r i h').cons x)
theorem pickGo_perm {α : Type} (next : Nat → Nat) : ∀ (fuel k : Nat) (left : List α) (out : Array α), left.length = fuel → (pickOrder.go next fuel k left out).toList.Perm (out.toList ++ left)
  | 0, k, left, out, h => by
    have e : left = [] := List.eq_nil_of_length_eq_zero h
    subst e
    simp [pickOrder.go]
  | fuel + 1, k, left, out, h => by
    have hlt : next k % left.length < left.length := Nat.mod_lt _ (by omega)
    unfold pickOrder.go
    rw [List.getElem?_eq_getElem hlt]
    dsimp only
    refine (pickGo_perm next fuel (k + 1) _ _ (by rw [List.length_eraseIdx_of_lt hlt]; omega)).trans ?_
    rw [Array.toList_push, List.append_assoc]
    refine List.Perm.append_left _ ?_
    rw [List.singleton_append]
    exact erase_perm _ _ hlt
theorem pick_perm {α : Type} (next : Nat → Nat) (xs : Array α) : (pickOrder next xs).toList.Perm xs.toList := by
  have := pickGo_perm next xs.size 0 xs.toList #[] (by simp)
  simpa [pickOrder] using this
section
variable {P : Program} {w : World} {A : Around} {E : Value → Shared → Prop}
theorem choose_any {src : Source} {n : Nat} {s : Shared} {Q : Nat → Shared → Prop} (hn : n ≠ 0) (h : ∀ i d, i < n → Q i { s with drawn := d }) : wpAny (model P w) A (choose src n) Q E s := by
  intro Γ p hΓ
  unfold choose
  rw [Sem.wp_choose]
  exact ⟨hn, h _ _ (Nat.mod_lt _ (Nat.pos_of_ne_zero hn))⟩
theorem drawOrder_perm {α : Type} : ∀ (n : Nat) (xs : List α) (s : Shared) (Q : List α → Shared → Prop), xs.length = n → (∀ ys d, ys.Perm xs → Q ys { s with drawn := d }) → wpAny (model P w) A (drawOrder n xs) Q E s
  | 0, xs, s, Q, hl, h => by
    have e : xs = [] := List.eq_nil_of_length_eq_zero hl
    subst e
    exact wpAny_pure (h [] s.drawn (List.Perm.refl _))
  | n + 1, [], s, Q, hl, h => by simp at hl
  | n + 1, x :: r, s, Q, hl, h => by
    unfold drawOrder
    refine wpAny_bind (choose_any (by rw [hl]; exact Nat.succ_ne_zero n) fun i d hi => ?_)
    rw [List.getElem?_eq_getElem hi]
    dsimp only
    refine wpAny_bind (drawOrder_perm n _ _ _ (by rw [List.length_eraseIdx_of_lt hi]; omega) fun ys d' hp => ?_)
    refine wpAny_pure (h _ d' ?_)
    exact (hp.cons _).trans (erase_perm _ _ hi)
end
theorem range_get {α : Type} : ∀ l : List α, (List.range l.length).filterMap (fun i => l[i]?) = l
  | [] => rfl
  | x :: r => by
    rw [List.length_cons, List.range_succ_eq_map, List.filterMap_cons]
    simp only [List.getElem?_cons_zero]
    rw [List.filterMap_map]
    exact congrArg (x :: ·) (range_get r)
noncomputable def setIt (first : Value) (i : Nat) (S : Addr) (n ep : Nat) : Obj := { cls := .type "set_iterator", dict := none, data := .fields #[first, .int i 0, .ref S, .int n 0, .int ep 0], slots := #[] }
inductive Ord (w : World) (S : Addr) (es : Array (Int × Value)) (ep : Nat) (t : SetTable) (h : Heap) : Value → Nat → List Value → Prop
  | text (i : Nat) : w.params.followText "set-order" = true → Ord w S es ep t h (.int 0 0) i ((pickOrder (w.params.setOrder S ep) es).toList.map (·.2))
  | drawn (i : Nat) (T : Addr) (ps : List Nat) : w.params.followText "set-order" = false → IsTup h T (ps.map fun (p : Nat) => Value.int p 0).toArray → (∀ p ∈ ps, p < es.size) → Ord w S es ep t h (.ref T) i (ps.filterMap fun p => (es[p]?).map (·.2))
  | none (k i : Nat) : w.params.followText "set-order" = false → es.size = 0 → Ord w S es ep t h (.int k 0) i []
  | one0 (e : Int × Value) : w.params.followText "set-order" = false → es = #[e] → Ord w S es ep t h (.int 0 0) 0 [e.2]
  | one1 (e : Int × Value) (j : Nat) : w.params.followText "set-order" = false → es = #[e] → t.place = #[j] → Ord w S es ep t h (.int (j + 1 : Nat) 0) 1 [e.2]
noncomputable def SetSt (P : Program) (w : World) (S I T0 : Addr) (es : Array (Int × Value)) (ep : Nat) (t : SetTable) (ord : List Value) (i : Nat) (h : Heap) : Prop :=
  ∃ first o, h.get? I = some (setIt first i S es.size ep) ∧ h.get? S = some o ∧ o.data = .set es ep t ∧ Ord w S es ep t h first i ord ∧ ∀ T, first = .ref T → T = T0
section
variable {P : Program} {w : World} {A : Around} {E : Value → Shared → Prop} {s : Shared}
theorem below1 (j : Nat) : SetTable.below #[j] (j + 1) = 1 := by
  simp [SetTable.below, SetTable.below.go]
theorem below0 (j : Nat) : SetTable.below #[j] 0 = 0 := by
  simp [SetTable.below, SetTable.below.go]
theorem byText_wp {Q : Bool → Shared → Prop} (h : Q (w.params.followText "set-order") s) : wpAny (model P w) A setsByText Q E s := by
  unfold setsByText
  exact wpAny_bind (wpAny_askSetting (wpAny_pure h))
theorem setNext_wp {S : Addr} {es : Array (Int × Value)} {ep i k : Nat} {t : SetTable} {ord : List Value} {o : Obj} {Q : Option (Value × Nat) → Shared → Prop} (ho : s.heap.get? S = some o) (hd : o.data = .set es ep t) (hf : t.fits es.size = true)
    (hled : t.led = !w.params.followText "set-order") (od : Ord w S es ep t s.heap (.int (k : Int) 0) i ord)
    (h : ∀ k' : Nat, (∀ v, ord[i]? = some v → Ord w S es ep t s.heap (.int (k' : Int) 0) (i + 1) ord) → Q ((ord[i]?).map fun v => (v, k')) s) : wpAny (model P w) A (setNext S k i ep) Q E s := by
  unfold setNext
  refine wpAny_bind (wpAny_setState_of ho hd hf ?_)
  dsimp only
  refine wpAny_bind (byText_wp ?_)
  generalize hk : (k : Int) = ki at od
  generalize hfst : Value.int ki 0 = first at od
  cases od with
  | text i ht =>
    cases hfst
    obtain rfl : k = 0 := by omega
    rw [ht]
    simp only [if_true, bne_self_eq_false, Bool.false_eq_true, if_false]
    unfold setWalk
    refine wpAny_bind ?_
    refine wpAny_bind (wpAny_setState_of ho hd hf ?_)
    dsimp only
    refine wpAny_bind (byText_wp ?_)
    rw [ht]
    simp only [if_true]
    refine wpAny_bind (wpAny_askSetting (wpAny_pure ?_))
    refine wpAny_pure ?_
    have := h 0 fun v _ => Ord.text (i + 1) ht
    rw [List.getElem?_map, Array.getElem?_toList] at this
    rw [Option.map_map] at this
    exact this
  | drawn => cases hfst
  | none k' i ht h0 =>
    cases hfst
    rw [ht]
    have e0 : es = #[] := Array.eq_empty_of_size_eq_zero h0
    subst e0
    have hl : t.led = true := by rw [hled, ht]; rfl
    rw [if_neg Bool.false_ne_true]
    split
    · rename_i hdr
      have hdr' : (!t.plain && decide ((#[] : Array (Int × Value)).size > 1)) = true := hdr
      simp at hdr'
    · refine wpAny_bind (show wpAny (model P w) A (if (!t.led && !(#[] : Array (Int × Value)).isEmpty) = true then unsupported "set:maker-not-led" else pure ()) _ _ _ from ?_)
      rw [hl]
      refine wpAny_pure (wpAny_pure ?_)
      have := h k fun v e => by simp at e
      simpa using this
  | one0 e ht he =>
    cases hfst
    obtain rfl : k = 0 := by omega
    rw [ht]
    subst he
    have hl : t.led = true := by rw [hled, ht]; rfl
    have hpz : t.place.size = 1 := by
      simp only [SetTable.fits, Bool.and_eq_true, beq_iff_eq] at hf
      exact hf.1
    obtain ⟨j, hj⟩ : ∃ j, t.place = #[j] := by
      generalize t.place = pl at hpz
      obtain ⟨l⟩ := pl
      match l, hpz with
      | [j], _ => exact ⟨j, rfl⟩
    rw [if_neg Bool.false_ne_true]
    split
    · rename_i hdr
      have hdr' : (!t.plain && decide ((#[e] : Array (Int × Value)).size > 1)) = true := hdr
      simp at hdr'
    · refine wpAny_bind (show wpAny (model P w) A (if (!t.led && !(#[e] : Array (Int × Value)).isEmpty) = true then unsupported "set:maker-not-led" else pure ()) _ _ _ from ?_)
      rw [hl]
      refine wpAny_pure (wpAny_pure ?_)
      rw [hj, below0]
      exact h (j + 1) fun v _ => Ord.one1 e j ht rfl hj
  | one1 e j ht he hp =>
    cases hfst
    obtain rfl : k = j + 1 := by omega
    rw [ht]
    subst he
    have hl : t.led = true := by rw [hled, ht]; rfl
    rw [if_neg Bool.false_ne_true]
    split
    · rename_i hdr
      have hdr' : (!t.plain && decide ((#[e] : Array (Int × Value)).size > 1)) = true := hdr
      simp at hdr'
    · refine wpAny_bind (show wpAny (model P w) A (if (!t.led && !(#[e] : Array (Int × Value)).isEmpty) = true then unsupported "set:maker-not-led" else pure ()) _ _ _ from ?_)
      rw [hl]
      refine wpAny_pure (wpAny_pure ?_)
      rw [hp, below1]
      exact h 0 fun v e => by simp at e
theorem Ord.keep {S : Addr} {es : Array (Int × Value)} {ep i : Nat} {t : SetTable} {ord : List Value} {first : Value} {h h' : Heap} (od : Ord w S es ep t h first i ord) (k : ∀ T o, first = .ref T → h.get? T = some o → h'.get? T = some o) : Ord w S es ep t h' first i ord := by
  cases od with
  | text i ht => exact .text i ht
  | drawn i T ps ht hT hp =>
    obtain ⟨o, e, c⟩ := hT
    exact .drawn i T ps ht ⟨o, k T o rfl e, c⟩ hp
  | none kk i ht h0 => exact .none kk i ht h0
  | one0 e ht he => exact .one0 e ht he
  | one1 e j ht he hp => exact .one1 e j ht he hp
theorem Ord.kind {S : Addr} {es : Array (Int × Value)} {ep i : Nat} {t : SetTable} {ord : List Value} {first : Value} {h : Heap} (od : Ord w S es ep t h first i ord) :
    (∃ k : Nat, first = .int (k : Int) 0) ∨ ∃ (T : Addr) (ps : List Nat), first = .ref T ∧ w.params.followText "set-order" = false ∧ IsTup h T (ps.map fun (p : Nat) => Value.int p 0).toArray ∧ (∀ p ∈ ps, p < es.size) ∧ ord = ps.filterMap fun p => (es[p]?).map (·.2) := by
  cases od with
  | text i ht => exact .inl ⟨0, rfl⟩
  | drawn i T ps ht hT hp => exact .inr ⟨T, ps, rfl, ht, hT, hp, rfl⟩
  | none k i ht h0 => exact .inl ⟨k, rfl⟩
  | one0 e ht he => exact .inl ⟨0, rfl⟩
  | one1 e j ht he hp => exact .inl ⟨j + 1, rfl⟩
theorem Ord.step {S : Addr} {es : Array (Int × Value)} {ep i : Nat} {t : SetTable} {ord : List Value} {T : Addr} {h : Heap} (od : Ord w S es ep t h (.ref T) i ord) : Ord w S es ep t h (.ref T) (i + 1) ord := by
  cases od with
  | drawn i T ps ht hT hp => exact .drawn (i + 1) T ps ht hT hp
end
theorem fm_get {es : Array (Int × Value)} : ∀ {ps : List Nat}, (∀ p ∈ ps, p < es.size) → ∀ (i : Nat), (ps.filterMap fun p => (es[p]?).map (·.2))[i]? = (ps[i]?).bind fun p => (es[p]?).map (·.2)
  | [], _, i => by simp
  | p :: r, hp, i => by
    have h1 : p < es.size := hp p (by simp)
    have e : es[p]? = some es[p] := by simp [h1]
    rw [List.filterMap_cons, e]
    cases i with
    | zero => simp [e]
    | succ i => simpa using fm_get (fun q hq => hp q (List.mem_cons_of_mem _ hq)) i
section
variable {P : Program} {w : World} {A : Around}
theorem walks_set (hh : A.handled = none) {S I : Addr} {es : Array (Int × Value)} {ep : Nat} {t : SetTable} {ord : List Value} (fp : List Addr) (hI : I ∈ fp) (hS : S ∈ fp) (hne : S ≠ I) (hf : t.fits es.size = true) (hled : t.led = !w.params.followText "set-order")
    {T0 : Addr} (hT : T0 ∈ fp) (hTI : T0 ≠ I) :
    Walks P w A I fp [I] ord.length (fun i v => ord[i]? = some v) (SetSt P w S I T0 es ep t ord) where
  sub := fun b hb => by rw [List.mem_singleton.mp hb]; exact hI
  frame := fun i h h' st hk => by
    obtain ⟨first, o, h1, h2, h3, h4, h5⟩ := st
    exact ⟨first, o, hk I hI _ h1, hk S hS _ h2, h3, h4.keep (fun T o e q => hk T (by rw [h5 T e]; exact hT) o q), h5⟩
  item := fun i s Q E hi st hQ => by
    obtain ⟨first, o, h1, h2, h3, h4, h5⟩ := st
    have ty : s.TypeIs (.ref I) "set_iterator" := ⟨_, h1, rfl⟩
    unfold pyNext
    refine wpAny_bind (wpAny_attempt (wpAny_callSpecial?_slot (name := Str.ofString "__next__") ty SF.slot_next (wpAny_call_entry SF.slot_next ty SF.entry_next ?_ (SF.args_next _))))
    show wpAny _ _ (fieldsOf (.ref I) >>= _) _ _ s
    refine wpAny_bind (wpAny_fieldsOf h1 rfl ?_)
    show wpAny _ _ (setEntries S >>= _) _ _ s
    refine wpAny_bind (wpAny_setEntries_of h2 h3 hf ?_)
    simp only [bne_self_eq_false, Bool.false_eq_true, if_false]
    have hv : ord[i]? = some ord[i] := List.getElem?_eq_getElem hi
    rcases h4.kind with ⟨k, rfl⟩ | ⟨T, ps, rfl, ht, hTt, hps, hord⟩
    · show wpAny _ _ (setNext S (Int.toNat (k : Int)) (Int.toNat (i : Int)) (Int.toNat (ep : Int)) >>= _) _ _ s
      simp only [Int.toNat_natCast]
      refine wpAny_bind (setNext_wp h2 h3 hf hled h4 fun k' hk' => ?_)
      rw [hv]
      show wpAny _ _ (setField (.ref I) 0 (rawInt k') >>= _) _ _ s
      refine wpAny_bind (wpAny_setField_rec h1 (by simp) fun ha ha1 ha2 => ?_)
      refine wpAny_bind (wpAny_setField_rec ha1 (by simp) fun hb hb1 hb2 => ?_)
      refine wpAny_pure ⟨_, rfl, wpAny_pure (hQ _ hb s.toks hv ⟨.int (k' : Int) 0, o, hb1, ?_, h3, (hk' _ hv).keep (fun T o e => by cases e), (fun T e => by cases e)⟩ fun b o hb' e => ?_)⟩
      · rw [hb2.2 S hne, ha2.2 S hne]; exact h2
      · have : b ≠ I := fun z => hb' (by simp [z])
        rw [hb2.2 b this, ha2.2 b this]; exact e
    · have hTne : T ≠ I := by rw [h5 T rfl]; exact hTI
      have hg := fm_get hps i
      rw [← hord, hv] at hg
      cases hpi : ps[i]? with
      | none => rw [hpi] at hg; cases hg
      | some p =>
        rw [hpi] at hg
        have hp : p < es.size := hps p (List.mem_of_getElem? hpi)
        have hep : es[p]? = some es[p] := by simp [hp]
        have hg' : some ord[i] = (es[p]?).map (·.2) := hg
        rw [hep] at hg'
        have hval : ord[i] = es[p].2 := Option.some.inj hg'
        show wpAny _ _ (seqItems? (.ref T) >>= _) _ _ s
        obtain ⟨oT, eT, cT, nT, dT⟩ := hTt
        refine wpAny_bind (wpAny_seqItems eT dT ?_)
        dsimp only
        have hpl : ((ps.map fun (p : Nat) => Value.int p 0).toArray)[Int.toNat (i : Int)]? = some (.int (p : Int) 0) := by
          rw [Int.toNat_natCast, List.getElem?_toArray, List.getElem?_map, hpi]; rfl
        rw [hpl]
        show wpAny _ _ (setNextDrawn S (Int.toNat (p : Int)) (Int.toNat (ep : Int)) >>= _) _ _ s
        simp only [Int.toNat_natCast]
        unfold setNextDrawn
        refine wpAny_bind (wpAny_bind (wpAny_setState_of h2 h3 hf ?_))
        simp only [bne_self_eq_false, Bool.false_eq_true, if_false]
        rw [hep]
        refine wpAny_pure ?_
        refine wpAny_bind (wpAny_setField_rec h1 (by simp) fun hb hb1 hb2 => ?_)
        refine wpAny_pure ⟨_, rfl, wpAny_pure (hQ _ hb s.toks (by rw [hv, hval]; rfl) ⟨.ref T, o, hb1, ?_, h3, h4.step.keep (fun T' o e q => ?_), h5⟩ fun b o hb' e => ?_)⟩
        · rw [hb2.2 S hne]; exact h2
        · cases e; rw [hb2.2 T hTne]; exact q
        · have : b ≠ I := fun z => hb' (by simp [z])
          rw [hb2.2 b this]; exact e
  done := fun s Q E st hQ => by
    obtain ⟨first, o, h1, h2, h3, h4, h5⟩ := st
    have ty : s.TypeIs (.ref I) "set_iterator" := ⟨_, h1, rfl⟩
    have hv : ord[ord.length]? = none := List.getElem?_eq_none (Nat.le_refl _)
    have stop : ∀ h' : Heap, (∀ b o, b ≠ I → s.heap.get? b = some o → h'.get? b = some o) → wpAny (model P w) A.in1 (do raiseNew (← newExc (.type "StopIteration") []) : Sem Fin) (fun _ _ => False)
        (fun x s' => wpAny (model P w) A (do let b ← isInstance x (.type "StopIteration"); if b = true then pure Option.none else throw x) Q E s') { s with heap := h' } := by
      intro h' hk
      refine wpAny_bind ?_
      simp only [newExc, newTuple]
      refine wpAny_bind (wpAny_newObj_type ?_ (by size_fits))
      refine wpAny_bind (m := firstArgMember _ _) (wpAny_of_eq (a := Value.none) (by first | rfl | (simp only [firstArgMember]; rfl)) ?_)
      refine wpAny_newObj_type ?_ (by size_fits)
      simp only [raiseNew]
      refine wpAny_bind (wpAny_handled ?_)
      rw [show A.in1.handled = none from hh]
      refine wpAny_bind (wpAny_pure (wpAny_throw ?_))
      refine wpAny_bind (wpAny_isInstance (T := "StopIteration") (b := true) ⟨_, Heap.get?_push_size _ rfl, rfl⟩ isSubtype_stop ?_)
      exact wpAny_pure (hQ _ _ fun b o hb e => Heap.get?_push_of_some _ (Heap.get?_push_of_some _ (hk b o (fun z => hb (by simp [z])) e)))
    unfold pyNext
    refine wpAny_bind (wpAny_attempt (wpAny_callSpecial?_slot (name := Str.ofString "__next__") ty SF.slot_next (wpAny_call_entry SF.slot_next ty SF.entry_next ?_ (SF.args_next _))))
    show wpAny _ _ (fieldsOf (.ref I) >>= _) _ _ s
    refine wpAny_bind (wpAny_fieldsOf h1 rfl ?_)
    show wpAny _ _ (setEntries S >>= _) _ _ s
    refine wpAny_bind (wpAny_setEntries_of h2 h3 hf ?_)
    simp only [bne_self_eq_false, Bool.false_eq_true, if_false]
    rcases h4.kind with ⟨k, rfl⟩ | ⟨T, ps, rfl, ht, hTt, hps, hord⟩
    · show wpAny _ _ (setNext S (Int.toNat (k : Int)) (Int.toNat (ord.length : Int)) (Int.toNat (ep : Int)) >>= _) _ _ s
      simp only [Int.toNat_natCast]
      refine wpAny_bind (setNext_wp h2 h3 hf hled h4 fun k' hk' => ?_)
      rw [hv]
      show wpAny _ _ (setField (.ref I) 2 .none >>= _) _ _ s
      refine wpAny_bind (wpAny_setField_rec h1 (by simp) fun ha ha1 ha2 => ?_)
      refine wpAny_mono (stop ha fun b o hb e => by rw [ha2.2 b hb]; exact e) (fun _ _ z => z.elim) fun x s' z => ?_
      exact z
    · have hpi : ps[ord.length]? = none := by
        have hg := fm_get hps ord.length
        rw [← hord, hv] at hg
        cases hpi : ps[ord.length]? with
        | none => rfl
        | some p =>
          rw [hpi] at hg
          have hp : p < es.size := hps p (List.mem_of_getElem? hpi)
          have hep : es[p]? = some es[p] := by simp [hp]
          have hg' : (none : Option Value) = (es[p]?).map (·.2) := hg
          rw [hep] at hg'
          cases hg'
      show wpAny _ _ (seqItems? (.ref T) >>= _) _ _ s
      obtain ⟨oT, eT, cT, nT, dT⟩ := hTt
      refine wpAny_bind (wpAny_seqItems eT dT ?_)
      dsimp only
      have hpl : ((ps.map fun (p : Nat) => Value.int p 0).toArray)[Int.toNat (ord.length : Int)]? = none := by
        rw [Int.toNat_natCast, List.getElem?_toArray, List.getElem?_map, hpi]; rfl
      rw [hpl]
      show wpAny _ _ (setField (.ref I) 0 (rawInt 0) >>= _) _ _ s
      refine wpAny_bind (wpAny_setField_rec h1 (by simp) fun ha ha1 ha2 => ?_)
      refine wpAny_bind (wpAny_setField_rec ha1 (by simp) fun hb hb1 hb2 => ?_)
      refine wpAny_mono (stop hb fun b o hb' e => by rw [hb2.2 b hb', ha2.2 b hb']; exact e) (fun _ _ z => z.elim) fun x s' z => ?_
      exact z
  self := fun i s Q E st hQ => by
    obtain ⟨first, o, h1, h2, h3, h4, h5⟩ := st
    have ty : s.TypeIs (.ref I) "set_iterator" := ⟨_, h1, rfl⟩
    refine wpAny_pyIter_slot ty SF.slot_self (wpAny_call_entry SF.slot_self ty SF.entry_self ?_ (SF.args_self _))
    show wpAny _ _ (ret (.ref I)) _ _ s
    exact wpAny_pure ⟨_, rfl, "set_iterator", _, ty, SF.slot_next.lookup, hQ⟩
theorem pyIter_sset {E : Value → Shared → Prop} {s : Shared} {S : Addr} {ss : List Str} {Q : Value → Shared → Prop} (hS : SSet P w s.heap S ss)
    (h : ∀ (h' : Heap) (d' : Drawn) (I : Addr) (fp : List Addr) (ord : List Value) (St : Nat → Heap → Prop), (∀ b o, s.heap.get? b = some o → h'.get? b = some o) → s.heap.objs.size ≤ I → I ∈ fp → (∀ b ∈ fp, b < h'.objs.size ∧ (b = S ∨ s.heap.objs.size ≤ b)) →
      (∀ A' : Around, A'.handled = none → Walks P w A' I fp [I] ord.length (fun i v => ord[i]? = some v) St) → St 0 h' → (∃ ys, StrsAre ord ys ∧ ys.Perm ss) → Q (.ref I) { s with heap := h', drawn := d' }) :
    wpAny (model P w) A (pyIter (.ref S)) Q E s := by
  obtain ⟨o, es, ep, t, ho, hex, hd, hel, hss, hnd, hb, hf, hled, hpl⟩ := hS
  have ty : s.TypeIs (.ref S) "set" := ⟨o, ho, hex.1⟩
  have hlt : S < s.heap.objs.size := Heap.lt_size ho
  have hstr : ∀ l : List (Int × Value), (∀ e ∈ l, e ∈ es.toList) → StrsAre (l.map (·.2)) (l.map fun e => txtOf e.2) := by
    intro l
    induction l with
    | nil => intro _; exact .nil
    | cons e r ih =>
      intro hm
      obtain ⟨u, hu⟩ := elems_txt hel (hm e (by simp))
      have := StrsAre.cons (txtOf e.2) u (ih fun x hx => hm x (List.mem_cons_of_mem _ hx))
      rw [← hu] at this
      exact this
  refine wpAny_pyIter_slot ty PySem.F.slot_set_iter (wpAny_call_entry PySem.F.slot_set_iter ty SF.entry_set_iter ?_ (PySem.F.args_set_iter_1 _))
  show wpAny _ _ (Builtin.Frozenset.sizeOf S >>= _) _ _ s
  unfold Builtin.Frozenset.sizeOf
  refine wpAny_bind (wpAny_bind (wpAny_setEntries_of ho hd hf (wpAny_pure ?_)))
  unfold setDrawn
  refine wpAny_bind (wpAny_bind (wpAny_setState_of ho hd hf ?_))
  dsimp only
  refine wpAny_bind (byText_wp (wpAny_pure ?_))
  have make : ∀ (first : Value) (T0 : Addr) (ord : List Value) (h1 : Heap) (d1 : Drawn), (∀ b ob, s.heap.get? b = some ob → h1.get? b = some ob) → s.heap.objs.size ≤ h1.objs.size → (∀ T, first = .ref T → T = T0) → T0 < h1.objs.size → (T0 = S ∨ s.heap.objs.size ≤ T0) → Ord w S es ep t h1 first 0 ord → (∃ ys, StrsAre ord ys ∧ ys.Perm ss) →
      Q (.ref h1.objs.size) { s with heap := h1.push (setIt first 0 S es.size ep), drawn := d1 } := by
    intro first T0 ord h1 d1 hk hsz hT hT1 hT2 od hord
    have hne : S ≠ h1.objs.size := Nat.ne_of_lt (Nat.lt_of_lt_of_le hlt hsz)
    have szp : (h1.push (setIt first 0 S es.size ep)).objs.size = h1.objs.size + 1 := Heap.size_push ..
    refine h _ d1 h1.objs.size [h1.objs.size, S, T0] ord (SetSt P w S h1.objs.size T0 es ep t ord) (fun b ob e => Heap.get?_push_of_some _ (hk b ob e)) hsz (by simp) (fun b hb => ?_) (fun A' hA => ?_) ⟨first, o, Heap.get?_push_size _ rfl, Heap.get?_push_of_some _ (hk S o ho), hd, od.keep (fun T ob _ e => Heap.get?_push_of_some _ e), hT⟩ hord
    · rw [szp]
      have hb' : b = h1.objs.size ∨ b = S ∨ b = T0 := by simpa using hb
      rcases hb' with rfl | rfl | rfl
      · exact ⟨Nat.lt_succ_self _, .inr hsz⟩
      · exact ⟨Nat.lt_succ_of_lt (Nat.lt_of_lt_of_le hlt hsz), .inl rfl⟩
      · exact ⟨Nat.lt_succ_of_lt hT1, hT2⟩
    · exact walks_set hA _ (by simp) (by simp) hne hf hled (by simp) (Nat.ne_of_lt hT1)
  have plain0 : ∀ (ord : List Value), Ord w S es ep t s.heap (.int 0 0) 0 ord → (∃ ys, StrsAre ord ys ∧ ys.Perm ss) → Q (.ref s.heap.objs.size) { s with heap := s.heap.push (setIt (.int 0 0) 0 S es.size ep) } := fun ord od hord =>
    make (.int 0 0) S ord s.heap s.drawn (fun _ _ e => e) (Nat.le_refl _) (fun T e => by cases e) hlt (.inl rfl) od hord
  cases hbt : w.params.followText "set-order" with
  | true =>
    simp only [Bool.not_true, Bool.false_and, Bool.false_eq_true, if_false]
    refine wpAny_bind (wpAny_pure (wpAny_bind (wpAny_setEpoch_of ho hd hf ?_)))
    refine wpAny_bind (wpAny_newObj_type (wpAny_pure ⟨_, rfl, "set_iterator", _, ⟨_, Heap.get?_push_size _ rfl, rfl⟩, SF.slot_next.lookup, ?_⟩))
    refine plain0 _ (.text 0 hbt) ⟨_, hstr _ (fun e he => (pick_perm _ es).mem_iff.mp he), ?_⟩
    rw [← hss]; exact (pick_perm _ es).map _
  | false =>
    show wpAny _ _ (if (!false && (!t.plain && decide (es.size > 1))) = true then _ else _) _ _ s
    by_cases h2 : es.size > 1
    · have hp0 : t.plain = false := hpl (by omega)
      rw [if_pos (by simp [hp0, h2])]
      refine wpAny_bind (drawOrder_perm es.size (List.range es.size) s _ (by simp) fun ps d hps => ?_)
      have hpsl : ps.length = es.size := by rw [hps.length_eq, List.length_range]
      refine wpAny_bind (wpAny_newObj_type ?_ ?_)
      · refine (wpAny_bind (wpAny_setEpoch_of (s := { s with heap := s.heap.push _, drawn := d }) (Heap.get?_push_of_some _ ho) hd hf ?_))
        refine wpAny_bind (wpAny_newObj_type (wpAny_pure ⟨_, rfl, "set_iterator", _, ⟨_, Heap.get?_push_size _ rfl, rfl⟩, SF.slot_next.lookup, ?_⟩))
        have hlp : ∀ p ∈ ps, p < es.size := fun p hp => List.mem_range.mp (hps.mem_iff.mp hp)
        refine make (.ref s.heap.objs.size) s.heap.objs.size (ps.filterMap fun p => (es[p]?).map (·.2)) (s.heap.push _) d (fun b ob e => Heap.get?_push_of_some _ e) (by rw [Heap.size_push]; exact Nat.le_succ _) (fun T e => by cases e; rfl) (by rw [Heap.size_push]; exact Nat.lt_succ_self _) (.inr (Nat.le_refl _))
          (.drawn 0 _ ps hbt ⟨_, Heap.get?_push_size _ rfl, rfl, _, rfl⟩ hlp) ?_
        have e1 : (ps.filterMap fun p => (es[p]?).map (·.2)) = (ps.filterMap fun p => es[p]?).map (·.2) := by rw [List.map_filterMap]
        have hpm : (ps.filterMap fun p => es[p]?).Perm es.toList := by
          have := hps.filterMap (fun p => es[p]?)
          have e2 := range_get es.toList
          simp only [Array.getElem?_toList, Array.length_toList] at e2
          rw [e2] at this
          exact this
        refine ⟨_, by rw [e1]; exact hstr _ (fun e he => hpm.mem_iff.mp he), ?_⟩
        rw [← hss]; exact hpm.map _
      · have hz : ps.length ≤ sizeLine := by rw [hpsl]; exact fits_of_scanBound hb
        show (ps.map _).toArray.size ≤ sizeLine
        rw [List.size_toArray, List.length_map]; exact hz
    · rw [if_neg (by simp [h2])]
      refine wpAny_bind (wpAny_pure (wpAny_bind (wpAny_setEpoch_of ho hd hf ?_)))
      refine wpAny_bind (wpAny_newObj_type (wpAny_pure ⟨_, rfl, "set_iterator", _, ⟨_, Heap.get?_push_size _ rfl, rfl⟩, SF.slot_next.lookup, ?_⟩))
      by_cases h1 : es.size = 0
      · refine plain0 [] (.none 0 0 hbt h1) ⟨[], .nil, ?_⟩
        rw [← hss, Array.eq_empty_of_size_eq_zero h1]
        exact List.Perm.refl _
      · obtain ⟨e, he⟩ : ∃ e, es = #[e] := by
          obtain ⟨l⟩ := es
          have hl : l.length = 1 := by
            have a1 : ¬ l.length > 1 := h2
            have a2 : ¬ l.length = 0 := h1
            omega
          match l, hl with
          | [e], _ => exact ⟨e, rfl⟩
        refine plain0 [e.2] (.one0 e hbt he) ⟨[txtOf e.2], hstr [e] (fun x hx => by rw [he]; exact hx), ?_⟩
        rw [← hss, he]
        exact List.Perm.refl _
theorem collect_sset {E : Value → Shared → Prop} {s : Shared} {S : Addr} {ss : List Str} {Q : List Value → Shared → Prop} (hh : A.handled = none) (hS : SSet P w s.heap S ss) (hl : ss.length ≤ sizeLine)
    (h : ∀ (h' : Heap) (d' : Drawn) (tk : Nat) (ord : List Value) (ys : List Str), (∀ b o, s.heap.get? b = some o → h'.get? b = some o) → s.heap.objs.size ≤ h'.objs.size → StrsAre ord ys → ys.Perm ss → Q ord { s with heap := h', drawn := d', toks := tk }) :
    wpAny (model P w) A (collect (.ref S)) Q E s := by
  obtain ⟨o, es, ep, t, ho, hex, hd, hrest⟩ := id hS
  have hlt : S < s.heap.objs.size := Heap.lt_size ho
  unfold collect
  refine wpAny_bind (wpAny_runValue (codeAny_builtin entry_proto_collect' ?_))
  rw [Around.under_plainId PySem.F.plain_proto_collect _]
  show wpAny _ A.in1 (newList [] >>= fun l => again (.builtin "list.__iadd__" ⟨[l, .ref S], []⟩)) _ _ s
  refine wpAny_bind (wpAny_newObj_type ?_)
  refine wpAny_pure ⟨plainId_quiet PySem.F.plain_list_iadd _, codeAny_builtin entry_list_iadd' ?_⟩
  rw [Around.under_plainId PySem.F.plain_list_iadd _]
  generalize hH : s.heap.push { cls := .type "list", data := .seq ([] : List Value).toArray } = H
  have hHs : H.objs.size = s.heap.objs.size + 1 := by rw [← hH, Heap.size_push]
  have old : ∀ b ob, s.heap.get? b = some ob → H.get? b = some ob := fun b ob e => by rw [← hH]; exact Heap.get?_push_of_some _ e
  have hS1 : SSet P w H S ss := hS.at fun o e => old S o e
  have hD : H.get? s.heap.objs.size = some { cls := .type "list", data := .seq #[] } := by rw [← hH]; exact Heap.get?_push_size _ rfl
  show wpAny _ A.in1 (Builtin.List.listExtendWith (.ref s.heap.objs.size) (.ref S) (.ref s.heap.objs.size)) _ _ { s with heap := H }
  unfold Builtin.List.listExtendWith
  refine wpAny_bind (wpAny_typeOf (T := "set") (v := .ref S) (show Shared.TypeIs { s with heap := H } (.ref S) "set" from ⟨o, old S o ho, hex.1⟩) ?_)
  have h1 : Builtin.List.listSameRef (.ref s.heap.objs.size) (.ref S) = false := by simp [Builtin.List.listSameRef, Nat.ne_of_gt hlt]
  have h2 : (Value.type "set" == Value.type "list") = false := by decide
  have h3 : (Value.type "set" == Value.type "tuple") = false := by decide
  simp only [h1, h2, h3, Bool.or_false, Bool.false_eq_true, if_false]
  refine wpAny_bind (pyIter_sset (s := { s with heap := H }) hS1 fun h' d' I fp ord St hk hI hIf hfp W st ⟨ys, hys, hp⟩ => ?_)
  have ty' : Shared.TypeIs { s with heap := h', drawn := d' } (.ref S) "set" := ⟨o, hk S o (old S o ho), hex.1⟩
  refine wpAny_bind (wpAny_holding ?_)
  unfold Builtin.List.listLengthHint
  refine wpAny_bind (wpAny_specialOf (T := "set") (v := .ref S) ty' SF.set_len ?_)
  wp_delta
  refine wpAny_bind (wpAny_isInstance (T := "set") (v := .ref S) (b := true) ty' SF.sub_set ?_)
  show wpAny _ A.in1 (typeOf (Value.ref S) >>= _) _ _ _
  refine wpAny_bind (wpAny_typeOf (T := "set") (v := .ref S) ty' ?_)
  refine wpAny_pure ?_
  have hDI : s.heap.objs.size ≠ I := fun z => by
    have : H.objs.size ≤ I := hI
    rw [hHs] at this
    omega
  have hSf : s.heap.objs.size ∉ fp := fun hb => by
    rcases (hfp _ hb).2 with z | z
    · exact absurd z (Nat.ne_of_gt hlt)
    · have : H.objs.size ≤ s.heap.objs.size := z
      rw [hHs] at this
      omega
  have hlen : ord.length = ss.length := by
    have a1 : ord.length = ys.length := hys.length
    rw [a1, hp.length_eq]
  have key : ∀ (h1 : Heap) (c₁ : Nat), St 0 h1 → (∀ b ob, b ≠ s.heap.objs.size → h'.get? b = some ob → h1.get? b = some ob) → h1.get? s.heap.objs.size = some { cls := .type "list", data := .seq #[] c₁ } →
      codeAny (model P w) A (.builtin "list.extend.loop" ⟨[.ref s.heap.objs.size, .ref I, .ref s.heap.objs.size], []⟩)
        (fun r s' => r = .ok (.ret (.ref s.heap.objs.size)) ∧ ∃ acc' c', s'.heap.get? s.heap.objs.size = some { cls := .type "list", data := .seq acc' c' } ∧ Q acc'.toList s') { s with heap := h1, drawn := d' } := by
    intro h1 c₁ st1 hk1 hD1
    refine codeAny_extend_loopS (W A.in1 hh).toS (by rw [hlen]; exact hl) _ hSf _ ord.length 0 _ #[] c₁ rfl (Nat.zero_le _) st1 hD1 (ItemsOf.nil _) fun s' acc' c' hm hS' hacc => ?_
    refine ⟨rfl, acc', c', hS', ?_⟩
    have eacc : acc'.toList = ord := by
      refine List.ext_getElem? fun i => ?_
      rw [Array.getElem?_toList]
      by_cases hi : i < acc'.size
      · have e : acc'[i]? = some acc'[i] := by simp [hi]
        rw [e, hacc.2 i _ e]
      · have hi' : ord.length ≤ i := by have := hacc.1; omega
        rw [List.getElem?_eq_none hi']
        simp; omega
    have heq : s' = { s with heap := s'.heap, drawn := d', toks := s'.toks } := Moved.eq_with hm
    rw [eacc, heq]
    refine h s'.heap d' s'.toks ord ys (fun b ob e => ?_) (Nat.le_of_lt (Heap.lt_size hS')) hys hp
    have hb1 : b ≠ s.heap.objs.size := Nat.ne_of_lt (Heap.lt_size e)
    have hb2 : b ≠ I := fun z => by
      have hz : H.objs.size ≤ b := by rw [z]; exact hI
      rw [hHs] at hz
      exact Nat.lt_irrefl _ (Nat.lt_of_lt_of_le (Nat.lt_succ_of_lt (Heap.lt_size e)) hz)
    exact hm.heap b ob (by simp [hb1, hb2]) (hk1 b ob hb1 (hk b ob (old b ob e)))
  have hD' : h'.get? s.heap.objs.size = some { cls := .type "list", data := .seq #[] } := hk _ _ hD
  have fin : ∀ (h1 : Heap) (c₁ : Nat), St 0 h1 → (∀ b ob, b ≠ s.heap.objs.size → h'.get? b = some ob → h1.get? b = some ob) → h1.get? s.heap.objs.size = some { cls := .type "list", data := .seq #[] c₁ } → ∀ (R : Result → Shared → Prop),
      (∀ s' acc' c', s'.heap.get? s.heap.objs.size = some { cls := .type "list", data := .seq acc' c' } → Q acc'.toList s' → R (.ok (.ret (.ref s.heap.objs.size))) s') →
      codeAny (model P w) A (.builtin "list.extend.loop" ⟨[.ref s.heap.objs.size, .ref I, .ref s.heap.objs.size], []⟩) R { s with heap := h1, drawn := d' } := by
    intro h1 c₁ a1 a2 a3 R hR
    refine codeAny_mono (key h1 c₁ a1 a2 a3) fun r s' ⟨e, acc', c', q1, q2⟩ => ?_
    subst e
    exact hR s' acc' c' q1 q2
  have last : ∀ (R : Result → Shared → Prop), R = R → True := fun _ _ => trivial
  refine wpAny_ite_split (fun _ => ?_) (fun _ => wpAny_pure ⟨plainId_quiet PySem.F.plain_extend_loop _, fin h' 0 st (fun b ob _ e => e) hD' _ fun s' acc' c' q1 q2 => ?_⟩)
  · refine wpAny_bind (wpAny_rule ?_)
    refine wpAny_bind ?_
    show wpAny _ _ (updateSeq s.heap.objs.size (·.push .none) >>= fun _ => updateSeq s.heap.objs.size (·.pop)) _ _ _
    refine wpAny_bind (wpAny_updateSeq hD' rfl ?_)
    have hS₂ := Heap.get?_update_self (Obj.mapSeq (·.push Value.none)) hD' rfl
    refine wpAny_updateSeq (hz := by seq_fits) hS₂ rfl ?_
    have hS₃ := Heap.get?_update_self (Obj.mapSeq (·.pop)) hS₂ rfl
    refine wpAny_pure ⟨plainId_quiet PySem.F.plain_extend_loop _, fin _ _ ?_ (fun b ob hb e => ?_) hS₃ _ fun s' acc' c' q1 q2 => ?_⟩
    · refine (W A.in1 hh).frame 0 _ _ st fun b hb o e => ?_
      have hbS : b ≠ s.heap.objs.size := fun z => hSf (z ▸ hb)
      exact (Heap.get?_update_other _ _ (Ne.symm hbS)).trans ((Heap.get?_update_other _ _ (Ne.symm hbS)).trans e)
    · exact (Heap.get?_update_other _ _ (Ne.symm hb)).trans ((Heap.get?_update_other _ _ (Ne.symm hb)).trans e)
    · show wpAny _ A (load s.heap.objs.size >>= _) _ _ _
      exact wpAny_bind (wpAny_load q1 (wpAny_pure q2))
  · show wpAny _ A (load s.heap.objs.size >>= _) _ _ _
    exact wpAny_bind (wpAny_load q1 (wpAny_pure q2))
theorem sorted_sset {E : Value → Shared → Prop} {s : Shared} {S : Addr} {ss : List Str} {Q : Value → Shared → Prop} (hh : A.handled = none) (hS : SSet P w s.heap S ss) (h64 : ss.length < 64)
    (h : ∀ (h' : Heap) (d' : Drawn) (tk : Nat) (l : Addr) (vs : List Value) (zs : List Str) (e : Nat), (∀ b o, s.heap.get? b = some o → h'.get? b = some o) → s.heap.objs.size ≤ l → h'.get? l = some { cls := .type "list", data := .seq vs.toArray e } → StrsAre vs zs → zs.Perm ss → sortedS zs = true →
      Q (.ref l) { s with heap := h', drawn := d', toks := tk }) :
    wpAny (model P w) A (call (.builtin "sorted") [.ref S]) Q E s := by
  refine Calls.call_function_entry kind_sorted plain_sorted entry_sorted (args_sorted1 _) ?_
  unfold Builtin.«sorted»
  refine wpAny_bind (m := checkCount "sorted" 1 1 _) (wpAny_pure ?_)
  refine wpAny_bind (collect_sset (A := A.in1) (show A.in1.handled = none from hh) hS (by rw [sizeLine_eq]; omega) fun h1 d1 tk1 ord ys hk1 hsz1 hys hp1 => ?_)
  have hn : ord.length < 64 := by
    have : ord.length = ys.length := hys.length
    rw [this, hp1.length_eq]; exact h64
  refine wpAny_bind (wpAny_newList ?_ (by rw [sizeLine_eq]; omega))
  have hoL : (h1.push (seqObj "list" ord.toArray 0)).get? h1.objs.size = some (seqObj "list" ord.toArray 0) := Heap.get?_push_size _ rfl
  show wpAny _ _ _ _ _ { s with heap := h1.push (seqObj "list" ord.toArray 0), drawn := d1, toks := tk1 }
  refine wpAny_bind (wpAny_holding (wpAny_call_entry slot_list_sort ⟨_, hoL, rfl⟩ entry_list_sort (list_sort_treeK strKind_oneLt hoL hys.keysOf (fun v₁ v₂ rest e => keyKind_strs (by rw [← e]; exact hys)) hn fun st' a1 a2 => ⟨_, rfl, ?_⟩) (args_list_sort _)))
  obtain ⟨zs, q1, q2, q3⟩ := sorted_out_str hys a1 a2
  refine wpAny_pure ⟨_, rfl, ?_⟩
  obtain ⟨e, he⟩ := sortedHeap_at (out := (arrOf st').map (·.2)) hoL
  refine h _ d1 tk1 h1.objs.size ((arrOf st').map (·.2)).toList zs e (fun b o q => ?_) hsz1 he q1 (q2.trans hp1) q3
  have hb := Heap.lt_size (hk1 b o q)
  rw [sortedHeap_old (Nat.ne_of_lt hb) (by rw [Heap.size_push]; exact Nat.lt_succ_of_lt hb)]
  exact Heap.get?_push_of_some _ (hk1 b o q)
end
section
variable {X : Cx}
noncomputable def SetO (P : Program) (w : World) (a : Addr) (ss : List Str) : HO := .ext fun h => SSet P w h a ss
theorem vals_strs : ∀ {xs : List Str} {us : List Value}, Vals (xs.map V.str) us → StrsAre us xs
  | [], _, h => by cases h; exact .nil
  | x :: r, _, h => by
    cases h with
    | cons h1 h2 => obtain ⟨t, rfl⟩ := h1; exact .cons x t (vals_strs h2)
theorem strs_vals : ∀ {us : List Value} {xs : List Str}, StrsAre us xs → Vals (xs.map V.str) us
  | _, _, .nil => .nil
  | _, _, .cons x t r => .cons ⟨t, rfl⟩ (strs_vals r)
theorem call_set (hc : X.calm = true) : CallR X (.type "set") (fun vs H Q => ∃ (a : Addr) (xs : List Str), vs = [.ref a] ∧ SqL X.K H a (xs.map V.str) ∧ xs.length + 1 < scanBound ∧
    ∀ p ss, H p = none → Dd xs ss → Q (.ref p) (upd H p (SetO X.prog X.w p ss))) := by
  intro pins s σ H vs us Q I r h
  obtain ⟨a, xs, rfl, hq, hz, q⟩ := h
  obtain ⟨u, rfl, ru⟩ := r.one
  cases ru
  obtain ⟨its, rv, p, _⟩ := I.list hq
  have hs := vals_strs rv
  have hl : its.length = xs.length := hs.length
  refine call_set_strs (I.ok.hd hc) p.isList (by simpa using hs) (by rw [List.size_toArray, hl]; exact hz) fun h' tk ss hS hd hk => ?_
  have fr : H s.heap.objs.size = none := I.hok.fresh (Nat.le_refl _)
  refine ⟨.ref s.heap.objs.size, upd H s.heap.objs.size (SetO X.prog X.w s.heap.objs.size ss), I.laid (t' := tk) (fun b o e => hk b o (Heap.lt_size e) e) (Nat.le_refl _) ⟨hS, ?_, fun h1 h2 h3 k => ?_⟩, rfl, q _ ss fr hd⟩
  · obtain ⟨o, _, _, _, ho, _⟩ := hS; exact ⟨o, ho⟩
  · exact SSet.at h3 k
theorem call_sorted_set (hc : X.calm = true) : CallR X (.builtin "sorted") (fun vs H Q => ∃ (a : Addr) (ss : List Str), vs = [.ref a] ∧ H a = some (SetO X.prog X.w a ss) ∧ ss.length < 64 ∧
    ∀ p zs, H p = none → zs.Perm ss → sortedS zs = true → Q (.ref p) (upd H p (.lst (zs.map V.str)))) := by
  intro pins s σ H vs us Q I r h
  obtain ⟨a, ss, rfl, hq, hz, q⟩ := h
  obtain ⟨u, rfl, ru⟩ := r.one
  cases ru
  have hS : SSet X.prog X.w s.heap a ss := (I.hok a _ hq).1
  refine sorted_sset (I.ok.hd hc) hS hz fun h' d' tk l ws zs e hk hl hget hs hp hso => ?_
  have fr : H l = none := I.hok.fresh hl
  have hzl : zs.length < 64 := by rw [hp.length_eq]; exact hz
  have ok' : HOk X.prog X.w (upd H l (.lst (zs.map V.str))) h' := I.hok.laid (a := l) (o := .lst (zs.map V.str)) hk hl ⟨by rw [List.length_map]; exact Nat.le_of_lt (small1000 (by omega)), ws, e, strs_vals hs, hget⟩
  have un : Un (frs X.stack) [] H (upd H l (.lst (zs.map V.str))) s.heap h' := Un.laid hk hl fr
  exact ⟨.ref l, _, I.call (g' := s.gens) (d' := d') (t' := tk) (ch := []) un ok' I.bare (fun b z => absurd z (by simp)), rfl, q l zs fr hp hso⟩
end
end L2
namespace L2
open PySem PySem.Spec PyProof.Rows
section
variable {P : Program} {w : World} {K : PySem.W.Frag} {mg : Str → Option Value} {base : Heap} {N : List Str} {qual : Str} {scope : Scope} {f : Addr} {cd : Value} {A : Around} {outer : List Env} {s₀ : Shared} {H₀ : Hp} {E : XK}
end
section
variable {P : Program} {w : World} {K : PySem.W.Frag} {mg : Str → Option Value} {base : Heap} {N : List Str} {qual : Str} {scope : Scope} {f : Addr} {cd : Value} {A : Around} {outer : List Env} {s₀ : Shared} {H₀ : Hp} {E : XK}
end
section
variable {X : Cx} {E : XK} {x : Str} {C : Addr} {B newId initId : String} {bmB : List Value} {np cpos pos : Pos} {e : Expr} {es : List Expr} {t : TA}
end
end L2
namespace L2
open PySem PySem.Spec PyProof.Rows
section
variable {X : Cx} {pins₀ : List (Addr × Obj)} {E : XK}
theorem Inv.track {Y : Cx} {pins : List (Addr × Obj)} {σ : St} {H : Hp} {s : Shared} {a : Addr} {o : HO} (I : Inv Y pins σ H s) (hn : H a = none) (h0 : Y.s₀.heap.get? a = none) (hL : a ≠ Y.env.locals) (hc : ∀ x c, Y.env.cells.lookup x = some c → c ≠ a)
    (hp : ∀ p ∈ Y.pn ++ pins, p.1 ≠ a) (ho : ObjOk Y.prog Y.w (upd H a o) s.heap a o) : Inv Y pins σ (upd H a o) s := by
  have keep : ∀ b u, H b = some u → upd H a o b = some u := fun b u e => by rw [upd_ne (ne_of_none e hn)]; exact e
  refine ⟨I.ok, I.os, I.bare, ⟨I.base.keep, I.base.slot, fun b ob e n hx => ?_, I.base.there, fun b xs e => keep b _ (I.base.tups b xs e), fun b ob xs e => keep b _ (I.base.frzs b ob xs e), fun b ps e => ?_⟩, I.loc, I.cell, ?_, fun x c e => ?_, fun p q => ?_, fun b u e => ?_, I.len⟩
  · have : b ≠ a := fun z => by rw [z, h0] at e; cases e
    rw [upd_ne this]; exact I.base.free b ob e n hx
  · obtain ⟨m, e'⟩ := I.base.tbls b ps e
    exact ⟨m, keep b _ e'⟩
  · rw [upd_ne (Ne.symm hL)]; exact I.free
  · rw [upd_ne (hc x c e)]; exact I.freeC x c e
  · obtain ⟨p1, p2, p3⟩ := I.pin p q
    exact ⟨p1, by rw [upd_ne (hp p q)]; exact p2, p3⟩
  · by_cases hb : b = a
    · subst hb; rw [upd_same] at e; cases e; exact ho
    · rw [upd_ne hb] at e
      exact (I.hok b u e).stay (fun _ _ _ q => q) (fun c q => keep c _ q) fun c xs q => keep c _ q
end
section
variable {X : Cx} {E : XK} {c n : Str} {C : Addr} {i : Nat} {body suite : List Stmt} {b₀ : Stmt} {tb ts : TS} {np hpos pos : Pos}
end
end L2
namespace L2
open PySem PySem.Spec PyProof.Rows PySem.Builtin PySem.Builtin.ObjectAttr PySem.Builtin.Getset_descriptor
section
variable {prog : Program} {w : World} {A : Around} {E : Value → Shared → Prop} {h : Heap} {g : Array GenState} {d : Drawn} {t : Nat} {os : OsState} {K : PySem.W.Frag} {a C : Addr} {o : Obj}
end
section
variable {X : Cx}
end
end L2
namespace L2
open PySem PySem.Spec PyProof.Rows
mutual
inductive Dp (K : PySem.W.Frag) (H : Hp) : V → PyData → Prop
  | non : Dp K H .non .none
  | bl (b : Bool) : Dp K H (.bl b) (.bool b)
  | int (i : Int) : Dp K H (.int i) (.int i)
  | str (x : Str) : Dp K H (.str x) (.str x)
  | lst {a : Addr} {xs : List V} {ds : List PyData} : SqL K H a xs → DpAll K H xs ds → Dp K H (.ref a) (.list ds)
  | tup {a : Addr} {xs : List V} {ds : List PyData} : SqT K H a xs → DpAll K H xs ds → Dp K H (.ref a) (.tuple ds)
inductive DpAll (K : PySem.W.Frag) (H : Hp) : List V → List PyData → Prop
  | nil : DpAll K H [] []
  | cons {v : V} {vs : List V} {d : PyData} {ds : List PyData} : Dp K H v d → DpAll K H vs ds → DpAll K H (v :: vs) (d :: ds)
end
section
variable {X : Cx} {pins : List (Addr × Obj)} {σ : St} {H : Hp} {s : Shared}
mutual
theorem Dp.reads (I : Inv X pins σ H s) : ∀ {v : V} {d : PyData}, Dp X.K H v d → ∀ {u : Value}, RelV v u → ∃ as, Reads s.heap u d as
  | _, _, .non, _, r => by cases r; exact ⟨_, .none⟩
  | _, _, .bl b, _, r => by cases r; exact ⟨_, .bool b⟩
  | _, _, .int i, _, r => by obtain ⟨t, rfl⟩ := r; exact ⟨_, .int i t⟩
  | _, _, .str x, _, r => by obtain ⟨t, rfl⟩ := r; exact ⟨_, .str x t⟩
  | _, _, .lst hs ha, _, r => by
    cases r
    obtain ⟨its, rv, ⟨o, n, e, hc, _, hd⟩, _⟩ := I.list hs
    obtain ⟨as, ra⟩ := DpAll.reads I ha rv
    exact ⟨_, .list e hc hd (by simpa using ra)⟩
  | _, _, .tup hs ha, _, r => by
    cases r
    obtain ⟨its, rv, ⟨o, e, hc, n, hd⟩, _⟩ := I.tuple hs
    obtain ⟨as, ra⟩ := DpAll.reads I ha rv
    exact ⟨_, .tuple e hc hd (by simpa using ra)⟩
theorem DpAll.reads (I : Inv X pins σ H s) : ∀ {vs : List V} {ds : List PyData}, DpAll X.K H vs ds → ∀ {us : List Value}, Vals vs us → ∃ as, ReadsAll s.heap us ds as
  | _, _, .nil, _, r => by cases r; exact ⟨_, .nil⟩
  | _, _, .cons h1 h2, _, r => by
    cases r with
    | cons r1 r2 =>
      obtain ⟨as, q1⟩ := Dp.reads I h1 r1
      obtain ⟨bs, q2⟩ := DpAll.reads I h2 r2
      exact ⟨_, .cons q1 q2⟩
end
end
noncomputable def EqOk (d : PyData) : Prop := d.canLay0 = true ∧ d.depth ≤ 16
section
variable {X : Cx}
noncomputable def rEqD (K : PySem.W.Frag) : R2 := fun x y H Q => ∃ dx dy, Dp K H x dx ∧ Dp K H y dy ∧ EqOk dx ∧ EqOk dy ∧ Q (.bl (PyData.eqv dx dy)) H
theorem op_eqD (hu : X.A.units + 32 < cLine) : OpR X (compareOp .Eq) (rEqD X.K) := by
  intro pins s σ H x y v u Q I rx ry h
  obtain ⟨dx, dy, h1, h2, o1, o2, q⟩ := h
  obtain ⟨as, ra⟩ := Dp.reads I h1 rx
  obtain ⟨bs, rb⟩ := Dp.reads I h2 ry
  exact SeqAt.compareEq_reads ra rb o1.1 o2.1 (by have := o1.2; have := Nat.min_le_left dx.depth dy.depth; omega) ⟨.bl _, H, I, rfl, q⟩
end
noncomputable def dStrs (r : List Str) : List PyData := r.map .str
noncomputable def dRow (r : List Str) : PyData := .tuple (dStrs r)
noncomputable def RowAt (K : PySem.W.Frag) (H : Hp) (a : Addr) (r : List Str) : Prop := SqT K H a (r.map V.str)
noncomputable def RowsAt (K : PySem.W.Frag) (H : Hp) (a : Addr) (rs : List (List Str)) : Prop := ∃ as : List Addr, H a = some (.lst (as.map V.ref)) ∧ Paired (fun b r => RowAt K H b r) as rs
noncomputable def TellAt (K : PySem.W.Frag) (H : Hp) (a : Addr) (rss : List (List (List Str))) : Prop := ∃ as : List Addr, SqT K H a (as.map V.ref) ∧ Paired (fun b rs => RowsAt K H b rs) as rss
theorem Same.seqT {K : PySem.W.Frag} {H H' : Hp} {a : Addr} {xs : List V} (e : Same H H') (h : SqT K H a xs) : SqT K H' a xs := by
  rcases h with (h | ⟨o, h⟩) | h
  · exact .inl (.inl (e _ _ h))
  · exact .inl (.inr ⟨o, e _ _ h⟩)
  · exact .inr h
theorem RowAt.same {K : PySem.W.Frag} {H H' : Hp} {a : Addr} {r : List Str} (h : RowAt K H a r) (e : Same H H') : RowAt K H' a r := e.seqT h
theorem RowsAt.same {K : PySem.W.Frag} {H H' : Hp} {a : Addr} {rs : List (List Str)} (h : RowsAt K H a rs) (e : Same H H') : RowsAt K H' a rs := by
  obtain ⟨as, h1, h2⟩ := h
  exact ⟨as, e _ _ h1, Paired.mapP h2 fun b r z => z.same e⟩
theorem dp_strs {K : PySem.W.Frag} {H : Hp} : ∀ r : List Str, DpAll K H (r.map V.str) (dStrs r)
  | [] => .nil
  | x :: r => .cons (.str x) (dp_strs r)
theorem RowAt.dp {K : PySem.W.Frag} {H : Hp} {a : Addr} {r : List Str} (h : RowAt K H a r) : Dp K H (.ref a) (dRow r) := .tup h (dp_strs r)
theorem dp_rows {K : PySem.W.Frag} {H : Hp} : ∀ {as : List Addr} {rs : List (List Str)}, Paired (fun b r => RowAt K H b r) as rs → DpAll K H (as.map V.ref) (rs.map dRow)
  | _, _, .nil => .nil
  | _, _, .cons h1 h2 => .cons h1.dp (dp_rows h2)
theorem RowsAt.dp {K : PySem.W.Frag} {H : Hp} {a : Addr} {rs : List (List Str)} (h : RowsAt K H a rs) : Dp K H (.ref a) (.list (rs.map dRow)) := by
  obtain ⟨as, h1, h2⟩ := h
  exact .lst (SqL.of h1) (dp_rows h2)
theorem same_new {H : Hp} {p : Addr} (h : H p = none) (o : HO) : Same H (upd H p o) := fun b u q => by rw [upd_ne (ne_of_none q h)]; exact q
end L2
namespace L2
open PySem PySem.Spec PyProof.Rows
noncomputable def KDict (K : PySem.W.Frag) (w : World) (a : Addr) (kvs : List (Str × V)) : Prop :=
  ∃ es n, K.lookup a = some ⟨.type "dict", none, .dict es n, #[]⟩ ∧ PySem.W.KeysLit w.params es.toList ∧ (a == sysModules) = false ∧ ∀ x, RelO (kvs.lookup x) (findBy Value.isStrOf es x)
section
variable {X : Cx} {o e : Expr} {to : TE} {t : TA} {apos cpos : Pos}
end
end L2
namespace L2
open PySem PySem.Spec PyProof.Rows PySem.Builtin PySem.Builtin.Str
noncomputable def cutS (z : Str) (lo hi : Option Int) : Str := ⟨((z.cps.toList.drop (HT.sIx z.length 0 lo)).take (HT.sIx z.length z.length hi - HT.sIx z.length 0 lo)).toArray⟩
theorem sIx_le (n d : Nat) (hd : d ≤ n) (v : Option Int) (hv : ∀ i, v = some i → -(n : Int) ≤ i ∨ 0 ≤ i ∨ True) : HT.sIx n d v ≤ n := by
  cases v with
  | none => exact hd
  | some i =>
    show (if i < 0 then (i + (n : Int)).toNat else min i.toNat n) ≤ n
    split <;> omega
theorem clip_sIx (n d : Nat) (hd : d ≤ n) (v : Option Int) : (match v with | none => (d : Int) | some i => max 0 (min (if i < 0 then i + (n : Int) else i) (n : Int))) = ((HT.sIx n d v : Nat) : Int) := by
  cases v with
  | none => rfl
  | some i =>
    show max 0 (min (if i < 0 then i + (n : Int) else i) (n : Int)) = ((if i < 0 then (i + (n : Int)).toNat else min i.toNat n : Nat) : Int)
    split <;> omega
theorem idx_sIx (lo hi : Option Int) (n : Nat) : strSliceIndices lo hi 1 n = (List.range (HT.sIx n n hi - HT.sIx n 0 lo)).map (fun k => HT.sIx n 0 lo + k) := by
  have e1 := clip_sIx n 0 (Nat.zero_le _) lo
  have e2 := clip_sIx n n (Nat.le_refl _) hi
  have key : strSliceIndices lo hi 1 n = sliceRange ((HT.sIx n 0 lo : Nat) : Int) ((HT.sIx n n hi : Nat) : Int) 1 := by
    rw [← e1, ← e2]
    cases lo <;> cases hi <;> rfl
  rw [key]
  generalize HT.sIx n 0 lo = a
  generalize HT.sIx n n hi = b
  unfold sliceRange
  simp only [show ((1 : Int) > 0) = True from by simp, if_true]
  by_cases h : (a : Int) < b
  · rw [if_pos h]
    have e3 : (((b : Int) - a + 1 - 1) / 1).toNat = b - a := by omega
    rw [e3]
    refine List.map_congr_left fun k _ => ?_
    omega
  · rw [if_neg h]
    have e4 : b - a = 0 := by omega
    rw [e4]
    rfl
theorem picks_cut (z : Str) (lo hi : Option Int) : ((strSliceIndices lo hi 1 z.length).filterMap (z.cps[·]?)) = (z.cps.toList.drop (HT.sIx z.length 0 lo)).take (HT.sIx z.length z.length hi - HT.sIx z.length 0 lo) := by
  rw [idx_sIx]
  have hz : z.length = z.cps.toList.length := by simp [Str.length]
  have hb : HT.sIx z.length z.length hi ≤ z.length := sIx_le _ _ (Nat.le_refl _) hi fun _ _ => .inr (.inr trivial)
  generalize HT.sIx z.length 0 lo = a at *
  generalize HT.sIx z.length z.length hi = b at *
  by_cases h : a ≤ b
  · have := StrLaws.picks z.cps.toList (b - a) a (by omega)
    simpa using this
  · have e : b - a = 0 := by omega
    rw [e]
    simp
section
variable {X : Cx}
noncomputable def rSlS : V → Option Int → Option Int → Hp → VK → Prop := fun x lo hi H Q => ∃ z, x = .str z ∧ z.length ≤ sizeLine ∧ Q (.str (cutS z lo hi)) H
theorem sl_str : SlR X rSlS := by
  intro pins s σ H x v vl vu lo hi sl Q I rx hs pl pu h
  obtain ⟨z, rfl, hz, q⟩ := h
  obtain ⟨t, rfl⟩ := rx
  refine ⟨"str", _, PySem.F.slot_str_getitem.lookup, typeIs_str s z t, ?_⟩
  obtain ⟨l, hl, el⟩ : ∃ l : Option (Int × Tok), partValue l = vl ∧ l.map (·.1) = lo := by
    cases pl with
    | none => exact ⟨none, rfl, rfl⟩
    | int i t => exact ⟨some (i, t), rfl, rfl⟩
  obtain ⟨u, hu, eu⟩ : ∃ u : Option (Int × Tok), partValue u = vu ∧ u.map (·.1) = hi := by
    cases pu with
    | none => exact ⟨none, rfl, rfl⟩
    | int i t => exact ⟨some (i, t), rfl, rfl⟩
  have hS : s.heap.IsSlice sl l u none := by
    obtain ⟨o, ho, hc, hd⟩ := hs
    exact ⟨o, ho, hc, by rw [hd, hl, hu]; rfl⟩
  refine getItem_meets (typeIs_str s z t) (by decide) PySem.F.slot_str_getitem PySem.F.entry_str_getitem (PySem.F.args_str_getitem_2 _ _) (meets_str_getitem_slice z t sl l u none (by decide)) ⟨hS, ?_⟩
  have epick : slicePicked z l u none = strSliceIndices lo hi 1 z.length := by
    unfold slicePicked
    rw [el, eu]
    rfl
  have ecut : ((slicePicked z l u none).filterMap (z.cps[·]?)) = (z.cps.toList.drop (HT.sIx z.length 0 lo)).take (HT.sIx z.length z.length hi - HT.sIx z.length 0 lo) := by rw [epick]; exact picks_cut z lo hi
  unfold sliceMade
  split
  · rename_i hw
    have hlen : (slicePicked z l u none).length = z.length := by simpa using hw
    have eq : cutS z lo hi = z := by
      have e1 : ((z.cps.toList.drop (HT.sIx z.length 0 lo)).take (HT.sIx z.length z.length hi - HT.sIx z.length 0 lo)) = z.cps.toList := by
        rw [epick, idx_sIx, List.length_map, List.length_range] at hlen
        have hb : HT.sIx z.length z.length hi ≤ z.length := sIx_le _ _ (Nat.le_refl _) hi fun _ _ => .inr (.inr trivial)
        rcases Nat.eq_zero_or_pos z.length with h0 | h0
        · have : z.cps.toList = [] := by
            have : z.cps.toList.length = 0 := by simpa [Str.length] using h0
            exact List.eq_nil_of_length_eq_zero this
          rw [this]; simp
        · have ea : HT.sIx z.length 0 lo = 0 := by omega
          have eb : HT.sIx z.length z.length hi = z.length := by omega
          rw [ea, eb, List.drop_zero, Nat.sub_zero]
          exact List.take_of_length_le (by simp [Str.length])
      unfold cutS
      rw [e1]
    rw [eq] at q
    exact ⟨.str z, H, I, ⟨t, rfl⟩, q⟩
  · show (Made.str _).post _ s
    rw [ecut]
    refine ⟨?_, .str (cutS z lo hi), H, I.tok _, ⟨_, rfl⟩, q⟩
    refine Nat.le_trans ?_ hz
    show ((z.cps.toList.drop (HT.sIx z.length 0 lo)).take (HT.sIx z.length z.length hi - HT.sIx z.length 0 lo)).toArray.size ≤ z.cps.size
    rw [List.size_toArray, List.length_take, List.length_drop, Array.length_toList]
    omega
theorem op_in_sign : OpR X (compareOp .In) (fun x y H Q => ∃ (c : Nat) (z : Str), x = .str ⟨#[c]⟩ ∧ y = .str z ∧ Q (.bl (decide (c ∈ z.cps.toList))) H) := by
  intro pins s σ H x y v u Q I rx ry h
  obtain ⟨c, z, rfl, rfl, q⟩ := h
  refine op_in_str pins s σ H _ _ v u Q I rx ry ⟨_, _, rfl, rfl, ?_⟩
  rw [StrLaws.found_one]
  exact q
end
end L2
namespace L2
open PySem PySem.Spec PyProof.Rows
noncomputable def Glob (mg : Str → Option Value) (x : Str) (v : V) : Prop := ∃ u, mg x = some u ∧ RelV v u
theorem pe_g {X : Cx} {x : Str} {v : V} {pos : Pos} (h : Glob X.mg x v) (hg : Gl X x := by rfl) (hd : (x == ("__debug__" : Str)) = false := by decide) : PE X (.Name x pos) (tC v) := by
  obtain ⟨u, hm, r⟩ := h
  exact pe_glob hg hm r hd
theorem relabel_none {sc : Scope} {env : Env} (hfree : ∀ y ∈ sc.names, y.2 ≠ .free) (hcell : ∀ y ∈ sc.names, y.2 ≠ .cell) (y : Str) (h : (relabel sc env).names.lookup y = some .cell ∨ (relabel sc env).names.lookup y = some .free) : False := by
  have key : ∀ k, (relabel sc env).names.lookup y = some k → ∃ z ∈ sc.names, z.2 = k ∨ z.2 = .free := fun k e => by
    have hm := PySem.mem_of_lookup e
    obtain ⟨z, hz, ez⟩ := List.mem_map.mp hm
    refine ⟨z, hz, ?_⟩
    obtain ⟨n, kk⟩ := z
    dsimp only at ez
    split at ez
    · rename_i hc
      simp only [Bool.and_eq_true, beq_iff_eq] at hc
      exact .inr hc.1.1
    · exact .inl (congrArg Prod.snd ez)
  rcases h with h | h
  · obtain ⟨z, hz, q | q⟩ := key _ h
    · exact hcell z hz q
    · exact hfree z hz q
  · obtain ⟨z, hz, q | q⟩ := key _ h
    · exact hfree z hz q
    · exact hfree z hz q
theorem pe_comp0 {X : Cx} {elt iter : Expr} {x : Str} {px pos : Pos} {ifs : List Expr} {sc : Scope} {wi : TI} {tc : TT} {te : TE} (hi : PI X (.Name x px) iter wi) (hif : ∀ s H C ex, PTs (blk X [x] s H sc [] C ex) ifs tc) (he : ∀ s H C ex, PE (blk X [x] s H sc [] C ex) elt te)
    (hc : X.calm = true := by rfl) (hkind : sc.kind = .function := by rfl) (hx : sc.names.lookup x = some .local := by decide +kernel) (hfree : ∀ y ∈ sc.names, y.2 ≠ .free := by decide +kernel) (hcell : ∀ y ∈ sc.names, y.2 ≠ .cell := by decide +kernel)
    (hnames : ∀ y ∈ sc.names, y.2 = .local → sc.names.lookup y.1 = some .local := by decide +kernel) (hs : ∀ x, foldedSetIterable iter X.env x = pure x := by intro _; rfl) :
    PE X (.ListComp elt [⟨.Name x px, iter, ifs, 0⟩] sc pos) (tComp [] wi tc te) :=
  pe_comp [x] hc hi hif he hkind rfl (by simp) hx (PySem.closureFor_none hfree) hcell hnames (fun y c e => by simp at e) (fun y h => (relabel_none hfree hcell y h).elim) (fun j hj => by simp at hj) hs
structure JSeq (J : It) (I0 : Hp → Prop) (xs : List V) : Prop where
  go : ∀ i H, I0 H → i < xs.length → J.go i H
  stop : ∀ i H, I0 H → xs.length ≤ i → J.stop i H
  yld : ∀ i H x H', i < xs.length → I0 H → J.yld i H x H' → H' = H ∧ xs[i]? = some x
  stay : ∀ H H', I0 H → Same H H' → I0 H'
theorem jseq_tup {K : PySem.W.Frag} {a : Addr} {xs : List V} : JSeq (Itt K a) (fun H => SqT K H a xs) xs where
  go := fun i H h hi => ⟨xs, xs[i], h, by simp [hi]⟩
  stop := fun i H h hi => ⟨xs, h, hi⟩
  yld := fun i H x H' _ h y => ⟨y.1, y.2 xs h⟩
  stay := fun H H' h e => e.seqT h
theorem jseq_list {K : PySem.W.Frag} {a : Addr} {xs : List V} : JSeq (Itl K a) (fun H => SqL K H a xs) xs where
  go := fun i H h hi => ⟨xs, xs[i], h, by simp [hi]⟩
  stop := fun i H h hi => ⟨xs, h, hi⟩
  yld := fun i H x H' _ h y => ⟨y.1, y.2 xs h⟩
  stay := fun H H' h e => e.seq h
noncomputable def signs (z : Str) : List V := z.cps.toList.map fun c => V.str ⟨#[c]⟩
theorem jseq_str {z : Str} : JSeq (Its z) (fun _ => True) (signs z) where
  go := fun i H _ hi => by simpa [signs, Its] using hi
  stop := fun i H _ hi => by simpa [signs, Its] using hi
  yld := fun i H x H' _ _ y => by
    obtain ⟨e, c, hc, rfl⟩ := y
    refine ⟨e, ?_⟩
    unfold signs
    rw [List.getElem?_map, Array.getElem?_toList, hc]; rfl
  stay := fun _ _ _ _ => trivial
theorem Paired.snocP {α β : Type} {F : α → β → Prop} {x : α} {y : β} : ∀ {l₁ : List α} {l₂ : List β}, Paired F l₁ l₂ → F x y → Paired F (l₁ ++ [x]) (l₂ ++ [y])
  | _, _, .nil, h => .cons h .nil
  | _, _, .cons h₁ t, h => .cons h₁ (Paired.snocP t h)
noncomputable def SameX (D : Addr) (H H' : Hp) : Prop := ∀ b u, H b = some u → b ≠ D → H' b = some u
theorem Same.x {H H' : Hp} (e : Same H H') (D : Addr) : SameX D H H' := fun b u q _ => e b u q
theorem comp_rel {J : It} {H1 : Hp} {σ : St} {ix : List Nat} {tc : TT} {te : TE} {Q : VK} {I0 : Hp → Prop} (xs : List V) (p : V → Bool) (R : Addr → V → V → Hp → Prop) (hJ : JSeq J I0 xs) (h0 : I0 H1) (hz : xs.length ≤ sizeLine) (hR : ∀ D x y H H', R D x y H → SameX D H H' → R D x y H')
    (hc : ∀ x ∈ xs, ∀ H2, Same H1 H2 → ∀ Q' : Bool → Hp → Prop, (∀ H3, Same H2 H3 → Q' (p x) H3) → tc (some x :: frees σ ix) H2 Q')
    (he : ∀ D, ∀ x ∈ xs, p x = true → ∀ H2, Same H1 H2 → H2 D ≠ none → ∀ Q' : VK, (∀ y H3, Same H2 H3 → R D x y H3 → Q' y H3) → te (some x :: frees σ ix) H2 Q')
    (hQ : ∀ D H' ys, H1 D = none → Same H1 H' → H' D = some (.lst ys) → Paired (fun x y => R D x y H') (xs.filter p) ys → Q (.ref D) H') :
    CompGo J H1 σ ix tc te Q := by
  intro D hD
  have put : ∀ H ys, Same H1 H → Same H1 (upd H D (.lst ys)) := fun H ys e b u q => by rw [upd_ne (ne_of_none q hD)]; exact e b u q
  refine ⟨fun i m H => i ≤ xs.length ∧ m = xs.length - i ∧ Same H1 H ∧ ∃ ys, H D = some (.lst ys) ∧ Paired (fun x y => R D x y H) ((xs.take i).filter p) ys, ⟨xs.length, Nat.zero_le _, rfl, put _ _ (Same.refl _), [], upd_same, by simpa using Paired.nil⟩, ?_⟩
  rintro i m H ⟨hi, rfl, e, ys, hy, hp⟩
  have hI := hJ.stay _ _ h0 e
  by_cases hlt : i < xs.length
  · refine .inr ⟨hJ.go i H hI hlt, fun x H' hy' => ?_⟩
    obtain ⟨rfl, hx⟩ := hJ.yld i H x H' hlt hI hy'
    have hm : x ∈ xs := List.mem_of_getElem? hx
    have ht : xs.take (i + 1) = xs.take i ++ [x] := by rw [List.take_add_one, hx]; rfl
    have hlen : ys.length ≤ i := by
      have h1 := Paired.length hp
      have h2 := List.length_filter_le p (xs.take i)
      rw [List.length_take] at h2
      omega
    refine hc x hm _ e _ fun H3 e3 => ?_
    cases hpx : p x with
    | false =>
      rw [if_neg Bool.false_ne_true]
      refine ⟨xs.length - (i + 1), by omega, hlt, rfl, e.trans e3, ys, e3 _ _ hy, ?_⟩
      rw [ht, List.filter_append]
      simp only [List.filter_cons, hpx, List.filter_nil, List.append_nil, Bool.false_eq_true, if_false]
      exact Paired.mapP hp fun x y z => hR _ _ _ _ _ z (e3.x D)
    | true =>
      rw [if_pos rfl]
      refine he D x hm hpx _ (e.trans e3) (by rw [e3 _ _ hy]; simp) _ fun y H4 e4 hr => ?_
      have e5 : SameX D H4 (upd H4 D (.lst (ys ++ [y]))) := fun b u q hb => by rw [upd_ne hb]; exact q
      refine ⟨ys, e4 _ _ (e3 _ _ hy), by omega, xs.length - (i + 1), by omega, hlt, rfl, put _ _ (e.trans (e3.trans e4)), ys ++ [y], upd_same, ?_⟩
      rw [ht, List.filter_append]
      simp only [List.filter_cons, hpx, List.filter_nil, if_true]
      exact Paired.snocP (Paired.mapP hp fun x y z => hR _ _ _ _ _ (hR _ _ _ _ _ z ((e3.trans e4).x D)) e5) (hR _ _ _ _ _ hr e5)
  · have hi' : i = xs.length := by omega
    subst hi'
    refine .inl ⟨hJ.stop _ H hI (Nat.le_refl _), ?_⟩
    rw [List.take_length] at hp
    exact hQ D H ys hD e hy hp
theorem paired_map {α β : Type} {f : α → β} : ∀ {l : List α} {l' : List β}, Paired (fun x y => y = f x) l l' → l' = l.map f
  | _, _, .nil => rfl
  | _, _, .cons h t => by rw [h, paired_map t]; rfl
theorem comp_map {J : It} {H1 : Hp} {σ : St} {ix : List Nat} {tc : TT} {te : TE} {Q : VK} {I0 : Hp → Prop} (xs : List V) (p : V → Bool) (f : V → V) (hJ : JSeq J I0 xs) (h0 : I0 H1) (hz : xs.length ≤ sizeLine)
    (hc : ∀ x ∈ xs, ∀ H2, Same H1 H2 → ∀ Q' : Bool → Hp → Prop, (∀ H3, Same H2 H3 → Q' (p x) H3) → tc (some x :: frees σ ix) H2 Q')
    (he : ∀ x ∈ xs, p x = true → ∀ H2, Same H1 H2 → ∀ Q' : VK, (∀ H3, Same H2 H3 → Q' (f x) H3) → te (some x :: frees σ ix) H2 Q')
    (hQ : ∀ D H', H1 D = none → Same H1 H' → H' D = some (.lst ((xs.filter p).map f)) → Q (.ref D) H') :
    CompGo J H1 σ ix tc te Q :=
  comp_rel xs p (fun _ x y _ => y = f x) hJ h0 hz (fun _ _ _ _ _ h _ => h) hc (fun _ x hx hp H2 e _ Q' q => he x hx hp H2 e Q' fun H3 e3 => q _ H3 e3 rfl) fun D H' ys hD e hy hp => hQ D H' hD e (by rw [hy, paired_map hp])
theorem comp_ix {J : It} {H1 : Hp} {σ : St} {ix : List Nat} {te : TE} {Q : VK} {I0 : Hp → Prop} (xs : List V) (ws : List V) (hJ : JSeq J I0 xs) (h0 : I0 H1) (hz : xs.length ≤ sizeLine) (hl : ws.length = xs.length)
    (he : ∀ (i : Nat) (x y : V), xs[i]? = some x → ws[i]? = some y → ∀ H2, Same H1 H2 → ∀ Q' : VK, (∀ H3, Same H2 H3 → Q' y H3) → te (some x :: frees σ ix) H2 Q')
    (hQ : ∀ D H', H1 D = none → Same H1 H' → H' D = some (.lst ws) → Q (.ref D) H') : CompGo J H1 σ ix tYes te Q := by
  intro D hD
  have put : ∀ H ys, Same H1 H → Same H1 (upd H D (.lst ys)) := fun H ys e b u q => by rw [upd_ne (ne_of_none q hD)]; exact e b u q
  refine ⟨fun i m H => i ≤ xs.length ∧ m = xs.length - i ∧ Same H1 H ∧ H D = some (.lst (ws.take i)), ⟨xs.length, Nat.zero_le _, rfl, put _ _ (Same.refl _), by rw [upd_same, List.take_zero]⟩, ?_⟩
  rintro i m H ⟨hi, rfl, e, hy⟩
  have hI := hJ.stay _ _ h0 e
  by_cases hlt : i < xs.length
  · refine .inr ⟨hJ.go i H hI hlt, fun x H' hy' => ?_⟩
    obtain ⟨rfl, hx⟩ := hJ.yld i H x H' hlt hI hy'
    have hw : ws[i]? = some ws[i] := List.getElem?_eq_getElem (by omega)
    unfold tYes
    dsimp only
    rw [if_pos rfl]
    refine he i x ws[i] hx hw _ e _ fun H3 e3 => ?_
    refine ⟨ws.take i, e3 _ _ hy, by rw [List.length_take]; omega, xs.length - (i + 1), by omega, hlt, rfl, put _ _ (e.trans e3), ?_⟩
    rw [upd_same, List.take_add_one, hw]; rfl
  · have hi' : i = xs.length := by omega
    subst hi'
    refine .inl ⟨hJ.stop _ H hI (Nat.le_refl _), hQ D H hD e ?_⟩
    rw [hy, List.take_of_length_le (by omega)]
end L2
namespace L2
open PySem PySem.Spec PyProof.Rows
section
variable {κ : Type} [DecidableEq κ]
noncomputable def valV (kvs : List (κ × V)) (k : κ) : Option V := (kvs.find? fun kv => decide (kv.1 = k)).map (·.2)
noncomputable def putK (kvs : List (κ × V)) (k : κ) (v : V) : List (κ × V) :=
  if (kvs.any fun kv => decide (kv.1 = k)) = true then kvs.map (fun kv => if kv.1 = k then (kv.1, v) else kv) else kvs ++ [(k, v)]
theorem valV_pos {p : κ × V} {r : List (κ × V)} {k : κ} (e : p.1 = k) : valV (p :: r) k = some p.2 := by simp [valV, List.find?_cons, e]
theorem valV_neg {p : κ × V} {r : List (κ × V)} {k : κ} (e : ¬ p.1 = k) : valV (p :: r) k = valV r k := by simp [valV, List.find?_cons, e]
theorem valV_any (k : κ) : ∀ kvs : List (κ × V), (kvs.any fun kv => decide (kv.1 = k)) = (valV kvs k).isSome
  | [] => rfl
  | p :: r => by
    rw [List.any_cons]
    by_cases e : p.1 = k
    · simp only [valV_pos e, decide_eq_true e, Bool.true_or, Option.isSome_some]
    · rw [valV_neg e, decide_eq_false e, Bool.false_or]; exact valV_any k r
theorem length_putK (kvs : List (κ × V)) (k : κ) (v : V) : (putK kvs k v).length ≤ kvs.length + 1 := by
  unfold putK
  split
  · rw [List.length_map]; omega
  · rw [List.length_append, List.length_cons, List.length_nil]; omega
theorem putK_new {kvs : List (κ × V)} {k : κ} (v : V) (h : valV kvs k = none) : putK kvs k v = kvs ++ [(k, v)] := by
  unfold putK
  rw [valV_any, h]
  exact if_neg (by decide)
theorem RelO.isSome_eq {o : Option V} {u : Option Value} (r : RelO o u) : o.isSome = u.isSome := by
  cases o with
  | none => cases u with
    | none => rfl
    | some _ => exact (show False from r).elim
  | some _ => cases u with
    | none => exact (show False from r).elim
    | some _ => rfl
theorem KV.val {kvs : List (κ × V)} {vs : List (κ × Value)} (r : KV kvs vs) (k : κ) : RelO (valV kvs k) (valueAt vs k) := by
  unfold KV at r
  induction r with
  | nil => exact True.intro
  | @cons p q ps qs h t ih =>
    obtain ⟨h1, h2⟩ := h
    by_cases e : p.1 = k
    · have e' : q.1 = k := h1.symm.trans e
      have b : valueAt (q :: qs) k = some q.2 := by simp [valueAt, List.find?_cons, e']
      rw [valV_pos e, b]; exact h2
    · have e' : ¬ q.1 = k := fun z => e (h1.trans z)
      have b : valueAt (q :: qs) k = valueAt qs k := by simp [valueAt, List.find?_cons, e']
      rw [valV_neg e, b]; exact ih
theorem KV.any {kvs : List (κ × V)} {vs : List (κ × Value)} (r : KV kvs vs) (k : κ) : (kvs.any fun kv => decide (kv.1 = k)) = vs.any fun kv => decide (kv.1 = k) := by
  unfold KV at r
  induction r with
  | nil => rfl
  | cons h t ih => rw [List.any_cons, List.any_cons, ih, h.1]
theorem KV.repl {kvs : List (κ × V)} {vs : List (κ × Value)} (r : KV kvs vs) (k : κ) {y : V} {u : Value} (ry : RelV y u) :
    KV (kvs.map fun kv => if kv.1 = k then (kv.1, y) else kv) (vs.map fun kv => if kv.1 = k then (kv.1, u) else kv) := by
  unfold KV at r ⊢
  induction r with
  | nil => exact .nil
  | @cons p q ps qs h t ih =>
    rw [List.map_cons, List.map_cons]
    refine .cons ?_ ih
    obtain ⟨h1, h2⟩ := h
    by_cases e : p.1 = k
    · rw [if_pos e, if_pos (h1.symm.trans e)]; exact ⟨h1, ry⟩
    · rw [if_neg e, if_neg (fun z => e (h1.trans z))]; exact ⟨h1, h2⟩
theorem KV.put {kvs : List (κ × V)} {vs : List (κ × Value)} (r : KV kvs vs) (k : κ) {y : V} {u : Value} (ry : RelV y u) : KV (putK kvs k y) (stored vs k u) := by
  unfold putK stored
  rw [r.any k]
  by_cases e : (vs.any fun kv => decide (kv.1 = k)) = true
  · rw [if_pos e, if_pos e]; exact r.repl k ry
  · rw [if_neg e, if_neg e]; exact Paired.snoc r ⟨rfl, ry⟩
theorem KV.length {kvs : List (κ × V)} {vs : List (κ × Value)} (r : KV kvs vs) : kvs.length = vs.length := Paired.length r
end
theorem kV_is {P : Program} {w : World} {k : Key} {u : Value} (r : RelV (kV k) u) : (mixKind P w).is k u = true := by
  cases k with
  | inl i => obtain ⟨t, e⟩ := (show ∃ t, u = Value.int i t from r); subst e; exact mixKind_int P w i t
  | inr x => obtain ⟨t, e⟩ := (show ∃ t, u = Value.str x t from r); subst e; exact mixKind_str P w x t
theorem items_are {P : Program} {w : World} : ∀ {ks : List Key} {us : List Value}, Vals (ks.map kV) us → ItemsAre (mixKind P w) ks us
  | [], _, r => by rw [List.map_nil] at r; cases r; exact .nil
  | k :: ks, _, r => by
    rw [List.map_cons] at r
    cases r with
    | cons h t => exact .cons (kV_is h) (items_are t)
abbrev KT (H : Hp) : List (List Key × V) → List (List Key × Addr × Value) → Prop := Paired fun p q => p.1 = q.1 ∧ H q.2.1 = some (.tup (p.1.map kV)) ∧ RelV p.2 q.2.2
theorem KT.val {H : Hp} {kvs : List (List Key × V)} {xs : List (List Key × Addr × Value)} (r : KT H kvs xs) (k : List Key) : RelO (valV kvs k) ((atKey xs k).map (·.2)) := by
  induction r with
  | nil => exact True.intro
  | @cons p q ps qs h t ih =>
    obtain ⟨h1, _, h2⟩ := h
    by_cases e : p.1 = k
    · have e' : q.1 = k := h1.symm.trans e
      have b : atKey (q :: qs) k = some q.2 := by simp [atKey, List.find?_cons, e']
      rw [valV_pos e, b]; exact h2
    · have e' : ¬ q.1 = k := fun z => e (h1.trans z)
      have b : atKey (q :: qs) k = atKey qs k := by simp [atKey, List.find?_cons, e']
      rw [valV_neg e, b]; exact ih
theorem KT.repl {H : Hp} {kvs : List (List Key × V)} {xs : List (List Key × Addr × Value)} (r : KT H kvs xs) (k : List Key) {y : V} {u : Value} (ry : RelV y u) :
    KT H (kvs.map fun kv => if kv.1 = k then (kv.1, y) else kv) (xs.map (putAt k u)) := by
  induction r with
  | nil => exact .nil
  | @cons p q ps qs h t ih =>
    rw [List.map_cons, List.map_cons]
    refine .cons ?_ ih
    obtain ⟨h1, h2, h3⟩ := h
    unfold putAt
    by_cases e : p.1 = k
    · rw [if_pos e, if_pos (h1.symm.trans e)]; exact ⟨h1, h2, ry⟩
    · rw [if_neg e, if_neg (fun z => e (h1.trans z))]; exact ⟨h1, h2, h3⟩
theorem KT.put {H : Hp} {kvs : List (List Key × V)} {xs : List (List Key × Addr × Value)} (r : KT H kvs xs) (k : List Key) {b : Addr} {y : V} {u : Value} (hb : H b = some (.tup (k.map kV))) (ry : RelV y u) :
    KT H (putK kvs k y) (storedH xs k b u) := by
  have e : (kvs.any fun kv => decide (kv.1 = k)) = (atKey xs k).isSome := by
    rw [valV_any, (r.val k).isSome_eq, Option.isSome_map]
  unfold putK storedH
  rw [e]
  by_cases q : (atKey xs k).isSome = true
  · rw [if_pos q, if_pos q]; exact r.repl k ry
  · rw [if_neg q, if_neg q]; exact Paired.snoc r ⟨rfl, hb, ry⟩
theorem KT.keeps {H H' : Hp} {kvs : List (List Key × V)} {xs : List (List Key × Addr × Value)} (r : KT H kvs xs) (ht : ∀ b ys, H b = some (.tup ys) → H' b = some (.tup ys)) : KT H' kvs xs :=
  Paired.mapP r fun _ _ z => ⟨z.1, ht _ _ z.2.1, z.2.2⟩
section
variable {P : Program} {w : World} {H : Hp} {h : Heap} {a : Addr}
theorem rd_of {u : HO} (ok : HOk P w H h) (e : Rd H a u) : ObjOk P w H h a u := e.ok ok
theorem dk_rd {kvs : List (Key × V)} (ok : HOk P w H h) (e : Rd H a (.dK kvs)) : kvs.length ≤ sizeLine ∧ (a == sysModules) = false ∧ ∃ vs, KV kvs vs ∧ h.DictOf (mixKind P w) a vs :=
  show ObjOk P w H h a (.dK kvs) from rd_of ok e
theorem dk_of {kvs : List (Key × V)} (ok : HOk P w H h) (e : H a = some (.dK kvs)) : kvs.length ≤ sizeLine ∧ (a == sysModules) = false ∧ ∃ vs, KV kvs vs ∧ h.DictOf (mixKind P w) a vs := dk_rd ok (.inl e)
theorem key_of {ks : List Key} (ok : HOk P w H h) (e : H a = some (.tup (ks.map kV))) : (tupleKind (mixKind P w)).is h ks a := by
  obtain ⟨_, its, r, o, h1, h2, n, h3⟩ := (show ObjOk P w H h a (.tup (ks.map kV)) from ok a _ e)
  exact ⟨o, its.toArray, n, h1, h2, h3, by simpa using items_are r⟩
theorem dt_rd {kvs : List (List Key × V)} (ok : HOk P w H h) (e : Rd H a (.dT kvs)) : kvs.length ≤ sizeLine ∧ (a == sysModules) = false ∧
    ∃ xs, KT H kvs xs ∧ h.DictOfH (tupleKind (mixKind P w)) a xs := by
  obtain ⟨z, y, xs, r, o, es, ep, h1, h2, h3, h4, h5⟩ := (show ObjOk P w H h a (.dT kvs) from rd_of ok e)
  refine ⟨z, y, xs, r, o, es, ep, h1, h2, h3, h4, fun x hx => ?_, h5⟩
  have all : ∀ {l : List (List Key × V)} {m : List (List Key × Addr × Value)}, KT H l m → ∀ x ∈ m, (tupleKind (mixKind P w)).is h x.1 x.2.1 := by
    intro l m q
    induction q with
    | nil => intro x hx; exact nomatch hx
    | @cons p q ps qs hq t ih =>
      intro x hx
      rcases List.mem_cons.mp hx with e | hx
      · subst e
        exact key_of ok (by rw [← hq.1]; exact hq.2.1)
      · exact ih x hx
  exact all r x hx
theorem dt_of {kvs : List (List Key × V)} (ok : HOk P w H h) (e : H a = some (.dT kvs)) : kvs.length ≤ sizeLine ∧ (a == sysModules) = false ∧
    ∃ xs, KT H kvs xs ∧ h.DictOfH (tupleKind (mixKind P w)) a xs := dt_rd ok (.inl e)
end
noncomputable def DGet (H : Hp) (a : Addr) (y : V) (r : Option V) : Prop :=
  (∃ kvs k, Rd H a (.dK kvs) ∧ y = kV k ∧ r = valV kvs k) ∨ ∃ kvs k b, Rd H a (.dT kvs) ∧ y = .ref b ∧ H b = some (.tup (k.map kV)) ∧ r = valV kvs k
noncomputable def DPut (H : Hp) (a : Addr) (y v : V) (H' : Hp) : Prop :=
  (∃ kvs k, H a = some (.dK kvs) ∧ y = kV k ∧ kvs.length < sizeLine ∧ H' = upd H a (.dK (putK kvs k v))) ∨
  ∃ kvs k b, H a = some (.dT kvs) ∧ y = .ref b ∧ H b = some (.tup (k.map kV)) ∧ kvs.length < sizeLine ∧ H' = upd H a (.dT (putK kvs k v))
theorem DGet.k {H : Hp} {a : Addr} {kvs : List (Key × V)} {k : Key} (e : H a = some (.dK kvs)) : DGet H a (kV k) (valV kvs k) := .inl ⟨kvs, k, .inl e, rfl, rfl⟩
theorem DGet.t {H : Hp} {a b : Addr} {kvs : List (List Key × V)} {k : List Key} (e : H a = some (.dT kvs)) (eb : H b = some (.tup (k.map kV))) : DGet H a (.ref b) (valV kvs k) := .inr ⟨kvs, k, b, .inl e, rfl, eb, rfl⟩
section
variable {X : Cx} {pins : List (Addr × Obj)} {σ : St} {H : Hp} {s : Shared} {a : Addr} {y v : V} {u r : Value} {o : Option V} {A : Around} {E : Value → Shared → Prop}
theorem Inv.big (I : Inv X pins σ H s) : sysModules < s.heap.objs.size := by
  have h : mainGlobals < s.heap.objs.size := (I.mod.glob.keeps I.bk).lt
  exact Nat.lt_trans (by decide) h
theorem d_getItem {Q : Value → Shared → Prop} (hu : A.units + 1 < cLine) (I : Inv X pins σ H s) (g : DGet H a y (some v)) (ry : RelV y u) (h : ∀ w' s', Inv X pins σ H s' → RelV v w' → Q w' s') :
    wpAny (model X.prog X.w) A (getItem (.ref a) u) Q E s := by
  rcases g with ⟨kvs, k, e, ey, l⟩ | ⟨kvs, k, b, e, ey, eb, l⟩
  · subst ey
    obtain ⟨z, hd, vs, rel, dd⟩ := dk_rd I.hok e
    obtain ⟨w', hw, rw'⟩ := RelO.some_of (v := v) (o := valueAt vs k) (by rw [l]; exact rel.val k)
    exact wpAny_getItem_of (kV_is ry) dd.mapOf hw (h w' _ (I.tok _) rw')
  · subst ey
    cases (show u = Value.ref b from ry)
    obtain ⟨z, hd, xs, rel, dd⟩ := dt_rd I.hok e
    obtain ⟨w', hw, rw'⟩ := RelO.some_of (v := v) (o := (atKey xs k).map (·.2)) (by rw [l]; exact rel.val k)
    obtain ⟨p, hp, hp2⟩ := Option.map_eq_some_iff.mp hw
    refine wpAny_getItem_heap (tupleKind_room_in1 hu) (key_of I.hok eb) dd hp ?_
    rw [hp2]
    exact h w' _ (I.tok _) rw'
theorem d_write {h' : Heap} {t' : Nat} {ob : HO} (I : Inv X pins σ H s) (mu : Mut (H a)) (hs : Heap.SameBut a s.heap h') (he : ∃ q, h'.get? a = some q) (new : ObjOk X.prog X.w (upd H a ob) h' a ob) :
    Inv X pins σ (upd H a ob) { s with heap := h', toks := t' } :=
  I.write (x := a) (e := a) mu (.inl rfl) (fun b q hb z => (hs.2 b hb).trans z) he new
theorem dk_new {P : Program} {w : World} {H' : Hp} {h' : Heap} {kvs : List (Key × V)} {vs : List (Key × Value)} (z : kvs.length ≤ sizeLine) (hd : (a == sysModules) = false) (rel : KV kvs vs) (dd : h'.DictOf (mixKind P w) a vs) :
    ObjOk P w H' h' a (.dK kvs) := ⟨z, hd, vs, rel, dd⟩
theorem d_setItem {H' : Hp} {Q : Unit → Shared → Prop} (hu : A.units + 1 < cLine) (I : Inv X pins σ H s) (g : DPut H a y v H') (ry : RelV y u) (rv : RelV v r) (h : ∀ s', Inv X pins σ H' s' → Q () s') :
    wpAny (model X.prog X.w) A (setItem (.ref a) u r) Q E s := by
  rcases g with ⟨kvs, k, e, ey, l, eH⟩ | ⟨kvs, k, b, e, ey, eb, l, eH⟩
  · subst ey eH
    obtain ⟨z, hd, vs, rel, dd⟩ := dk_of I.hok e
    have hz : vs.length ≤ sizeLine := by rw [← rel.length]; exact z
    have hl : (putK kvs k v).length ≤ sizeLine := by have := length_putK kvs k v; omega
    refine wpAny_setItem_pairs (hsz := hz) (kV_is ry) dd fun h' dd' hs => h _ ?_
    have he : ∃ q, h'.get? a = some q := let ⟨q, _, _, hq, _⟩ := dd'; ⟨q, hq⟩
    exact d_write I (by rw [e]; exact True.intro) hs he (dk_new hl hd (rel.put k rv) dd')
  · subst ey eH
    cases (show u = Value.ref b from ry)
    obtain ⟨z, hd, xs, rel, dd⟩ := dt_of I.hok e
    have hz : xs.length ≤ sizeLine := by rw [← Paired.length rel]; exact z
    have hl : (putK kvs k v).length ≤ sizeLine := by have := length_putK kvs k v; omega
    refine wpAny_setItem_heap (hsz := hz) (tupleKind_room_in1 hu) (key_of I.hok eb) dd fun h' dd' hs => h _ ?_
    obtain ⟨q, es, ep, hq, h2, h3, h4, _, h5⟩ := dd'
    refine d_write I (by rw [e]; exact True.intro) hs ⟨q, hq⟩ ⟨hl, hd, _, (rel.put k eb rv).keeps fun c ys ec => ?_, q, es, ep, hq, h2, h3, h4, h5⟩
    rw [upd_ne (ne_of ec e (fun z => nomatch z))]
    exact ec
end
section
variable {X : Cx} {pins : List (Addr × Obj)} {σ : St} {H : Hp} {s : Shared} {a : Addr} {kvs : List (Key × V)} {k : Key} {u : Value} {A : Around} {E : Value → Shared → Prop}
end
noncomputable def NoSl (i : Expr) : Prop := ∀ ov iv, subscripted i false ov iv = operate [ov, iv] (getItem ov iv)
theorem subD_of {prog : Program} {w : World} {A : Around} {E : Value → Shared → Prop} {s : Shared} {env : Env} {value slice : Expr} {pos : Pos} {T id : String} {Q : Value → Shared → Prop}
    (hl : typeLookup (.type T) "__getitem__" = pure (some (.builtin id))) (hs : NoSl slice)
    (h : wpAny (model prog w) A (eval value env) (fun o s₁ => wpAny (model prog w) A (eval slice env) (fun i s₂ => s₂.TypeIs o T ∧ wpAny (model prog w) A (getItem o i) Q E s₂) E s₁) E s) :
    wpAny (model prog w) A (eval (.Subscript value slice pos) env) Q E s := by
  refine Subscript_ (wpAny_mono h (fun o s₁ h₁ => wpAny_mono h₁ (fun i s₂ h₂ => ?_) fun _ _ x => x) fun _ _ x => x)
  obtain ⟨hT, h₂⟩ := h₂
  unfold subscriptTail
  refine wpAny_bind ?_
  rw [getitemInPython_of_ne hT.not_modules]
  refine wpAny_bind (wpAny_specialOf hT hl ?_)
  have fin : wpAny (model prog w) A (subscripted slice false o i) (fun r s₃ => wpAny (model prog w) A (letTemporaryGo value o r >>= fun _ => pure r) Q E s₃) E s₂ := by
    rw [hs o i]
    exact wpAny_operating (wpAny_mono h₂ (fun r s₃ h₃ => wpAny_bind (wpAny_letTemporaryGo (wpAny_pure h₃))) fun _ _ x => x)
  first
    | exact wpAny_pure (wpAny_bind fin)
    | exact wpAny_bind (wpAny_pure (wpAny_bind fin))
    | exact wpAny_bind fin
theorem dict_typeIs {X : Cx} {pins : List (Addr × Obj)} {σ : St} {H : Hp} {s : Shared} {a : Addr} {y : V} {o : Option V} (I : Inv X pins σ H s) (g : DGet H a y o) : s.TypeIs (.ref a) "dict" := by
  rcases g with ⟨kvs, k, e, _, _⟩ | ⟨kvs, k, b, e, _, _, _⟩
  · obtain ⟨_, _, vs, _, dd⟩ := dk_rd I.hok e
    exact dd.typeIs
  · obtain ⟨_, _, xs, _, dd⟩ := dt_rd I.hok e
    exact dd.typeIs
noncomputable def tDGet (td ty : TE) : TE := fun σ H Q => td σ H fun x H1 => ty σ H1 fun y H2 => ∃ a v, x = .ref a ∧ DGet H2 a y (some v) ∧ Q v H2
noncomputable def sDPut (td ty tv : TE) : TS := fun D σ H => tv σ H fun v H1 => td σ H1 fun x H2 => ty σ H2 fun y H3 => ∃ a H4, x = .ref a ∧ DPut H3 a y v H4 ∧ D.nx σ H4
section
variable {X : Cx} {o i e value : Expr} {pos pos' tpos : Pos} {td ty tv : TE}
theorem pe_dget (hu : X.A.units + 1 < cLine) (ho : PE X o td) (hi : PE X i ty) (hs : NoSl i) : PE X (.Subscript o i pos) (tDGet td ty) := by
  intro pins s σ H Q I h
  refine subD_of PySem.F.slot_dict_getitem.lookup hs (thn (ho pins s σ H _ I h) fun u s1 ⟨x, H1, I1, rx, q1⟩ => thn (hi pins s1 σ H1 _ I1 q1) fun iv s2 ⟨y, H2, I2, ry, a, v, ex, g, q2⟩ => ?_)
  subst ex
  obtain rfl : u = Value.ref a := rx
  exact ⟨dict_typeIs I2 g, d_getItem hu I2 g ry fun w' s3 I3 rw' => ⟨v, H2, I3, rw', q2⟩⟩
theorem ps_dput (hu : X.A.units + 1 < cLine) (ho : PE X o td) (hi : PE X i ty) (hv : PE X value tv) (hs : swapsWith value (some (.Subscript o i pos')) pos.line X.env = pure false) :
    PS X (.Assign [.Subscript o i pos'] value pos) (sDPut td ty tv) := by
  intro pins s σ H D I h
  refine wpAny_Assign_Subscript (thn (hv pins s σ H _ I h) fun r s1 ⟨v, H1, I1, rv, q1⟩ => thn (ho pins s1 σ H1 _ I1 q1) fun u s2 ⟨x, H2, I2, rx, q2⟩ => thn (hi pins s2 σ H2 _ I2 q2) fun iv s3 ⟨y, H3, I3, ry, a, H4, ex, g, q3⟩ => ?_) hs
  subst ex
  obtain rfl : u = Value.ref a := rx
  exact d_setItem hu I3 g ry rv fun s4 I4 => ⟨σ, H4, I4, q3⟩
end
theorem dk_empty {P : Program} {w : World} {H : Hp} (h : Heap) (hb : sysModules < h.objs.size) : ObjOk P w H (h.push { cls := .type "dict", data := .dict #[] }) h.objs.size (.dK []) :=
  ⟨Nat.zero_le _, beq_eq_false_iff_ne.mpr (Ne.symm (Nat.ne_of_lt hb)), [], .nil, Heap.DictOf.new h⟩
theorem dt_empty {P : Program} {w : World} {H : Hp} (h : Heap) (hb : sysModules < h.objs.size) : ObjOk P w H (h.push { cls := .type "dict", data := .dict #[] }) h.objs.size (.dT []) :=
  ⟨Nat.zero_le _, beq_eq_false_iff_ne.mpr (Ne.symm (Nat.ne_of_lt hb)), [], .nil, _, #[], 0, Heap.get?_push_size _ rfl, ⟨rfl, rfl, rfl⟩, rfl, rfl, List.nodup_nil⟩
section
variable {X : Cx} {pos : Pos}
end
section
variable {X : Cx} {pins : List (Addr × Obj)} {σ : St} {H : Hp} {s : Shared} {a : Addr} {y d : V} {u r : Value} {o : Option V} {A : Around} {E : Value → Shared → Prop}
end
section
variable {X : Cx} {o e f : Expr} {apos cpos : Pos} {td ty tx : TE}
end
section
variable {X : Cx} {pins : List (Addr × Obj)} {σ : St} {H : Hp} {s : Shared} {a : Addr} {kvs : List (Key × V)} {A : Around} {E : Value → Shared → Prop}
end
section
variable {X : Cx} {pins : List (Addr × Obj)} {σ : St} {H : Hp} {s : Shared} {a : Addr} {y : V} {u : Value} {A : Around} {E : Value → Shared → Prop}
end
section
variable {X : Cx}
end
section
variable {κ : Type} [DecidableEq κ]
end
end L2
namespace L2
open PySem PySem.Spec PyProof.Rows
section
variable {X : Cx}
end
end L2
namespace L2
open PySem PySem.Spec PyProof.Rows
section
variable {X : Cx} {es es1 : List Expr} {t t1 : TA} {te : TE} {x : Str} {j : Nat} {pos pos2 : Pos}
theorem pa_str {j} (hr : PA X es t) : PA X (.Constant (.str x) j pos :: es) (tCons (tC (.str x)) t) := pa_cons pe_str hr rfl
theorem pa_int {i : Int} {j} (hr : PA X es t) : PA X (.Constant (.int i) j pos :: es) (tCons (tC (.int i)) t) := pa_cons pe_int hr rfl
theorem pa_bl {b : Bool} {j} (hr : PA X es t) : PA X (.Constant (.bool b) j pos :: es) (tCons (tC (.bl b)) t) := pa_cons pe_bl hr rfl
theorem pa_nm (h : PE X (.Name x pos) te) (hr : PA X es t) : PA X (.Name x pos :: es) (tCons te t) := pa_cons h hr rfl
theorem pa_tp {x1} (h : PA X es1 t1) (hr : PA X es t) : PA X (.Tuple es1 x1 pos :: es) (tCons (tTup t1) t) := pa_cons (pe_tup h) hr rfl
theorem pa_ls (h : PA X es1 t1) (hr : PA X es t) : PA X (.List es1 pos :: es) (tCons (tLst t1) t) := pa_cons (pe_lst h) hr rfl
theorem pa_sub {a b : Expr} (h : PE X (.Subscript a b pos) te) (hr : PA X es t) : PA X (.Subscript a b pos :: es) (tCons te t) := pa_cons h hr rfl
theorem pa_call {f : Expr} {as : List Expr} {ks : List Keyword} (h : PE X (.Call f as ks pos) te) (hr : PA X es t) : PA X (.Call f as ks pos :: es) (tCons te t) := pa_cons h hr rfl
theorem pa_bop {a b : Expr} {op : Operator} (h : PE X (.BinOp a op b pos) te) (hr : PA X es t) : PA X (.BinOp a op b pos :: es) (tCons te t) := pa_cons h hr rfl
end
end L2
namespace L2
open PySem PySem.Spec PyProof.Rows
structure QE (X : Cx) (e : Expr) (t : TE) : Prop where
  run : PE X e t
structure QT (X : Cx) (e : Expr) (t : TT) : Prop where
  run : PT X e t
structure QW (X : Cx) (e : Expr) (t : TT) : Prop where
  run : PW X e t
structure QA (X : Cx) (es : List Expr) (t : TA) : Prop where
  run : PA X es t
structure QS (X : Cx) (st : Stmt) (t : TS) : Prop where
  run : PS X st t
structure QB (X : Cx) (st : List Stmt) (t : TS) : Prop where
  run : PSs X st t
structure QI (X : Cx) (tg iter : Expr) (wi : TI) : Prop where
  run : PI X tg iter wi
structure QG (X : Cx) (target : Expr) (t : TG) : Prop where
  run : PG X target t
structure QO (X : Cx) (e : Option Expr) (t : TO) : Prop where
  run : PO X e t
structure QTs (X : Cx) (ifs : List Expr) (t : TT) : Prop where
  run : PTs X ifs t
theorem QW.qt {X : Cx} {e : Expr} {t : TT} (h : QW X e t) : QT X e t := ⟨PW.pt h.run⟩
section
variable {st : Stmt} {id : String} {lo hi : Option Expr}
set_option autoImplicit true
set_option relaxedAutoImplicit true
theorem qb_nil  : QB X [] tNext := ⟨pss_nil ⟩
theorem qb_cons {rest : List Stmt} (h1 : QS X st t) (h2 : QB X rest u) : QB X (st :: rest) (tSeq t u) := ⟨pss_cons h1.run h2.run⟩
theorem qb_one (h1 : QS X st t) : QB X [st] t := ⟨pss_one h1.run⟩
theorem qs_if {c : Expr} {a b : List Stmt} {tc : TT} (hc : QT X c tc) (ha : QB X a t) (hb : QB X b u) : QS X (.If c a b pos) (tIfS tc t u) := ⟨ps_if hc.run ha.run hb.run⟩
theorem qs_set {i : Nat} {x : Str} {e : Expr} {te : TE} {pos' : Pos} (hN : X.N.Nodup) (hi : X.N[i]? = some x) (hx : Loc X.env.scope x) (he : QE X e te) (hs : swapsWith e (some (.Name x pos')) pos.line X.env = pure false := by rfl) (hf : X.fn x = true ∨ X.env.scope.names.lookup x = some .local := by first | exact .inl rfl | exact .inr rfl | assumption) :     QS X (.Assign [.Name x pos'] e pos) (tAsg te (gName i)) := ⟨ps_set hN hi hx he.run hs hf⟩
theorem qs_ret (he : QE X e te) : QS X (.Return (some e) pos) (tRet te) := ⟨ps_ret he.run⟩
theorem qs_expr (he : QE X e te) (hs : swapsWith e none pos.line X.env = pure false := by rfl) : QS X (.Expr e pos) (tDrop te) := ⟨ps_expr he.run hs⟩
theorem qs_for {iter : Expr} {body : List Stmt} {wi : TI} {g : TG} {tb : TS} {pos : Pos} (hp : PassesOwn (model X.prog X.w) X.A X.env X.xe) (hc : X.calm = true) (hi : QI X tg iter wi) (hg : QG X tg g) (hb : QB X body tb) (hs : ∀ x, foldedSetIterable iter X.env x = pure x := by intro _; rfl) : QS X (.For tg iter body [] pos) (tFor wi g tb) := ⟨ps_for hp hc hi.run hg.run hb.run hs⟩
theorem qs_asg {tg e : Expr} {te : TE} {g : TG} (he : QE X e te) (hg : QG X tg g) (hs : swapsWithSole [tg] e pos.line X.env = pure false := by rfl) (hw : swappedStores [tg] e X.env = pure none := by rfl) (h1 : (assignEach [tg] X.env).map (·.2) = [assign tg X.env] := by rfl) : QS X (.Assign [tg] e pos) (tAsg te g) := ⟨ps_asg he.run hg.run hs hw h1⟩
theorem qe_int {i j pos} : QE X (.Constant (.int i) j pos) (tC (.int i)) := ⟨pe_int ⟩
theorem qe_bl {b j pos} : QE X (.Constant (.bool b) j pos) (tC (.bl b)) := ⟨pe_bl ⟩
theorem qe_non {j pos} : QE X (.Constant .none j pos) (tC .non) := ⟨pe_non ⟩
theorem qe_str {x j pos} : QE X (.Constant (.str x) j pos) (tC (.str x)) := ⟨pe_str ⟩
theorem qv (i : Nat) {x : Str} {pos : Pos} (hN : X.N[i]? = some x := by rfl) (hv : Vis X.env.scope x := by first | exact Or.inl rfl | exact Or.inr (Or.inl rfl) | exact Or.inr (Or.inr rfl)) (hd : (x == ("__debug__" : Str)) = false := by decide) (hcd : (x == ("__classdict__" : Str)) = false := by decide) : QE X (.Name x pos) (tVar i) := ⟨pv i hN hv hd hcd⟩
theorem qe_g {X : Cx} {x : Str} {v : V} {pos : Pos} (h : Glob X.mg x v) (hg : Gl X x := by rfl) (hd : (x == ("__debug__" : Str)) = false := by decide) : QE X (.Name x pos) (tC v) := ⟨pe_g h hg hd⟩
theorem qe_op {op : Operator} {r : R2} (ho : OpR X (binaryOp op) r) (ha : QE X a ta) (hb : QE X b tb) : QE X (.BinOp a op b pos) (tOp r ta tb) := ⟨pe_op ho ha.run hb.run⟩
theorem qe_cmpR {op : CmpOp} {r : R2} (ho : OpR X (compareOp op) r) (ha : QE X a ta) (hb : QE X b tb) (hm : behindInMarks op b = false) : QE X (.Compare a [op] [b] pos) (tOp r ta tb) := ⟨pe_cmpR ho ha.run hb.run hm⟩
theorem qt_cmpR {op : CmpOp} {r : R2} (ho : OpR X (compareOp op) r) (ha : QE X a ta) (hb : QE X b tb) (hm : behindInMarks op b = false) : QT X (.Compare a [op] [b] pos) (tTest (tOp r ta tb)) := ⟨pt_cmpR ho ha.run hb.run hm⟩
theorem qt_val {e : Expr} {t : TE} (h : QE X e t) (he : ∀ whole, isTrue e X.env whole = (do let v ← whole; standAt e.pos; holding [v] (truthy v)) := by intro _; rfl) : QT X e (tB t) := ⟨pt_val h.run he⟩
theorem qt_not (ha : QT X a tA) : QT X (.UnaryOp .Not a pos) (tNot tA) := ⟨pt_not ha.run⟩
theorem qw_and1 (ha : QT X a tA) : QW X (.BoolOp .And [a] pos) tA := ⟨pw_and1 ha.run⟩
theorem qw_or1 (ha : QT X a tA) : QW X (.BoolOp .Or [a] pos) tA := ⟨pw_or1 ha.run⟩
theorem qw_and {rest : List Expr} (ha : QT X a tA) (hb : QW X (.BoolOp .And (b :: rest) pos) tB') : QW X (.BoolOp .And (a :: b :: rest) pos) (tAnd tA tB') := ⟨pw_and ha.run hb.run⟩
theorem qw_or {rest : List Expr} (ha : QT X a tA) (hb : QW X (.BoolOp .Or (b :: rest) pos) tB') : QW X (.BoolOp .Or (a :: b :: rest) pos) (tOr tA tB') := ⟨pw_or ha.run hb.run⟩
theorem qe_one {op} {t : TE} (h : QE X a t) : QE X (.BoolOp op [a] pos) t := ⟨pe_one h.run⟩
theorem qe_and {rest : List Expr} (ha : QE X a ta) (hb : QE X (.BoolOp .And (b :: rest) pos) tb) : QE X (.BoolOp .And (a :: b :: rest) pos) (tAndV ta tb) := ⟨pe_and ha.run hb.run⟩
theorem qe_ifExp {c : Expr} (hc : QT X c tA) (ha : QE X a ta) (hb : QE X b tb) : QE X (.IfExp c a b pos) (tIf tA ta tb) := ⟨pe_ifExp hc.run ha.run hb.run⟩
theorem qe_ix {r : R2} (hr : IxR X r) (ha : QE X a ta) (hb : QE X b tb) (hs : PlainIx b) : QE X (.Subscript a b pos) (tOp r ta tb) := ⟨pe_ix hr ha.run hb.run hs⟩
theorem qe_slice {r : V → Option Int → Option Int → Hp → VK → Prop} (hr : SlR X r) (he : QE X e te) (hl : QO X lo tl) (hu : QO X hi th) : QE X (.Subscript e (.Slice lo hi none p2) pos) (tSl r te tl th) := ⟨pe_slice hr he.run hl.run hu.run⟩
theorem qo_none  : QO X none tNoPart := ⟨po_none ⟩
theorem qo_some (h : QE X e te) : QO X (some e) (tPart te) := ⟨po_some h.run⟩
theorem qe_tup {x1} (h : QA X es t) : QE X (.Tuple es x1 pos) (tTup t) := ⟨pe_tup h.run⟩
theorem qe_lst (h : QA X es t) : QE X (.List es pos) (tLst t) := ⟨pe_lst h.run⟩
theorem qe_call (F : FnOk X.prog X.w X.K X.mg X.base CX k f fd ps sp) (hr : Room k X.A) (hg : Gl X x) (hm : X.mg x = some (.ref f)) (hk : PySem.W.keepIn X.K (.ref f) = true) (hb : Binds X.K fd ps ds) (hd : Vals dvs ds) (hx : Passes CX X E) (ha : QA X (e :: es) t) (hdb : (x == ("__debug__" : Str)) = false := by decide) (he : starEach (e :: es) X.env = (false, eval e X.env) :: starEach es X.env := by rfl) (hpl : (backTo pos (starEach es X.env)).any (·.1) = false := by rfl) :     QE X (.Call (.Name x p) (e :: es) [] pos) (tCall sp dvs E t) := ⟨pe_call F hr hg hm hk hb hd hx ha.run hdb he hpl⟩
theorem qe_callB (hc : CallR X (.builtin id) r) (hg : Gl X x) (hm : X.mg x = none) (hv : bootBuiltins x = some (.builtin id)) (ha : QA X (e :: es) t) (hn : x ≠ "__name__" := by decide) (hdb : (x == ("__debug__" : Str)) = false := by decide) (he : starEach (e :: es) X.env = (false, eval e X.env) :: starEach es X.env := by rfl) (hpl : (backTo pos (starEach es X.env)).any (·.1) = false := by rfl) : QE X (.Call (.Name x p) (e :: es) [] pos) (tCB r t) := ⟨pe_callB hc hg hm hv ha.run hn hdb he hpl⟩
theorem qe_callTy (hc : CallR X (.type T) r) (hg : Gl X x) (hm : X.mg x = none) (hv : bootBuiltins x = some (.type T)) (ha : QA X (e :: es) t) (hn : x ≠ "__name__" := by decide) (hdb : (x == ("__debug__" : Str)) = false := by decide) (he : starEach (e :: es) X.env = (false, eval e X.env) :: starEach es X.env := by rfl) (hpl : (backTo pos (starEach es X.env)).any (·.1) = false := by rfl) : QE X (.Call (.Name x p) (e :: es) [] pos) (tCB r t) := ⟨pe_callTy hc hg hm hv ha.run hn hdb he hpl⟩
theorem qe_bm0 (pa : PlainAttrs T) (slot : Slot T name id) (hty : typeOf (.builtin id) = pure (.type "method_descriptor")) (hm : MtR X id r) (ho : QE X o to) (hbase : attributeBase o name X.env (eval o X.env) = eval o X.env := by rfl) (hline : (apos.endLine == cpos.line) = true := by rfl) : QE X (.Call (.Attribute o name apos) [] [] cpos) (tBM0 X.K T r to) := ⟨pe_bm0 pa slot hty hm ho.run hbase hline⟩
theorem qe_comp0 {X : Cx} {elt iter : Expr} {x : Str} {px pos : Pos} {ifs : List Expr} {sc : Scope} {wi : TI} {tc : TT} {te : TE} (hi : QI X (.Name x px) iter wi) (hif : ∀ s H C ex, QTs (blk X [x] s H sc [] C ex) ifs tc) (he : ∀ s H C ex, QE (blk X [x] s H sc [] C ex) elt te) (hc : X.calm = true := by rfl) (hkind : sc.kind = .function := by rfl) (hx : sc.names.lookup x = some .local := by decide +kernel) (hfree : ∀ y ∈ sc.names, y.2 ≠ .free := by decide +kernel) (hcell : ∀ y ∈ sc.names, y.2 ≠ .cell := by decide +kernel) (hnames : ∀ y ∈ sc.names, y.2 = .local → sc.names.lookup y.1 = some .local := by decide +kernel) (hs : ∀ x, foldedSetIterable iter X.env x = pure x := by intro _; rfl) :     QE X (.ListComp elt [⟨.Name x px, iter, ifs, 0⟩] sc pos) (tComp [] wi tc te) := ⟨pe_comp0 hi.run (fun z0 z1 z2 z3 => (hif z0 z1 z2 z3).run) (fun z0 z1 z2 z3 => (he z0 z1 z2 z3).run) hc hkind hx hfree hcell hnames hs⟩
theorem qi_list {l : Expr} {tl : TE} (hl : QE X l tl) : QI X tg l (iList X.K tl) := ⟨pi_list hl.run⟩
theorem qi_tup {l : Expr} {tl : TE} (hl : QE X l tl) : QI X tg l (iTup X.K tl) := ⟨pi_tup hl.run⟩
theorem qi_str {l : Expr} {tl : TE} (hl : QE X l tl) : QI X tg l (iStr tl) := ⟨pi_str hl.run⟩
theorem qi_range1 {a : Expr} {ta : TA} {p pos : Pos} (hg : Gl X "range") (hm : X.mg "range" = none) (ha : QA X [a] ta) (hs : starEach [a] X.env = [(false, eval a X.env)] := by rfl) : QI X tg (.Call (.Name "range" p) [a] [] pos) (iRng1 ta) := ⟨pi_range1 hg hm ha.run hs⟩
theorem qg_name {i : Nat} {x : Str} (hN : X.N.Nodup) (hi : X.N[i]? = some x) (hx : Loc X.env.scope x) (hf : X.fn x = true ∨ X.env.scope.names.lookup x = some .local := by first | exact .inl rfl | exact .inr rfl | assumption) : QG X (.Name x pos) (gName i) := ⟨pg_name hN hi hx hf⟩
theorem qa_nil  : QA X [] tNil := ⟨pa_nil ⟩
theorem qa_cons (ha : QE X e te) (hr : QA X es t) (hs : starEach (e :: es) X.env = (false, eval e X.env) :: starEach es X.env := by rfl) : QA X (e :: es) (tCons te t) := ⟨pa_cons ha.run hr.run hs⟩
theorem qa_str {j} (hr : QA X es t) : QA X (.Constant (.str x) j pos :: es) (tCons (tC (.str x)) t) := ⟨pa_str hr.run⟩
theorem qa_int {i : Int} {j} (hr : QA X es t) : QA X (.Constant (.int i) j pos :: es) (tCons (tC (.int i)) t) := ⟨pa_int hr.run⟩
theorem qa_bl {b : Bool} {j} (hr : QA X es t) : QA X (.Constant (.bool b) j pos :: es) (tCons (tC (.bl b)) t) := ⟨pa_bl hr.run⟩
theorem qa_nm (h : QE X (.Name x pos) te) (hr : QA X es t) : QA X (.Name x pos :: es) (tCons te t) := ⟨pa_nm h.run hr.run⟩
theorem qa_tp {x1} (h : QA X es1 t1) (hr : QA X es t) : QA X (.Tuple es1 x1 pos :: es) (tCons (tTup t1) t) := ⟨pa_tp h.run hr.run⟩
theorem qa_ls (h : QA X es1 t1) (hr : QA X es t) : QA X (.List es1 pos :: es) (tCons (tLst t1) t) := ⟨pa_ls h.run hr.run⟩
theorem qa_sub {a b : Expr} (h : QE X (.Subscript a b pos) te) (hr : QA X es t) : QA X (.Subscript a b pos :: es) (tCons te t) := ⟨pa_sub h.run hr.run⟩
theorem qa_call {f : Expr} {as : List Expr} {ks : List Keyword} (h : QE X (.Call f as ks pos) te) (hr : QA X es t) : QA X (.Call f as ks pos :: es) (tCons te t) := ⟨pa_call h.run hr.run⟩
theorem qa_bop {a b : Expr} {op : Operator} (h : QE X (.BinOp a op b pos) te) (hr : QA X es t) : QA X (.BinOp a op b pos :: es) (tCons te t) := ⟨pa_bop h.run hr.run⟩
theorem qts_nil {X : Cx} : QTs X [] tYes := ⟨pts_nil ⟩
theorem qts_one {X : Cx} {c : Expr} {t : TT} (h : QT X c t) : QTs X [c] t := ⟨pts_one h.run⟩
end
theorem Fun.okQ {P : Program} {w : World} {K : PySem.W.Frag} {mg : Str → Option Value} {base : Heap} {x qual : Str} {st : Stmt} {f : Addr} {fd : FuncData} {N ps : List Str} {k : Nat} {sp : Sp} (F : Fun K x qual st f fd) (S : FnScope N ps (defScope st)) (len : ∀ vs H Q E, sp vs H Q E → vs.length = ps.length)
    (hbody : ∀ (cdv : Value) (A : Around) (outer : List Env) (s : Shared) (H : Hp) (vs : List V) (Q : VK) (E : XK), Room k (A.deeper (envOfC qual (defScope st) s.heap.objs.size f cdv)) → sp vs H Q E →
      ∃ t, QB (cxOf CX0 P w K mg base N qual (defScope st) f cdv A outer s H E).nox (defBody st) t ∧ t { nx := fun _ H' => Q .non H', rt := Q } (start N vs) H) : FnOk P w K mg base CX0 (k + 1) f fd ps sp :=
  F.ok S len fun cdv A outer s H vs Q E hr h => by
    obtain ⟨t, h1, h2⟩ := hbody cdv A outer s H vs Q E hr h
    exact ⟨t, h1.run, h2⟩
end L2
namespace L2
open PySem PySem.Spec PyProof.Rows
section
variable {X : Cx} {st : Stmt} {t : TS} {e : Expr} {te : TE}
end
theorem comp_str {α : Type} {J : It} {H1 : Hp} {σ : St} {ix : List Nat} {te : TE} {Q : VK} {I0 : Hp → Prop} (xs : List V) (rs : List α) (f : α → Str) (hJ : JSeq J I0 xs) (h0 : I0 H1) (hz : xs.length ≤ 1000) (hl : rs.length = xs.length)
    (he : ∀ (i : Nat) (x : V) (r : α), xs[i]? = some x → rs[i]? = some r → ∀ H2, Same H1 H2 → ∀ Q' : VK, (∀ H3, Same H2 H3 → Q' (.str (f r)) H3) → te (some x :: frees σ ix) H2 Q')
    (hQ : ∀ D H', H1 D = none → Same H1 H' → H' D = some (.lst ((rs.map f).map V.str)) → Q (.ref D) H') : CompGo J H1 σ ix tYes te Q :=
  comp_ix xs ((rs.map f).map V.str) hJ h0 (Nat.le_of_lt (small1000 hz)) (by simp [hl]) (fun i x y hx hy H2 e Q' q => by
    rw [List.getElem?_map, List.getElem?_map] at hy
    cases hr : rs[i]? with
    | none => rw [hr] at hy; cases hy
    | some r =>
      rw [hr] at hy
      have : y = .str (f r) := (Option.some.inj hy).symm
      subst this
      exact he i x r hx hr H2 e Q' q) hQ
section
variable {id : String}
set_option autoImplicit true
set_option relaxedAutoImplicit true
theorem qe_bmK {K : PySem.W.Frag} (hK : X.K = K) (pa : PlainAttrs T) (slot : Slot T name id) (hty : typeOf (.builtin id) = pure (.type "method_descriptor")) (hm : MtR X id r) (ho : QE X o to) (ha : QA X (e :: es) t) (hbase : attributeBase o name X.env (eval o X.env) = eval o X.env := by rfl) (hfew : ((backTo cpos (starEach (e :: es) X.env)).all (fun x => !x.1) && (backToKw cpos (keywordEach [] X.env)).all (fun x => x.1.isSome)       && decide ((e :: es).length + ([] : List Keyword).length + (if ([] : List Keyword).isEmpty then 0 else 1) < 30)) = true := by rfl) (hline : (apos.endLine == cpos.line) = true := by rfl) (hs : starEach (e :: es) X.env = (false, eval e X.env) :: starEach es X.env := by rfl) (hplain : (backTo cpos (starEach es X.env)).any (·.1) = false := by rfl) : QE X (.Call (.Attribute o name apos) (e :: es) [] cpos) (tBM K T r to t) := by
  subst hK
  exact ⟨pe_bm pa slot hty hm ho.run ha.run hbase hfew hline hs hplain⟩
end
end L2
namespace L2
open PySem PySem.Spec PyProof.Rows
end L2
namespace L2
open PySem PySem.Spec PyProof.Rows
section
variable {X : Cx} {pins : List (Addr × Obj)} {σ : St} {H : Hp} {s : Shared} {h' : Heap}
theorem Inv.turnedL {t' : Nat} {ch : List Addr} (I : Inv X pins σ H s) (k : ∀ b o, b ∉ ch → s.heap.get? b = some o → h'.get? b = some o) (hc : ∀ b ∈ ch, FpOk X pins H b) : Inv X pins σ H { s with heap := h', toks := t' } := by
  have nit : ∀ b u, H b = some u → b ∉ ch := fun b u e z => by rw [(hc b z).1] at e; cases e
  refine I.step (g' := s.gens) (d' := s.drawn) (ch := ch) (fun b hb => ⟨(hc b hb).2.2.2.1, (hc b hb).2.1, (hc b hb).2.2.2.2.1, (hc b hb).2.2.2.2.2⟩) (fun b o _ _ hn e _ => k b o hn e) (fun b o _ _ hn e _ => ⟨o.slots, k b o hn e⟩) (fun _ _ _ _ n => n)
    (fun b o hn e => ⟨o, k b o hn e⟩) (fun _ _ e => e) (fun _ _ _ e => e) (fun b ps e => ⟨#[], by rw [e]; simp⟩) (fun m hm => ?_) (fun b u e => ?_) I.bare
  · obtain ⟨o, es, ep, ho, r⟩ := hm
    exact ⟨o, es, ep, k _ o (fun z => (hc _ z).2.1 rfl) ho, r⟩
  · refine (I.hok b u e).stay (fun c v hcv q => k c v ?_ q) (fun _ q => q) fun _ _ q => q
    rcases hcv with z | z
    · rw [z]; exact nit b u e
    · exact nit c _ z
end
noncomputable def zipFp (n : Addr) : List Addr := [n + 4, n + 2, n + 3, n, n + 1]
theorem zipApart_of {n l1 l2 : Nat} (h1 : l1 ∉ zipFp n) (h2 : l2 ∉ zipFp n) : ZipApart (n + 4) (n + 2) (n + 3) n (n + 1) l1 l2 := by
  unfold zipFp at h1 h2
  simp only [List.mem_cons, List.not_mem_nil, or_false, not_or] at h1 h2
  have nn : ∀ a b : Nat, a ≠ b → n + a ≠ n + b := fun a b h => by omega
  have n0 : ∀ a : Nat, a ≠ 0 → n ≠ n + a := fun a h => by omega
  exact ⟨nn 2 4 (by decide), nn 3 4 (by decide), n0 4 (by decide), nn 1 4 (by decide), nn 2 3 (by decide), (n0 2 (by decide)).symm, nn 2 1 (by decide), (n0 3 (by decide)).symm, nn 3 1 (by decide), n0 1 (by decide), h1.1, h1.2.2.1, h1.2.2.2.1, h1.2.2.2.2, h2.1, h2.2.2.1, h2.2.2.2.1, h2.2.2.2.2⟩
section
variable {X : Cx}
end
end L2
namespace L2
open PySem PySem.Spec PyProof.Rows
section
variable {X : Cx}
theorem ps_setcomp {elt iter : Expr} {x yv : Str} {px pos py pos2 : Pos} {iy : Nat} {ifs : List Expr} {sc : Scope} {cl : List (Str × Addr)} {ix : List Nat} {wi : TI} {tc : TT} {te : TE} (N : List Str) (hNd : X.N.Nodup) (hiy : X.N[iy]? = some yv) (hyv : Loc X.env.scope yv) (hsw : swapsWith (.ListComp elt [⟨.Name x px, iter, ifs, 0⟩] sc pos) (some (.Name yv py)) pos2.line X.env = pure true) (hfy : X.fn yv = true ∨ X.env.scope.names.lookup yv = some .local)
    (hc : X.calm = true) (hi : PI X (.Name x px) iter wi) (hif : ∀ s H C ex, PTs (blk X N s H sc cl C ex) ifs tc) (he : ∀ s H C ex, PE (blk X N s H sc cl C ex) elt te)
    (hkind : sc.kind = .function) (hN : N = x :: ix.map fun j => (X.N[j]?).getD "") (hnd : N.Nodup) (hx : sc.names.lookup x = some .local)
    (hcl : closureFor sc X.env = pure cl) (hcell : ∀ y ∈ sc.names, y.2 ≠ .cell) (hnames : ∀ y ∈ sc.names, y.2 = .local → sc.names.lookup y.1 = some .local)
    (hsub : ∀ y c, cl.lookup y = some c → X.env.cells.lookup y = some c) (hhas : ∀ y, ((relabel sc X.env).names.lookup y = some .cell ∨ (relabel sc X.env).names.lookup y = some .free) → ∃ c, cl.lookup y = some c)
    (hix : ∀ j ∈ ix, ∃ y, X.N[j]? = some y ∧ X.env.kindOf y = some .cell ∧ (relabel sc X.env).names.lookup y = some .cell)
    (hs : ∀ x, foldedSetIterable iter X.env x = pure x := by intro _; rfl) :
    PS X (.Assign [.Name yv py] (.ListComp elt [⟨.Name x px, iter, ifs, 0⟩] sc pos) pos2) (tAsg (tComp ix wi tc te) (gName iy)) := by
  intro pins s σ H D0 I h
  rw [exec_Assign_Name_used _ _ _ _ hsw]
  refine wpAny_bind (wpAny_standAt (wpAny_bind ?_))
  show wpAny _ _ (comprehension _ _ _ _ _ _ _ _ >>= _) _ _ _
  refine wpAny_bind (wpAny_mono (Q := fun _ s' => SP X pins D0 .next s') (comp_core N hc hi hif he hkind hN hnd hx hcl hcell hnames hsub hhas hix hs (use := some (assign (.Name yv py) X.env)) I h fun D C s6 H5 mm I7 hm hCn hCl hCc hsz hpin qn => ?_) (fun _ s' q => wpAny_pure (wpAny_pure q)) fun _ _ y => y)
  refine wpAny_assign_Name (store_ok2 I7 hNd hiy hyv (show RelV (V.ref D) (Value.ref D) from rfl) (fun s8 I8 hsb => ?_) hfy)
  obtain ⟨a8, sb8, ha8⟩ := hsb
  have hna : C ≠ a8 := by
    rcases ha8 with z | z
    · rw [z]; exact hCl
    · exact Ne.symm (hCc _ _ z)
  obtain ⟨oC, esC, epC, hoC, rC⟩ := hm
  refine ⟨mm, ⟨oC, esC, epC, sb8.extBut _ _ hna hoC, rC⟩, fun h9 sb9 => ?_⟩
  exact ⟨_, H5, I8.turned (t' := s8.toks) (it := C) (fun b o hb e => sb9.extBut b o hb e) hCn hCl (.inr hsz) hCc hpin, qn⟩
end
end L2
namespace L2
open PySem PySem.Spec PyProof.Rows
section
variable {X : Cx}
theorem qe_dget {o i : Expr} {pos : Pos} {td ty : TE} (hu : X.A.units + 1 < cLine) (ho : QE X o td) (hi : QE X i ty) (hs : NoSl i) : QE X (.Subscript o i pos) (tDGet td ty) := ⟨pe_dget hu ho.run hi.run hs⟩
theorem qs_dput {o i value : Expr} {pos pos' : Pos} {td ty tv : TE} (hu : X.A.units + 1 < cLine) (ho : QE X o td) (hi : QE X i ty) (hv : QE X value tv) (hs : swapsWith value (some (.Subscript o i pos')) pos.line X.env = pure false := by rfl) :
    QS X (.Assign [.Subscript o i pos'] value pos) (sDPut td ty tv) := ⟨ps_dput hu ho.run hi.run hv.run hs⟩
theorem vals_nth : ∀ {ks : List V} {vs : List Value}, vs.length = ks.length → (∀ (j : Nat) (v : Value), vs[j]? = some v → ∃ y, ks[j]? = some y ∧ RelV y v) → Vals ks vs
  | [], [], _, _ => .nil
  | k :: ks, v :: vs, hl, h => by
    obtain ⟨y, e, r⟩ := h 0 v rfl
    cases e
    exact .cons r (vals_nth (by simpa using hl) fun j u hu => h (j + 1) u (by simpa using hu))
theorem call_sorted_strs : CallR X (.builtin "sorted") (fun vs H Q => ∃ (a : Addr) (ss : List Str), vs = [.ref a] ∧ SqL X.K H a (ss.map V.str) ∧ ss.length < 64 ∧
    ∀ p zs, H p = none → zs.Perm ss → sortedS zs = true → Q (.ref p) (upd H p (.lst (zs.map V.str)))) := by
  intro pins s σ H vs us Q I r h
  obtain ⟨a, ss, rfl, hq, hz, q⟩ := h
  obtain ⟨u, rfl, ru⟩ := r.one
  cases ru
  obtain ⟨its, rv, p, _⟩ := I.list hq
  have hs := vals_strs rv
  have hl : its.length = ss.length := hs.length
  refine sorted_strs p.isList hs (by omega) fun out zs a1 a2 a3 => ?_
  obtain ⟨e, he⟩ := sortedAll_at s.heap its out
  have fr : H (s.heap.objs.size + 1) = none := I.hok.fresh (Nat.le_succ _)
  have hzl : zs.length < 64 := by rw [a2.length_eq]; exact hz
  exact ⟨.ref (s.heap.objs.size + 1), upd H (s.heap.objs.size + 1) (.lst (zs.map V.str)), I.laid (t' := s.toks) (fun b o hb => sortedAll_old hb) (Nat.le_succ _) ⟨by rw [List.length_map]; exact Nat.le_of_lt (small1000 (by omega)), out.toList, e, strs_vals a1, by simpa [seqObj] using he⟩, rfl, q _ zs fr a2 a3⟩
end
section
variable {X : Cx}
end
theorem cl_has {L : List (Str × NameKind)} {cl : List (Str × Addr)} {ks : List Str} (hkm : cl.map (·.1) = ks) (hkB : (L.all fun y => (match y.2 with | .cell => false | .free => false | _ => true) || decide (y.1 ∈ ks)) = true) (z : Str) (h : L.lookup z = some .cell ∨ L.lookup z = some .free) : ∃ c, cl.lookup z = some c := by
  have hm : z ∈ cl.map (·.1) := by
    rw [hkm]
    rcases h with h | h
    · have := List.all_eq_true.mp hkB _ (PySem.mem_of_lookup h)
      simpa using this
    · have := List.all_eq_true.mp hkB _ (PySem.mem_of_lookup h)
      simpa using this
  clear hkm hkB
  induction cl with
  | nil => simp at hm
  | cons p r ih =>
    rw [List.lookup_cons]
    cases hb : z == p.1 with
    | true => exact ⟨_, rfl⟩
    | false =>
      rw [List.map_cons, List.mem_cons] at hm
      rcases hm with h1 | h1
      · rw [h1] at hb; simp at hb
      · exact ih h1
end L2
namespace L2
open PySem PySem.Spec PyProof.Rows
section
variable {X : Cx}
theorem qe_unN {j : Nat} {p3 p4 : Pos} : QE X (.UnaryOp .USub (.Constant (.int 1) j p3) p4) (fun _ H Q => Q (.int (-1)) H) := ⟨fun pins s σ H Q I q => pe_un un_neg pe_int pins s σ H Q I ⟨1, rfl, q⟩⟩
noncomputable def tRev (K : PySem.W.Frag) (te : TE) : TE := fun σ H Q => te σ H fun x H1 => ∃ a xs, x = .ref a ∧ SqL K H1 a xs ∧ ∀ p, H1 p = none → Q (.ref p) (upd H1 p (.lst xs.reverse))
theorem vals_reverse : ∀ {xs : List V} {us : List Value}, Vals xs us → Vals xs.reverse us.reverse
  | _, _, .nil => .nil
  | _, _, .cons r t => by
    rw [List.reverse_cons, List.reverse_cons]
    exact Vals.append (vals_reverse t) (.cons r .nil)
theorem qe_rev {e : Expr} {te : TE} {p2 p3 p4 pos : Pos} {j : Nat} (he : QE X e te) : QE X (.Subscript e (.Slice none none (some (.UnaryOp .USub (.Constant (.int 1) j p3) p4)) p2) pos) (tRev X.K te) := by
  refine ⟨fun pins s σ H Q I h => ?_⟩
  refine Subscript_ (thn (he.run pins s σ H _ I h) fun v s1 ⟨x, H1, I1, r1, q1⟩ => ?_)
  obtain ⟨a, xs, rfl, hx, q⟩ := q1
  cases r1
  refine wpAny_Slice ?_
  rw [evalPart_none]
  refine wpAny_pure (wpAny_pure ?_)
  rw [evalPart_some]
  refine thn ((qe_unN (X := X) (j := j) (p3 := p3) (p4 := p4)).run pins s1 σ H1 (fun y H2 => y = .int (-1) ∧ H2 = H1) I1 ⟨rfl, rfl⟩) fun u s2 ⟨y, H2, I2, r2, q2⟩ => ?_
  obtain ⟨rfl, rfl⟩ := q2
  obtain ⟨t, rfl⟩ := r2
  obtain ⟨its, r, ht, hz⟩ := I2.list hx
  have hlen := r.length
  have I4 : Inv X pins σ H2 { s2 with heap := s2.heap.push { cls := .type "slice", data := .fields #[.none, .none, .int (-1) t] } } := I2.kept (t' := s2.toks) fun b ob q => Heap.get?_push_of_some _ q
  have hl4 : Heap.IsList (s2.heap.push { cls := .type "slice", data := .fields #[.none, .none, .int (-1) t] }) a its.toArray := ht.isList.push _
  have tl4 : Shared.TypeIs { s2 with heap := s2.heap.push { cls := .type "slice", data := .fields #[.none, .none, .int (-1) t] } } (.ref a) "list" := Heap.IsList.typeIs (s := { s2 with heap := s2.heap.push { cls := .type "slice", data := .fields #[.none, .none, .int (-1) t] } }) hl4
  show wpAny (model X.prog X.w) X.A (subscriptTail e (.Slice none none (some (.UnaryOp .USub (.Constant (.int 1) j p3) p4)) p2) (.ref a) (.ref s2.heap.objs.size)) (EP X pins σ Q) X.xe { s2 with heap := s2.heap.push { cls := .type "slice", data := .fields #[.none, .none, .int (-1) t] } }
  refine tail_any (ops := [.ref a, .ref s2.heap.objs.size]) tl4 slot_list_getitem.lookup ?_ (by with_unfolding_all rfl)
  refine wpAny_getItem_list_slice hl4 (Heap.IsSliceOf.new ..) .none .none (.int (-1) t) (by simp) ?_ (by rw [List.size_toArray] <;> omega)
  rw [PySem.W.krv_pick]
  refine ⟨.ref _, _, I4.laid (t' := s2.toks) (o := .lst xs.reverse) (fun b ob q => Heap.get?_push_of_some _ q) (Nat.le_refl _) ?_, rfl, q _ (I4.hok.fresh (Nat.le_refl _))⟩
  exact ⟨by rw [List.length_reverse]; exact hz, its.reverse, 0, vals_reverse r, Heap.get?_push_size _ rfl⟩
end
theorem cl_sub {cl cells : List (Str × Addr)} (h : ∀ p ∈ cl, cells.lookup p.1 = some p.2) (y : Str) (c : Addr) (e : cl.lookup y = some c) : cells.lookup y = some c := h (y, c) (PySem.mem_of_lookup e)
inductive ClIn (cells : List (Str × Addr)) : List (Str × Addr) → Prop
  | nil : ClIn cells []
  | cons {x : Str} {a : Addr} {r : List (Str × Addr)} : cells.lookup x = some a → ClIn cells r → ClIn cells ((x, a) :: r)
theorem ClIn.all {cells cl : List (Str × Addr)} (h : ClIn cells cl) : ∀ p ∈ cl, cells.lookup p.1 = some p.2 := by
  induction h with
  | nil => intro p hp; cases hp
  | cons h _ ih =>
    intro p hp
    rcases List.mem_cons.mp hp with rfl | z
    · exact h
    · exact ih p z
inductive IxIn (X : Cx) (sc : Scope) : List Nat → Prop
  | nil : IxIn X sc []
  | cons {j : Nat} {y : Str} {r : List Nat} : X.N[j]? = some y → X.env.kindOf y = some .cell → (relabel sc X.env).names.lookup y = some .cell → IxIn X sc r → IxIn X sc (j :: r)
theorem IxIn.all {X : Cx} {sc : Scope} {ix : List Nat} (h : IxIn X sc ix) : ∀ j ∈ ix, ∃ y, X.N[j]? = some y ∧ X.env.kindOf y = some .cell ∧ (relabel sc X.env).names.lookup y = some .cell := by
  induction h with
  | nil => intro p hp; cases hp
  | cons h1 h2 h3 _ ih =>
    intro p hp
    rcases List.mem_cons.mp hp with rfl | z
    · exact ⟨_, h1, h2, h3⟩
    · exact ih p z
theorem qe_compG {X : Cx} {elt iter : Expr} {x : Str} {px pos : Pos} {ifs : List Expr} {sc : Scope} {cl : List (Str × Addr)} {wi : TI} {tc : TT} {te : TE} (N : List Str) (ix : List Nat) (hi : QI X (.Name x px) iter wi)
    (hif : ∀ s H C ex, QTs (blk X N s H sc cl C ex) ifs tc) (he : ∀ s H C ex, QE (blk X N s H sc cl C ex) elt te)
    (hcl : closureFor sc X.env = pure cl := by rfl) (hcs : ClIn X.env.cells cl := by repeat' first | with_unfolding_all rfl | constructor) (hN : N = x :: ix.map (fun j => (X.N[j]?).getD "") := by rfl) (hnd : N.Nodup := by decide +kernel)
    (hkm : cl.map (·.1) = N.tail := by rfl) (hkB : ((relabel sc X.env).names.all fun y => (match y.2 with | .cell => false | .free => false | _ => true) || decide (y.1 ∈ N.tail)) = true := by with_unfolding_all rfl)
    (hix : IxIn X sc ix := by repeat' first | with_unfolding_all rfl | constructor)
    (hx : sc.names.lookup x = some .local := by decide +kernel) (hcell : ∀ z ∈ sc.names, z.2 ≠ .cell := by decide +kernel)
    (hnames : ∀ z ∈ sc.names, z.2 = .local → sc.names.lookup z.1 = some .local := by decide +kernel)
    (hc : X.calm = true := by rfl) (hkind : sc.kind = .function := by rfl) (hs : ∀ x, foldedSetIterable iter X.env x = pure x := by intro _; rfl) :
    QE X (.ListComp elt [⟨.Name x px, iter, ifs, 0⟩] sc pos) (tComp ix wi tc te) :=
  ⟨pe_comp N hc hi.run (fun s H C ex => (hif s H C ex).run) (fun s H C ex => (he s H C ex).run) hkind hN hnd hx hcl hcell hnames (cl_sub hcs.all) (cl_has hkm hkB) hix.all hs⟩
theorem qs_setCG {X : Cx} {elt iter : Expr} {x yv : Str} {px pos py pos2 : Pos} {i : Nat} {ifs : List Expr} {sc : Scope} {cl : List (Str × Addr)} {wi : TI} {tc : TT} {te : TE} (N : List Str) (ix : List Nat) (hNd : X.N.Nodup) (hiy : X.N[i]? = some yv) (hyv : Loc X.env.scope yv) (hi : QI X (.Name x px) iter wi)
    (hif : ∀ s H C ex, QTs (blk X N s H sc cl C ex) ifs tc) (he : ∀ s H C ex, QE (blk X N s H sc cl C ex) elt te)
    (hsw : swapsWith (.ListComp elt [⟨.Name x px, iter, ifs, 0⟩] sc pos) (some (.Name yv py)) pos2.line X.env = pure true := by rfl) (hfy : X.fn yv = true ∨ X.env.scope.names.lookup yv = some .local := by first | exact .inl rfl | exact .inr rfl | assumption)
    (hcl : closureFor sc X.env = pure cl := by rfl) (hcs : ClIn X.env.cells cl := by repeat' first | with_unfolding_all rfl | constructor) (hN : N = x :: ix.map (fun j => (X.N[j]?).getD "") := by rfl) (hnd : N.Nodup := by decide +kernel)
    (hkm : cl.map (·.1) = N.tail := by rfl) (hkB : ((relabel sc X.env).names.all fun y => (match y.2 with | .cell => false | .free => false | _ => true) || decide (y.1 ∈ N.tail)) = true := by with_unfolding_all rfl)
    (hix : IxIn X sc ix := by repeat' first | with_unfolding_all rfl | constructor)
    (hx : sc.names.lookup x = some .local := by decide +kernel) (hcell : ∀ z ∈ sc.names, z.2 ≠ .cell := by decide +kernel)
    (hnames : ∀ z ∈ sc.names, z.2 = .local → sc.names.lookup z.1 = some .local := by decide +kernel)
    (hc : X.calm = true := by rfl) (hkind : sc.kind = .function := by rfl) (hs : ∀ x, foldedSetIterable iter X.env x = pure x := by intro _; rfl) :
    QS X (.Assign [.Name yv py] (.ListComp elt [⟨.Name x px, iter, ifs, 0⟩] sc pos) pos2) (tAsg (tComp ix wi tc te) (gName i)) :=
  ⟨ps_setcomp N hNd hiy hyv hsw hfy hc hi.run (fun s H C ex => (hif s H C ex).run) (fun s H C ex => (he s H C ex).run) hkind hN hnd hx hcl hcell hnames (cl_sub hcs.all) (cl_has hkm hkB) hix.all hs⟩
end L2
namespace L2
open PySem PySem.Spec PyProof.Rows
section
variable {X : Cx} {CX : CXT} {k : Nat} {f C : Addr} {fd : FuncData} {ps : List Str} {ds : List Value} {dvs : List V} {sp : Sp} {E : XK} {x m fl : Str} {p pos pos' apos : Pos} {e o value : Expr} {es : List Expr} {ta tv : TE} {t : TA}
end
section
variable {X : Cx} {pins : List (Addr × Obj)} {σ : St} {H : Hp} {s : Shared} {a : Addr} {y d : V} {u r : Value} {A : Around} {E : Value → Shared → Prop}
end
section
variable {X : Cx} {o e f : Expr} {apos cpos : Pos} {td ty tx : TE}
end
section
variable {prog : Program} {w : World} {A : Around} {E : Value → Shared → Prop} {s : Shared} {J d : Addr} {n ep : Nat} {es : Array DictEntry} {od : Obj}
theorem ent_look {Q : Option Value → Shared → Prop} (hj : s.heap.IsKeyIter J d n es.size ep) (h1 : s.heap.get? d = some od) (h2 : od.data = .dict es ep) (hh : A.handled = none)
    (q1 : ∀ (hn : n < es.size) h', h'.IsKeyIter J d (n + 1) es.size ep → Heap.SameBut J s.heap h' → Q (some es[n].key) { s with heap := h' }) (q2 : es.size ≤ n → ∀ h', Heap.ExtBut J s.heap h' → Q none { s with heap := h' }) :
    wpAny (model prog w) A (pyNext (.ref J)) Q E s := by
  obtain ⟨oj, g1, g2, g3⟩ := id hj
  have ty := hj.typeIs
  have no : Builtin.Dict_items.ownsTuple "dict_keyiterator" = false := by decide
  have nn : ¬ ((Value.ref d == Value.none) = true) := Bool.false_ne_true
  have pos : ¬ ((n : Int) < 0) := by omega
  unfold pyNext
  refine wpAny_bind (wpAny_attempt (wpAny_callSpecial?_slot (name := Str.ofString "__next__") ty PySem.F.slot_dict_keyiterator_next (wpAny_call_entry PySem.F.slot_dict_keyiterator_next ty PySem.F.entry_dict_keyiterator_next ?_ (PySem.F.args_dict_keyiterator_next_1 _))))
  refine wpAny_bind (wpAny_pure (wpAny_bind (wpAny_bind ?_)))
  first | refine wpAny_bind (wpAny_typeNameOfWhole_keyiter ty (wpAny_pure (wpAny_bind (wpAny_fieldsOf g1 g3 ?_)))) | refine wpAny_bind (wpAny_typeNameOf_keyiter ty (wpAny_pure (wpAny_bind (wpAny_fieldsOf g1 g3 ?_))))
  simp only [no, Bool.false_eq_true, if_false]
  show wpAny _ _ (if (Value.ref d == Value.none) = true then _ else _) _ _ s; rw [if_neg nn]
  refine wpAny_bind (wpAny_pure (wpAny_bind (wpAny_dictEntries h1 h2 ?_))); rw [if_neg (by simp)]
  refine wpAny_bind (wpAny_pure (wpAny_bind (wpAny_dictEpoch h1 h2 ?_))); rw [if_neg (by simp)]; refine wpAny_pure ?_
  by_cases hn : n < es.size
  · simp only [pos, if_false, Int.toNat_natCast, Array.getElem?_eq_getElem hn]
    refine wpAny_bind ?_
    first | refine wpAny_bind (wpAny_typeNameOfWhole_keyiter ty (wpAny_pure (wpAny_bind (wpAny_isOneOf_keyiter ty ?_)))) | refine wpAny_bind (wpAny_typeNameOf_keyiter ty (wpAny_pure (wpAny_bind (wpAny_isOneOf_keyiter ty ?_))))
    show wpAny _ _ (setField (.ref J) 1 (rawInt ((n : Int) + 1)) >>= _) _ _ s; refine wpAny_bind (wpAny_setField g1 g3 (by simp) ?_)
    have hj' : (s.heap.update J (Obj.mapFields (·.setIfInBounds 1 (rawInt ((n : Int) + 1))))).IsKeyIter J d (n + 1) es.size ep := ⟨_, Heap.get?_update_self _ g1 (Obj.isFreed_of_fields (Obj.data_mapFields g3 _)), (Obj.cls_mapFields ..).trans g2, (by rw [Obj.data_mapFields g3]; simp [rawInt])⟩
    refine wpAny_bind (wpAny_holding (wpAny_bind (wpAny_isOneOf_keyiter (s := { s with heap := s.heap.update J (Obj.mapFields (·.setIfInBounds 1 (rawInt ((n : Int) + 1)))) }) hj'.typeIs ?_)))
    exact wpAny_pure (wpAny_pure ⟨_, rfl, wpAny_pure (q1 hn _ hj' (Heap.SameBut.update ..))⟩)
  · simp only [pos, if_false, Int.toNat_natCast, Array.getElem?_eq_none (Nat.le_of_not_lt hn)]
    refine wpAny_bind ?_
    first | refine wpAny_bind (wpAny_typeNameOfWhole_keyiter ty (wpAny_pure ?_)) | refine wpAny_bind (wpAny_typeNameOf_keyiter ty (wpAny_pure ?_))
    show wpAny _ _ (setField (.ref J) 0 .none >>= _) _ _ s; refine wpAny_bind (wpAny_setField g1 g3 (by simp) (wpAny_bind ?_))
    simp only [newExc, newTuple]; refine wpAny_bind (wpAny_newObj_type ?_ (by size_fits))
    refine wpAny_bind (m := firstArgMember _ _) (wpAny_of_eq (a := Value.none) (by first | rfl | (simp only [firstArgMember]; rfl)) (wpAny_newObj_type ?_ (by size_fits)))
    simp only [raiseNew]; refine wpAny_bind (wpAny_handled ?_); rw [show A.in1.handled = none from hh]
    refine wpAny_bind (wpAny_pure (wpAny_throw ?_)); have sub := isSubtype_stop
    refine wpAny_bind (wpAny_isInstance (T := "StopIteration") (b := true) ⟨_, Heap.get?_push_size _ rfl, rfl⟩ sub ?_)
    exact wpAny_pure (q2 (Nat.le_of_not_lt hn) _ (((Heap.SameBut.update ..).extBut.push _).push _))
theorem ent_iter {Q : Value → Shared → Prop} (hd : (d == sysModules) = false) (h1 : s.heap.get? d = some od) (hc : od.ExactDict) (h2 : od.data = .dict es ep)
    (q : Q (.ref s.heap.objs.size) { s with heap := s.heap.push { cls := .type "dict_keyiterator", data := .fields #[.ref d, .int 0 0, .int es.size 0, .int ep 0] } }) : wpAny (model prog w) A (pyIter (.ref d)) Q E s := by
  have ty : s.TypeIs (.ref d) "dict" := ⟨od, h1, hc.1⟩
  refine wpAny_pyIter_slot ty PySem.F.slot_dict_iter (wpAny_call_entry PySem.F.slot_dict_iter ty PySem.F.entry_dict_iter ?_ (PySem.F.args_dict_iter_1 _))
  unfold Builtin.«dict.__iter__»; refine wpAny_bind ?_; unfold Builtin.Dict.dictSlotNone
  refine wpAny_bind (wpAny_notOrdered_dict ty (wpAny_pure ?_))
  show wpAny _ _ (Builtin.Dict.showsAll d >>= _) _ _ s; unfold Builtin.Dict.showsAll
  rw [if_neg (show ¬ (d == sysModules) = true by rw [hd]; exact Bool.false_ne_true)]
  refine wpAny_bind (wpAny_pure (wpAny_bind (wpAny_dictEntries h1 h2 (wpAny_bind (wpAny_dictEpoch h1 h2 ?_)))))
  exact wpAny_bind (wpAny_newObj_type (wpAny_pure ⟨_, rfl, "dict_keyiterator", _, ⟨_, Heap.get?_push_size _ rfl, rfl⟩, PySem.F.slot_dict_keyiterator_next.lookup, q⟩))
end
section
variable {X : Cx}
end
section
variable {X : Cx} {pins : List (Addr × Obj)} {σ : St} {H : Hp} {s : Shared} {a : Addr} {u : HO} {o : Obj}
end
theorem paired_bs {H : Hp} {kvs : List (List Key × V)} {xs : List (List Key × Addr × Value)} (h : Paired (fun (p : List Key × V) (q : List Key × Addr × Value) => p.1 = q.1 ∧ H q.2.1 = some (.tup (p.1.map kV)) ∧ RelV p.2 q.2.2) kvs xs) : Paired (fun (p : List Key × V) b => H b = some (.tup (p.1.map kV))) kvs (xs.map (·.2.1)) := by
  induction h with
  | nil => exact .nil
  | cons h t ih => exact .cons h.2.1 ih
end L2
namespace HT
open PySem PySem.Spec PyProof.Rows L2
variable {prog : Program} {w : World} {A : Around} {E : Value → Shared → Prop} {s : Shared}
theorem getItem_tuple_whole {t sl : Addr} {items : Array Value} {vl vu : Value} {lo hi : Option Int} {Q : Value → Shared → Prop} (ht : IsTup s.heap t items) (hs : s.heap.IsSliceOf sl vl vu .none) (pl : IsPart vl lo) (pu : IsPart vu hi)
    (h1 : sIx items.size 0 lo = 0) (h2 : sIx items.size items.size hi = items.size)
    (h : Q (.ref t) s) : wpAny (model prog w) A (getItem (.ref t) (.ref sl)) Q E s := by
  obtain ⟨os, hos, hcs, hds⟩ := id hs
  have hTs : s.TypeIs (.ref sl) "slice" := ⟨os, hos, hcs⟩
  unfold getItem
  try with_reducible refine wpAny_holding ?_
  first | refine wpAny_bind (wpAny_pure ?_) | skip
  refine wpAny_bind (wpAny_sequenceKey ht.typeIs (by decide) ?_)
  refine wpAny_bind (wpAny_callSpecial?_slot (name := Str.ofString "__getitem__") ht.typeIs PyProof.Rows.slot_tuple_getitem
    (wpAny_call_entry PyProof.Rows.slot_tuple_getitem ht.typeIs entry_tuple_getitem ?_ (args_tuple_getitem _ _)))
  show wpAny _ _ (Builtin.Tuple.tupleItemsOf (.ref t) >>= _) _ _ s
  refine wpAny_bind (tupleItemsOf_ ht ?_)
  refine wpAny_bind (wpAny_typeOf hTs ?_)
  rw [if_pos (by decide)]
  refine wpAny_bind (sliceApplied_gen hs pl pu ?_)
  have hyes : ((((sIx items.size 0 lo : Nat) : Int) == 0 && (1 : Int) == 1 && (sIx items.size items.size hi - sIx items.size 0 lo) == items.size) = true) := by
    rw [h1, h2]; simp
  show wpAny _ _ (if (((sIx items.size 0 lo : Nat) : Int) == 0 && (1 : Int) == 1 && (sIx items.size items.size hi - sIx items.size 0 lo) == items.size) = true then _ else _) _ _ s
  rw [if_pos hyes]
  unfold Builtin.Tuple.tupleIsExact
  refine wpAny_bind (wpAny_bind (wpAny_typeOf ht.typeIs (wpAny_pure ?_)))
  rw [if_pos (by decide)]
  refine wpAny_bind (wpAny_rule ?_)
  exact wpAny_pure ⟨_, rfl, wpAny_pure h⟩
theorem cat_tup0 {t b : Addr} {vs ws : List Value} {Q : Value → Shared → Prop} (ht : IsTup s.heap t vs.toArray) (hb : IsTup s.heap b ws.toArray) (hv : vs = [])
    (h1 : Q (.ref b) s) : wpAny (model prog w) A (binaryOp .Add (.ref t) (.ref b)) Q E s := by
  obtain ⟨⟨cls, dd, data, sl⟩, ho, hc, n, hd⟩ := id ht
  obtain ⟨⟨cls2, dd2, data2, sl2⟩, ho2, hc2, n2, hd2⟩ := id hb
  simp only at hc hd hc2 hd2
  subst hc hd hc2 hd2
  exact concat_meets ⟨_, ho, rfl⟩ ⟨_, ho2, rfl⟩ noFill_tuple_add seq_tuple_add PySem.F.slot_tuple_add PySem.F.entry_tuple_add (PySem.F.args_tuple_add_2 _ _)
      (tuple_addW0 t b vs.toArray ws.toArray n n2 dd dd2 sl sl2 (by simp [hv])) ⟨ho, ho2, h1⟩
end HT
namespace L2
open PySem PySem.Spec PyProof.Rows
section
variable {X : Cx}
theorem cutV_whole {xs : List V} {lo hi : Option Int} (h1 : HT.sIx xs.length 0 lo = 0) (h2 : HT.sIx xs.length xs.length hi = xs.length) : cutV xs lo hi = xs := by
  unfold cutV
  rw [h1, h2, List.drop_zero, Nat.sub_zero, List.take_length]
noncomputable def rSlTU (K : PySem.W.Frag) : V → Option Int → Option Int → Hp → VK → Prop := fun x lo hi H Q => ∃ a xs, x = .ref a ∧ SqT K H a xs ∧ ∀ p H', Same H H' → SqT K H' p (cutV xs lo hi) → Q (.ref p) H'
theorem sl_tupU : SlR X (rSlTU X.K) := by
  intro pins s σ H x v vl vu lo hi sl Q I rx hs pl pu h
  obtain ⟨a, xs, rfl, hx, q⟩ := h
  by_cases hw : HT.sIx xs.length 0 lo = 0 ∧ HT.sIx xs.length xs.length hi = xs.length
  · cases rx
    obtain ⟨its, r, ht, hz⟩ := I.tuple hx
    have hlen : its.toArray.size = xs.length := by rw [List.size_toArray]; exact r.length.symm
    refine ⟨"tuple", _, PyProof.Rows.slot_tuple_getitem.lookup, ht.typeIs, ?_⟩
    refine HT.getItem_tuple_whole ht hs pl pu (by rw [hlen]; exact hw.1) (by rw [hlen]; exact hw.2) ?_
    refine ⟨.ref a, H, I, rfl, q a H (Same.refl _) ?_⟩
    rw [cutV_whole hw.1 hw.2]; exact hx
  · exact sl_tup pins s σ H (.ref a) v vl vu lo hi sl Q I rx hs pl pu ⟨a, xs, rfl, hx, hw, fun p hp => q p _ (same_new hp _) (SqT.of upd_same)⟩
noncomputable def rCatTU (K : PySem.W.Frag) : R2 := fun x y H Q => ∃ a b xs ys, x = .ref a ∧ y = .ref b ∧ SqT K H a xs ∧ SqT K H b ys ∧ xs.length + ys.length ≤ sizeLine ∧ ∀ p H', Same H H' → SqT K H' p (xs ++ ys) → Q (.ref p) H'
theorem op_catTU : OpR X (binaryOp .Add) (rCatTU X.K) := by
  intro pins s σ H x y v u Q I rx ry h
  obtain ⟨a, b, xs, ys, rfl, rfl, ha, hb, hz, q⟩ := h
  by_cases hx : xs = []
  · cases rx
    cases ry
    obtain ⟨its, r1, p1, _⟩ := I.tuple ha
    obtain ⟨its2, r2, p2, _⟩ := I.tuple hb
    refine HT.cat_tup0 p1 p2 (r1.nil_iff.mpr hx) ⟨.ref b, H, I, rfl, q b H (Same.refl _) ?_⟩
    rw [hx]; exact hb
  · exact op_catT pins s σ H (.ref a) (.ref b) v u Q I rx ry ⟨a, b, xs, ys, rfl, rfl, ha, hb, hx, hz, fun z => q a H (Same.refl _) (by rw [z, List.append_nil]; exact ha), fun _ p hp => q p _ (same_new hp _) (SqT.of upd_same)⟩
end
end L2
namespace L2
open PySem PySem.Spec PyProof.Rows
noncomputable def Itr2 (lo : Int) (n : Nat) : It := ⟨fun i _ => i < n, fun i H x H' => H' = H ∧ x = .int (lo + i * 2), fun i _ => n ≤ i⟩
theorem turn_range2 {P : Program} {w : World} {K : PySem.W.Frag} {tg : Expr} (it : Addr) (lo : Int) (n : Nat) : Turn P w K tg (Itr2 lo n) [it] it (fun i h => IsRangeIter h it (lo + (i : Nat) * 2) ((n : Int) - (i : Nat)) 2) where
  mem := by simp
  obj := fun i h st b hb => by
    obtain rfl : b = it := by simpa using hb
    exact ⟨_, st, fun v z => by
      have z' : Data.fields _ = Data.cell v := z
      cases z'⟩
  keep := fun i h h' st k => k it (by simp) _ st
  item := by
    intro X hP hw hK hc i pins s σ H E I hf st hg
    subst hP hw hK
    obtain ⟨f0, f1, f2, f3, f4, f5⟩ := hf it (by simp)
    refine (Walks.range (prog := X.prog) (w := X.w) (I.ok.hd hc) it lo 2 n).item i s _ _ hg st fun v h' tk hv st' kk => ?_
    obtain ⟨t, rfl⟩ := hv
    have I1 : Inv X pins σ H { s with heap := h', toks := tk } := I.turned (fun b o hb e => kk b o (by simpa using hb) e) f0 f1 f3 f4 f5
    exact ⟨_, rfl, go_of (s := { s with heap := h', toks := tk }) (n := "range_iterator") st' rfl rfl (by decide) ⟨.int (lo + i * 2), H, I1, ⟨t, rfl⟩, ⟨rfl, rfl⟩, st', fun b hb => (hf b hb).1⟩⟩
  done := by
    intro X hP hw hK hc i pins s σ H E I hf st hg
    subst hP hw hK
    obtain ⟨f0, f1, f2, f3, f4, f5⟩ := hf it (by simp)
    exact wpAny_pyNext_range_end (I.ok.hd hc) st (by have : n ≤ i := hg; omega) fun h' eb => ⟨rfl, I.turned (t' := s.toks) (fun b o hb e => eb b o hb e) f0 f1 f3 f4 f5⟩
  self := fun _ _ _ _ _ st h => wpAny_pyIter_rangeiter st h
section
variable {X : Cx} {tg : Expr}
theorem small_two {a b : Int} (h1 : -1000000 ≤ a) (h2 : a < 1000000) (h3 : -1000000 ≤ b) (h4 : b < 1000000) : Builtin.Range.small a b 2 = true := by
  have fit : ∀ {x : Int}, -10000000 ≤ x → x < 10000000 → Builtin.Range.rangeFitsLong x = true := fun {x} y z => by
    unfold Builtin.Range.rangeFitsLong
    simp only [Bool.and_eq_true, decide_eq_true_eq]
    omega
  have sz : Builtin.Range.rangeSize a b 2 = (((b - a + 1) / 2).toNat : Int) := by
    unfold Builtin.Range.rangeSize
    rw [if_pos (by decide)]
    split <;> omega
  unfold Builtin.Range.small
  rw [sz, fit (by omega) (by omega), fit (by omega) (by omega), fit (by decide) (by decide), fit (by omega) (by omega), if_pos (by decide), fit (by omega) (by omega)]
  simp
theorem no_long {x : Int} : Builtin.divisionGoesByPylong x 2 = false := by
  unfold Builtin.divisionGoesByPylong
  have : decide ((if ((2 : Int) == 0) = true then 0 else (2 : Int).natAbs.log2 / 30 + 1) > 300) = false := by decide +kernel
  simp only [this, Bool.false_and]
theorem size_two {a b : Int} : Builtin.Range.rangeSize a b 2 = (((b - a + 1) / 2).toNat : Int) := by
  unfold Builtin.Range.rangeSize
  rw [if_pos (by decide)]
  split <;> omega
theorem range2_it {pins : List (Addr × Obj)} {σ : St} {H : Hp} {s : Shared} {R : It → Hp → Prop} {E : Value → Shared → Prop} {lo hi : Int} {t u v : Tok} {tk : Nat} (I : Inv X pins σ H s) (h1 : -1000000 ≤ lo) (h2 : lo < 1000000) (h3 : -1000000 ≤ hi) (h4 : hi < 1000000)
    (q : R (Itr2 lo ((hi - lo + 1) / 2).toNat) H) : wpAny (model X.prog X.w) X.A (pyIter (.ref s.heap.objs.size)) (PIE X pins σ tg R) E { s with heap := s.heap.push { cls := .type "range", data := .fields #[.int lo t, .int hi u, .int 2 v] }, toks := tk } := by
  refine wpAny_pyIter_range (IsRange.new ..) (small_two h1 h2 h3 h4) ?_
  have I1 : Inv X pins σ H { s with heap := s.heap.push { cls := .type "range", data := .fields #[.int lo t, .int hi u, .int 2 v] }, toks := tk } := I.kept fun b o e => Heap.get?_push_of_some _ e
  refine ⟨(s.heap.push { cls := .type "range", data := .fields #[.int lo t, .int hi u, .int 2 v] }).objs.size, [(s.heap.push { cls := .type "range", data := .fields #[.int lo t, .int hi u, .int 2 v] }).objs.size], _, _, H, rfl,
    I1.kept (t' := tk) fun b o e => Heap.get?_push_of_some _ e, turn_range2 _ lo ((hi - lo + 1) / 2).toNat, ?_, fun b hb => ?_, q⟩
  · have e1 : lo + ((0 : Nat) : Int) * 2 = lo := by simp
    have e2 : ((((hi - lo + 1) / 2).toNat : Nat) : Int) - ((0 : Nat) : Int) = Builtin.Range.rangeSize lo hi 2 := by rw [size_two]; omega
    show IsRangeIter _ _ (lo + ((0 : Nat) : Int) * 2) (((((hi - lo + 1) / 2).toNat : Nat) : Int) - ((0 : Nat) : Int)) 2
    rw [e1, e2]
    exact Heap.get?_push_size _ rfl
  · obtain rfl : b = (s.heap.push { cls := .type "range", data := .fields #[.int lo t, .int hi u, .int 2 v] }).objs.size := by simpa using hb
    exact I1.fpOk (Nat.le_refl _) (I1.hok.fresh (Nat.le_refl _))
noncomputable def iRng3 (ta : TA) : TI := fun σ H R => ta σ H fun vs H1 => ∃ i j : Int, vs = [.int i, .int j, .int 2] ∧ (-1000000 ≤ i ∧ i < 1000000 ∧ -1000000 ≤ j ∧ j < 1000000) ∧ R (Itr2 i ((j - i + 1) / 2).toNat) H1
theorem pi_range3 {a b c : Expr} {ta : TA} {p pos : Pos} (hg : Gl X "range") (hm : X.mg "range" = none) (ha : PA X [a, b, c] ta) (hs : starEach [a, b, c] X.env = [(false, eval a X.env), (false, eval b X.env), (false, eval c X.env)] := by rfl) (hs2 : starEach [b, c] X.env = [(false, eval b X.env), (false, eval c X.env)] := by rfl) :
    PI X tg (.Call (.Name "range" p) [a, b, c] [] pos) (iRng3 ta) := by
  intro pins s σ H R I h
  refine Call_ (ld_blt I hg hm boot_range (PyProof.Rows.callWith_type1 (thn (ha pos pins s σ H _ I h) fun us s1 ⟨vs, H1, I1, r1, q1⟩ => ?_) (by rw [hs, hs2]) (by rw [hs2]; rfl)))
  obtain ⟨i, j, e, ⟨q1, q2, q3, q4⟩, q⟩ := q1
  subst e
  cases r1 with
  | cons r rr =>
    cases rr with
    | cons r' rr =>
      cases rr with
      | cons r'' rr =>
        cases rr
        obtain ⟨t, rfl⟩ := r
        obtain ⟨t', rfl⟩ := r'
        obtain ⟨t'', rfl⟩ := r''
        exact call_range_3 (by decide) (range2_it I1 q1 q2 q3 q4 q) (.inl no_long)
theorem qi_range3 {a b c : Expr} {ta : TA} {p pos : Pos} (hg : Gl X "range") (hm : X.mg "range" = none) (ha : QA X [a, b, c] ta) (hs : starEach [a, b, c] X.env = [(false, eval a X.env), (false, eval b X.env), (false, eval c X.env)] := by rfl) (hs2 : starEach [b, c] X.env = [(false, eval b X.env), (false, eval c X.env)] := by rfl) : QI X tg (.Call (.Name "range" p) [a, b, c] [] pos) (iRng3 ta) := ⟨pi_range3 hg hm ha.run hs hs2⟩
theorem for_range2 {lo : Int} {n : Nat} {g : TG} {tb : TS} {D : Ends} {σ : St} {H : Hp} (Pv : Nat → St → Hp → Prop) (h0 : Pv 0 σ H)
    (hs : ∀ i σ H, i < n → Pv i σ H → g (.int (lo + i * 2)) σ H fun σ2 H2 => tb { D with nx := Pv (i + 1), ct := Pv (i + 1), bk := D.nx } σ2 H2) (hd : ∀ σ H, Pv n σ H → D.nx σ H) :
    ∃ W : Nat → Nat → St → Hp → Prop, (∃ m, W 0 m σ H) ∧ ∀ i m σ H, W i m σ H →
      ((Itr2 lo n).stop i H ∧ D.nx σ H) ∨ ((Itr2 lo n).go i H ∧ ∃ N : St → Hp → Prop, (∀ σ' H', N σ' H' → ∃ m', m' < m ∧ W (i + 1) m' σ' H') ∧ ∀ x H', (Itr2 lo n).yld i H x H' → g x σ H' fun σ2 H2 => tb { D with nx := N, ct := N, bk := D.nx } σ2 H2) := by
  refine ⟨fun i m σ H => m = n - i ∧ i ≤ n ∧ Pv i σ H, ⟨n, rfl, Nat.zero_le _, h0⟩, ?_⟩
  rintro i m σ H ⟨rfl, hi, hp⟩
  by_cases c : i < n
  · refine .inr ⟨c, Pv (i + 1), fun σ' H' z => ⟨n - (i + 1), by omega, rfl, c, z⟩, fun x H' y => ?_⟩
    obtain ⟨rfl, rfl⟩ := y
    exact hs i σ _ c hp
  · obtain rfl : i = n := by omega
    exact .inl ⟨Nat.le_refl _, hd σ H hp⟩
end
end L2
namespace L2
open PySem PySem.Spec PyProof.Rows
end L2
namespace L2
open PySem PySem.Spec PyProof.Rows PySem.Builtin
section
variable {prog : Program} {w : World} {d : Addr} {es : Array DictEntry} {ep : Nat} {od : Obj}
theorem kdl_ent (lo : (d == sysModules) = false) (hc : od.ExactDict) (h2 : od.data = .dict es ep) : PySem.W.KdlSrc prog w "dict" d d es.size (fun i v => (es.toList.map (·.key))[i]? = some v) (fun h => h.get? d = some od) where
  type := fun _ hm => ⟨od, hm, hc.1⟩
  there := fun _ hm => ⟨Heap.lt_size hm, Heap.lt_size hm⟩
  keep := fun _ _ hm hk => hk d (.inl rfl) _ hm
  notList := by decide
  notTuple := by decide
  hint := fun _ _ _ _ hm hq => PySem.W.kdl_hint_dict ⟨od, hm, hc.1⟩ hq
  iter := fun A s hh hm => ⟨_, fun i h => h.IsKeyIter s.heap.objs.size d i es.size ep ∧ h.get? d = some od, (fun E Q hq => ent_iter lo hm hc h2 hq), {
    sub := fun b hb => by simp at hb; subst hb; simp
    frame := fun i h h' st k => by
      obtain ⟨⟨o, h1, h3⟩, h4⟩ := st
      exact ⟨⟨o, k _ (by simp) o h1, h3⟩, k d (by simp) _ h4⟩
    item := fun i s' Q E hi st hQ => by
      have hne : d ≠ s.heap.objs.size := Nat.ne_of_lt (Heap.lt_size hm)
      refine ent_look st.1 st.2 h2 hh (fun hn h' st' sb => ?_) (fun hn => absurd hi (by omega))
      refine hQ _ h' s'.toks ?_ ⟨st', (sb.2 d hne).trans st.2⟩ fun b o hb e => (sb.2 b (by simpa using hb)).trans e
      rw [List.getElem?_map, Array.getElem?_toList, Array.getElem?_eq_getElem hn]; rfl
    done := fun s' Q E st hQ => ent_look st.1 st.2 h2 hh (fun hn => absurd hn (Nat.lt_irrefl _)) (fun _ h' eb => hQ h' s'.toks fun b o hb e => eb b o (by simpa using hb) e)
    self := fun i s' Q E st h => wpAny_pyIter_keyiter st.1 h }, ⟨⟨_, Heap.get?_push_size _ rfl, rfl, rfl⟩, Heap.get?_push_of_some _ hm⟩⟩
end
section
variable {X : Cx}
theorem call_list_dictT (hc : X.calm = true) : CallR X (.type "list") (fun xs H Q => ∃ a kvs, xs = [V.ref a] ∧ H a = some (.dT kvs) ∧ ∀ p bs, H p = none → Paired (fun (q : List Key × V) b => H b = some (.tup (q.1.map kV))) kvs bs → Q (.ref p) (upd H p (.lst (bs.map V.ref)))) := by
  intro pins s σ H xs us Q I r h
  obtain ⟨a, kvs, rfl, ha, q⟩ := h
  obtain ⟨u, rfl, ru⟩ := vals1 r
  cases ru
  obtain ⟨z, hd, ys, rel, od, es, ep, h1, hx, h2, h3, h4⟩ := (show ObjOk X.prog X.w H s.heap a (.dT kvs) from I.hok a _ ha)
  have hl : kvs.length = ys.length := rel.length
  have hes : es.size = ys.length := by rw [← Array.length_toList, h3, List.length_map]
  refine PySem.W.kdl_call (kdl_ent hd hx h2) (I.ok.hd hc) h1 (by rw [hes, ← hl]; exact z) fun h' tk acc c hk hD hacc => ?_
  have hbs := paired_bs rel
  have hkey : es.toList.map (·.key) = (ys.map (·.2.1)).map Value.ref := by rw [h3, List.map_map, List.map_map]; rfl
  refine ⟨.ref s.heap.objs.size, _, I.laid (t' := tk) hk (Nat.le_refl _) (show ObjOk X.prog X.w _ h' _ (.lst ((ys.map (·.2.1)).map V.ref)) from ⟨by rw [List.length_map, List.length_map, ← hl]; exact z, acc.toList, c, ?_, by simpa using hD⟩), rfl, q _ _ (I.hok.fresh (Nat.le_refl _)) hbs⟩
  refine vals_nth (by rw [Array.length_toList, List.length_map, List.length_map, ← hes]; exact hacc.1) fun j v hv => ?_
  have e := hacc.2 j v (by rw [← Array.getElem?_toList]; exact hv)
  rw [hkey, List.getElem?_map] at e
  rw [List.getElem?_map]
  cases hj : (ys.map (·.2.1))[j]? with
  | none => rw [hj] at e; cases e
  | some b =>
    rw [hj] at e
    have e' : Value.ref b = v := Option.some.inj e
    exact ⟨.ref b, rfl, e'.symm⟩
end
section
variable {prog : Program} {w : World} {A : Around} {E : Value → Shared → Prop} {s : Shared} {d : Addr} {es : Array DictEntry} {ep : Nat} {od : Obj}
end
end L2
namespace L2
open PySem PySem.Spec PyProof.Rows
noncomputable def CompGo2 (K : PySem.W.Frag) (J : It) (H1 : Hp) (σ : St) (ix : List Nat) (tc : TT) (te : TE) (Q : VK) : Prop := ∀ D, H1 D = none →
  ∃ W : Nat → Nat → Hp → Prop, (∃ m, W 0 m (upd H1 D (.lst []))) ∧ ∀ i m H, W i m H →
    (J.stop i H ∧ Q (.ref D) H) ∨ (J.go i H ∧ ∀ x H', J.yld i H x H' → ∃ p a b, x = .ref p ∧ SqT K H' p [a, b] ∧ tc (some a :: some b :: frees σ ix) H' fun c H2 =>
      if c = true then te (some a :: some b :: frees σ ix) H2 fun y H3 => ∃ ys, H3 D = some (.lst ys) ∧ ys.length < sizeLine ∧ ∃ m', m' < m ∧ W (i + 1) m' (upd H3 D (.lst (ys ++ [y])))
      else ∃ m', m' < m ∧ W (i + 1) m' H2)
noncomputable def tComp2 (K : PySem.W.Frag) (ix : List Nat) (wi : TI) (tc : TT) (te : TE) : TE := fun σ H Q => wi σ H fun J H1 => CompGo2 K J H1 σ ix tc te Q
section
variable {X : Cx}
end
section
variable {X : Cx}
theorem inv_blk2 {pins : List (Addr × Obj)} {σ : St} {H : Hp} {s : Shared} {N : List Str} {x x2 : Str} {sc : Scope} {cl : List (Str × Addr)} {fp : List Addr} {ix : List Nat} {h1 : Heap} {m : Str → Option Value} {tk : Nat}
    (I : Inv X pins σ H s) (hkind : sc.kind = .function) (hN : N = x :: x2 :: ix.map fun j => (X.N[j]?).getD "")
    (hsub : ∀ y c, cl.lookup y = some c → X.env.cells.lookup y = some c) (hhas : ∀ y, ((relabel sc X.env).names.lookup y = some .cell ∨ (relabel sc X.env).names.lookup y = some .free) → ∃ c, cl.lookup y = some c)
    (hix : ∀ j ∈ ix, ∃ y, X.N[j]? = some y ∧ X.env.kindOf y = some .cell ∧ (relabel sc X.env).names.lookup y = some .cell)
    (hfp : ∀ b ∈ fp, FpOk X pins H b) (hlt : ∀ b ∈ fp, b < s.heap.objs.size)
    (hns : h1.Ns s.heap.objs.size m) (hk : ∀ b o, s.heap.get? b = some o → h1.get? b = some o) :
    Inv (blk X N s H sc cl s.heap.objs.size fp) [] (none :: none :: frees σ ix) H { s with heap := h1, toks := tk } := by
  have fresh : H s.heap.objs.size = none := I.hok.fresh (Nat.le_refl _)
  refine ⟨⟨I.ok.mod, hkind, I.ok.glob, I.ok.blt, Nat.le_refl _, fun y z c h1 h2 => I.ok.inj y z c (hsub y c h1) (hsub z c h2), fun y hy => hhas y hy, fun y c z _ => absurd (show false = true from z) (by decide), I.ok.hd, I.ok.frames, .inl rfl,
    fun b hb => ⟨Nat.ne_of_lt (hlt b hb), fun y c e => (hfp b hb).2.2.2.2.1 y c (hsub y c e)⟩, I.bs, Nat.le_trans I.ok.bsz I.sz, fun b o e hb => ?_, fun b hb z => ?_, I.stack, I.stkFree⟩,
    rfl, I.bare, Un.kept hk, ⟨m, hns, fun i y v e1 e2 e3 => ?_⟩, fun y c e => ?_, fresh, fun y c e => I.freeC y c (hsub y c e), fun p hp => absurd (show p ∈ ([] : List (Addr × Obj)) from hp) (by simp), I.hok.kept hk, ?_⟩
  · rcases (hfp b hb).2.2.2.1 with z | z
    · exact I.ok.noex b o e z
    · exact absurd (Nat.lt_of_lt_of_le (Heap.lt_size e) (Nat.le_trans I.ok.bsz z)) (Nat.lt_irrefl _)
  · rcases List.mem_cons.mp (I.stkSub b z) with q | q
    · exact (hfp b hb).2.1 q
    · exact (hfp b hb).2.2.1 q
  · cases i with
    | zero =>
      have e2' : (some none : Option (Option V)) = some (some v) := e2
      cases e2'
    | succ i =>
      cases i with
      | zero =>
        have e2' : (some none : Option (Option V)) = some (some v) := e2
        cases e2'
      | succ i =>
        have e2' : (frees σ ix)[i]? = some (some v) := by simpa using e2
        unfold frees at e2'
        rw [List.getElem?_map] at e2'
        cases q : ix[i]? with
        | none => rw [q] at e2'; cases e2'
        | some j =>
          rw [q] at e2'
          have e3' : (σ[j]?).getD none = some v := by simpa using e2'
          have e4 : σ[j]? = some (some v) := by
            cases q2 : σ[j]? with
            | none => rw [q2] at e3'; cases e3'
            | some w => rw [q2] at e3'; simpa using e3'
          obtain ⟨y', hy, hc, hr⟩ := hix j (List.mem_of_getElem? q)
          have ey : y' = y := by
            have e1' : N[i + 1 + 1]? = some y := e1
            rw [hN, List.getElem?_cons_succ, List.getElem?_cons_succ, List.getElem?_map, q] at e1'
            have := Option.some.inj e1'
            simpa [hy] using this
          subst ey
          obtain ⟨m0, hn0, hl0⟩ := I.loc
          obtain ⟨u, r, l⟩ := hl0 j y' v hy e4 (.inr (.inl hc))
          refine ⟨u, r, .inr ⟨.inl hr, ?_⟩⟩
          rcases l with ⟨k, _⟩ | ⟨_, c, ec, ic⟩
          · rw [hc] at k; cases k
          · obtain ⟨c', ec'⟩ := hhas y' (.inl hr)
            have := hsub y' c' ec'
            rw [ec] at this; cases this
            obtain ⟨o, ho, hd⟩ := ic
            exact ⟨c, ec', o, hk c o ho, hd⟩
  · obtain ⟨v, o, ho, hd⟩ := I.cell y c (hsub y c e)
    exact ⟨v, o, hk c o ho, hd⟩
  · show (none :: none :: frees σ ix).length = N.length
    rw [hN]
    simp [frees]
theorem pe_comp2 {elt iter : Expr} {x x2 : Str} {px px2 ptt pos : Pos} {kt : Nat} {ifs : List Expr} {sc : Scope} {cl : List (Str × Addr)} {ix : List Nat} {wi : TI} {tc : TT} {te : TE} (N : List Str)
    (hc : X.calm = true) (hi : PI X (.Tuple [.Name x px, .Name x2 px2] kt ptt) iter wi) (hif : ∀ s H C ex, PTs (blk X N s H sc cl C ex) ifs tc) (he : ∀ s H C ex, PE (blk X N s H sc cl C ex) elt te)
    (hkind : sc.kind = .function) (hN : N = x :: x2 :: ix.map fun j => (X.N[j]?).getD "") (hnd : N.Nodup) (hx : sc.names.lookup x = some .local) (hx2 : sc.names.lookup x2 = some .local)
    (hcl : closureFor sc X.env = pure cl) (hcell : ∀ y ∈ sc.names, y.2 ≠ .cell) (hnames : ∀ y ∈ sc.names, y.2 = .local → sc.names.lookup y.1 = some .local)
    (hsub : ∀ y c, cl.lookup y = some c → X.env.cells.lookup y = some c) (hhas : ∀ y, ((relabel sc X.env).names.lookup y = some .cell ∨ (relabel sc X.env).names.lookup y = some .free) → ∃ c, cl.lookup y = some c)
    (hix : ∀ j ∈ ix, ∃ y, X.N[j]? = some y ∧ X.env.kindOf y = some .cell ∧ (relabel sc X.env).names.lookup y = some .cell)
    (hs : ∀ x, foldedSetIterable iter X.env x = pure x := by intro _; rfl) :
    PE X (.ListComp elt [⟨.Tuple [.Name x px, .Name x2 px2] kt ptt, iter, ifs, 0⟩] sc pos) (tComp2 X.K ix wi tc te) := by
  intro pins s σ H Q I h
  rw [eval_ListComp]
  refine wpAny_comprehension_free (use := none) rfl hs hcl hkind hnames (thn (hi pins s σ H _ I h) fun v s1 h1 => thn h1 fun itv s2 h2 => ?_)
  obtain ⟨it, fp, tn, J, H2, e, I2, T, st2, f2, q2⟩ := h2
  subst e
  have fr2 : H2 s2.heap.objs.size = none := I2.hok.fresh (Nat.le_refl _)
  obtain ⟨W, ⟨m0, w0⟩, turn⟩ := q2 s2.heap.objs.size fr2
  refine wpAny_newObj_type ?_
  have I3 : Inv X pins σ (upd H2 s2.heap.objs.size (.lst [])) { s2 with heap := s2.heap.push { cls := .type "list", dict := none, data := .seq ([] : List Value).toArray } } := by
    exact I2.lnew (its := []) (ys := []) (t' := s2.toks) .nil (Nat.zero_le _)
  have lt2 : ∀ b ∈ fp, b < s2.heap.objs.size := fun b hb => by
    obtain ⟨o, ho, _⟩ := T.obj _ _ st2 b hb
    exact Heap.lt_size ho
  have f3 : ∀ b ∈ fp, FpOk X pins (upd H2 s2.heap.objs.size (.lst [])) b := fun b hb => ⟨by rw [upd_ne (Nat.ne_of_lt (lt2 b hb))]; exact (f2 b hb).1, (f2 b hb).2⟩
  generalize hs3 : ({ s2 with heap := s2.heap.push { cls := .type "list", dict := none, data := .seq ([] : List Value).toArray } } : Shared) = s3 at I3
  have hsz3 : s2.heap.objs.size ≤ s3.heap.objs.size := by rw [← hs3]; show _ ≤ (s2.heap.push _).objs.size; rw [Heap.size_push]; exact Nat.le_succ _
  have tn3 : tn 0 s3.heap := T.keep _ _ _ st2 fun b _ o e => by rw [← hs3]; exact Heap.get?_push_of_some _ e
  have lt3 : ∀ b ∈ fp, b < s3.heap.objs.size := fun b hb => Nat.lt_of_lt_of_le (lt2 b hb) hsz3
  refine wpAny_newFunctionEnv hcell (by intro y hy; simp at hy) (fun h4 hns4 hsb4 => ?_) hkind
  have old : ∀ b o, s3.heap.get? b = some o → h4.get? b = some o := fun b o e => hsb4.extBut b o (Nat.ne_of_lt (Heap.lt_size e)) (Heap.get?_push_of_some _ e)
  have I4 := inv_blk2 (m := _) (tk := s3.toks + ([] : List (Str × Value)).length) (N := N) I3 hkind hN hsub hhas hix f3 lt3 hns4 old
  have tn4 : tn 0 h4 := T.keep _ _ _ tn3 fun b _ o e => old b o e
  have fpB : ∀ {H' : Hp}, (∀ b ∈ fp, H' b = none) → ∀ b ∈ fp, FpOk (blk X N s3 (upd H2 s2.heap.objs.size (.lst [])) sc cl s3.heap.objs.size fp) [] H' b := fun {H'} hn b hb =>
    ⟨hn b hb, Nat.ne_of_lt (lt3 b hb), I4.ok.exfs b hb, .inl hb, fun y c e => (I4.ok.exf b hb).2 y c e, fun p hp => absurd (show p ∈ ([] : List (Addr × Obj)) from hp) (by simp)⟩
  have loop : codeAny (model X.prog X.w) X.A (.compLoop (.ListComp elt [⟨.Tuple [.Name x px, .Name x2 px2] kt ptt, iter, ifs, 0⟩] sc pos) 0 (.ref it) (.ref s2.heap.objs.size) (compEnvC sc cl s3.heap.objs.size X.env))
      (compPost (model X.prog X.w) X.A X.xe none (EP X pins σ Q) (.ref s2.heap.objs.size) s3.heap.objs.size) { s3 with heap := h4, toks := s3.toks + ([] : List (Str × Value)).length } := by
    refine compLoop_go (fun n s' => ∃ i v0 v1 H', Inv (blk X N s3 (upd H2 s2.heap.objs.size (.lst [])) sc cl s3.heap.objs.size fp) [] (v0 :: v1 :: frees σ ix) H' s' ∧ tn i s'.heap ∧ (∀ b ∈ fp, H' b = none) ∧ W i n H') ?_ m0
      ⟨0, none, none, _, I4, tn4, fun b hb => (f3 b hb).1, w0⟩
    rintro n s5 ⟨i, v0, v1, H5, I5, st5, fr5, w5⟩
    rcases turn i n H5 w5 with ⟨stop, qn⟩ | ⟨go, step⟩
    · refine thn (T.done (blk X N s3 (upd H2 s2.heap.objs.size (.lst [])) sc cl s3.heap.objs.size fp) rfl rfl rfl hc i [] s5 _ H5 _ I5 (fpB fr5) st5 stop) fun r s6 ⟨hr, I6⟩ => ?_
      subst hr
      obtain ⟨mm, hm, _⟩ := I6.loc
      refine ⟨mm, hm, fun h7 sb7 => ?_⟩
      have I7 : Inv X pins σ H5 { s6 with heap := h7 } := by
        have hC : H5 s3.heap.objs.size = none := I6.free
        have hc3 : s3.heap.get? s3.heap.objs.size = none := Heap.get?_none_of_le (Nat.le_refl _)
        have up : ∀ b o, b ≠ s3.heap.objs.size → s6.heap.get? b = some o → h7.get? b = some o := fun b o hb e => sb7.extBut b o hb e
        have neC : ∀ b o, s3.heap.get? b = some o → b ≠ s3.heap.objs.size := fun b o e => Nat.ne_of_lt (Heap.lt_size e)
        have u := I6.base
        refine I3.call' (s' := { s6 with heap := h7 }) (ch := fp) I6.os ⟨fun b o e n hb hx => ?_, fun b o e n hb hx => ?_, fun b o e n hx => u.free b o e n hx, fun b o e hx => ?_, u.tups, u.frzs, u.tbls⟩ (fun b o e => ?_) I6.bare fun b hb => ⟨(f3 b hb).2.2.2.1, (f3 b hb).2.1, (f3 b hb).2.2.2.2.1, (f3 b hb).2.2.2.2.2⟩
        · exact up b o (neC b o e) (u.keep b o e n hb hx)
        · obtain ⟨sl, e1⟩ := u.slot b o e n hb hx
          exact ⟨sl, up b _ (neC b o e) e1⟩
        · obtain ⟨o', e1⟩ := u.there b o e hx
          exact ⟨o', up b _ (neC b o e) e1⟩
        · refine (I6.hok b o e).stay (fun c v hc' q => up c v ?_ q) (fun _ q => q) fun _ _ q => q
          rintro rfl
          rcases hc' with z | z
          · rw [← z, hC] at e; cases e
          · rw [hC] at z; cases z
      exact ⟨.ref s2.heap.objs.size, H5, I7, rfl, qn⟩
    · refine thn (T.item (blk X N s3 (upd H2 s2.heap.objs.size (.lst [])) sc cl s3.heap.objs.size fp) rfl rfl rfl hc i [] s5 _ H5 _ I5 (fpB fr5) st5 go) fun r s6 ⟨u, hr, h6⟩ => ?_
      subst hr
      refine thn h6 fun _ s7 ⟨y, H7, I7, r7, y7, st7, fr7⟩ => ?_
      have I7' := I7.pinned (fpB fr7) (T.obj _ _ st7)
      obtain ⟨pp, ya, yb, rfl, hpp, step7⟩ := step y H7 y7
      have hPG : PG (blk X N s3 (upd H2 s2.heap.objs.size (.lst [])) sc cl s3.heap.objs.size fp) (.Tuple [.Name x px, .Name x2 px2] kt ptt) (gTup X.K 2 (gCons (gName 0) (gCons (gName 1) gNil))) :=
        pg_tup hc (pgs_cons (pg_name (i := 0) hnd (by show N[0]? = some x; rw [hN]; rfl) (.inl (lookup_relabel_local hx)) (.inr (lookup_relabel_local hx))) (pgs_cons (pg_name (i := 1) hnd (by show N[1]? = some x2; rw [hN]; rfl) (.inl (lookup_relabel_local hx2)) (.inr (lookup_relabel_local hx2))) pgs_nil))
      refine thn (hPG _ s7 _ H7 (.ref pp) _ (fun σ' H' => σ' = some ya :: some yb :: frees σ ix ∧ H' = H7) I7' r7 ⟨pp, _, rfl, hpp, rfl, _, _, rfl, _, _, rfl, rfl, rfl, rfl⟩) fun _ s8 ⟨σ8, H8, I8, eσ, eH⟩ => ?_
      subst eσ eH
      refine thn (hif _ _ _ _ _ s8 _ H8 _ I8 step7) fun ok s9 ⟨H9, I9, q9⟩ => ?_
      have again : ∀ {H' : Hp} {s' : Shared} {m' : Nat}, Inv (blk X N s3 (upd H2 s2.heap.objs.size (.lst [])) sc cl s3.heap.objs.size fp) ([] ++ pinsAt fp s7.heap) (some ya :: some yb :: frees σ ix) H' s' → m' < n → W (i + 1) m' H' →
          ∃ m, m < n ∧ ∃ i v0 v1 H', Inv (blk X N s3 (upd H2 s2.heap.objs.size (.lst [])) sc cl s3.heap.objs.size fp) [] (v0 :: v1 :: frees σ ix) H' s' ∧ tn i s'.heap ∧ (∀ b ∈ fp, H' b = none) ∧ W i m H' := fun {H' s' m'} Ia hm wa => by
        refine ⟨m', hm, i + 1, some ya, some yb, H', Ia.unpinned, T.keep _ _ _ st7 fun b hb o e => (Ia.pin (b, o) (List.mem_append_right _ (List.mem_append_right _ (mem_pinsAt hb e)))).1, fun b hb => ?_, wa⟩
        obtain ⟨o, e, d⟩ := T.obj _ _ st7 b hb
        exact (Ia.pin (b, o) (List.mem_append_right _ (List.mem_append_right _ (mem_pinsAt hb e)))).2.1
      cases ok with
      | false =>
        rw [if_neg Bool.false_ne_true] at q9 ⊢
        obtain ⟨m', hm, wa⟩ := q9
        exact again I9 hm wa
      | true =>
        rw [if_pos rfl] at q9 ⊢
        refine thn (he _ _ _ _ _ s9 _ H9 _ I9 q9) fun v10 s10 ⟨z, H10, I10, r10, ys, hD, hl, m', hm, wa⟩ => ?_
        exact thn (mt_append _ s10 _ H10 (.ref s2.heap.objs.size) [z] (.ref s2.heap.objs.size) [v10] (fun _ H' => H' = upd H10 s2.heap.objs.size (.lst (ys ++ [z]))) I10 rfl (.cons r10 .nil) ⟨_, ys, z, rfl, rfl, hD, hl, rfl⟩)
          fun _ s11 ⟨_, H11, I11, _, e11⟩ => again I11 hm (by rw [e11]; exact wa)
  subst hs3
  exact codeAny_compStart_list loop (T.self _ 0 _ _ _ tn4 loop)
theorem qe_comp2G {X : Cx} {elt iter : Expr} {x x2 : Str} {px px2 ptt pos : Pos} {kt : Nat} {ifs : List Expr} {sc : Scope} {cl : List (Str × Addr)} {wi : TI} {tc : TT} {te : TE} {K : PySem.W.Frag} (hK : X.K = K) (N : List Str) (ix : List Nat) (hi : QI X (.Tuple [.Name x px, .Name x2 px2] kt ptt) iter wi)
    (hif : ∀ s H C ex, QTs (blk X N s H sc cl C ex) ifs tc) (he : ∀ s H C ex, QE (blk X N s H sc cl C ex) elt te)
    (hcl : closureFor sc X.env = pure cl := by rfl) (hcs : ClIn X.env.cells cl := by repeat' first | with_unfolding_all rfl | constructor) (hN : N = x :: x2 :: ix.map (fun j => (X.N[j]?).getD "") := by rfl) (hnd : N.Nodup := by decide +kernel)
    (hkm : cl.map (·.1) = N.tail.tail := by rfl) (hkB : ((relabel sc X.env).names.all fun y => (match y.2 with | .cell => false | .free => false | _ => true) || decide (y.1 ∈ N.tail.tail)) = true := by with_unfolding_all rfl)
    (hix : IxIn X sc ix := by repeat' first | with_unfolding_all rfl | constructor)
    (hx : sc.names.lookup x = some .local := by decide +kernel) (hx2 : sc.names.lookup x2 = some .local := by decide +kernel) (hcell : ∀ z ∈ sc.names, z.2 ≠ .cell := by decide +kernel)
    (hnames : ∀ z ∈ sc.names, z.2 = .local → sc.names.lookup z.1 = some .local := by decide +kernel)
    (hc : X.calm = true := by rfl) (hkind : sc.kind = .function := by rfl) (hs : ∀ x, foldedSetIterable iter X.env x = pure x := by intro _; rfl) :
    QE X (.ListComp elt [⟨.Tuple [.Name x px, .Name x2 px2] kt ptt, iter, ifs, 0⟩] sc pos) (tComp2 K ix wi tc te) := by
  subst hK
  exact ⟨pe_comp2 N hc hi.run (fun s H C ex => (hif s H C ex).run) (fun s H C ex => (he s H C ex).run) hkind hN hnd hx hx2 hcl hcell hnames (cl_sub hcs.all) (cl_has hkm hkB) hix.all hs⟩
end
end L2
namespace Ka
open PySem PyProof.Rows
theorem lk_keys : typeLookup (.type "list") "keys" = pure none := by rw [typeLookup_type, builtinLookup_eq_fast]; kernel_rfl
theorem lk_ga : typeLookup (.type "list") "__getattr__" = pure none := by rw [typeLookup_type, builtinLookup_eq_fast]; kernel_rfl
theorem sub_att : isSubtype (.type "AttributeError") (.type "AttributeError") = pure true := by rw [isSubtype_type]; kernel_rfl
section
variable {prog : Program} {w : World} {A : Around} {E : Value → Shared → Prop} {h : Heap} {g : Array GenState} {d : Drawn} {t : Nat} {os : OsState} {a : Addr} {o : Obj}
theorem entry {tk : Tok} {Q : Fin → Shared → Prop} (hh : A.handled = none) {xs : Array Value} {n : Nat} {sl : Array (Option Value)} (hx : h.get? a = some { cls := .type "list", dict := none, data := .seq xs n, slots := sl })
    (hq : ∀ h' e t', (∀ b u, h.get? b = some u → h'.get? b = some u) → (∃ oe, h'.get? e = some oe ∧ oe.cls = .type "AttributeError") → h.objs.size ≤ h'.objs.size → E (.ref e) ⟨h', g, d, t', os⟩) :
    wpAny (model prog w) A (Builtin.«object.__getattribute__» ⟨[.ref a, .str "keys" tk], []⟩) Q E ⟨h, g, d, t, os⟩ := by
  have hT : (⟨h, g, d, t, os⟩ : Shared).TypeIs (.ref a) "list" := ⟨_, hx, rfl⟩
  have f4 := lk_keys
  repeat (any_goals (first | assumption | wp_step))
  have hm : (Str.ofString (toString "'" ++ toString ((Manifest.find? "list").elim "list" fun x => x.tpName) ++ toString "' object has no attribute '") ++ Str.ofString "keys" ++ Str.ofString "'").length ≤ sizeLine := by decide +kernel
  generalize (Str.ofString (toString "'" ++ toString ((Manifest.find? "list").elim "list" fun x => x.tpName) ++ toString "' object has no attribute '") ++ Str.ofString "keys" ++ Str.ofString "'") = msg at hm ⊢
  unfold raiseAttrError
  repeat (any_goals (first | assumption | wp_step))
  have f5 : isSubtype (.type "AttributeError") (.type "AttributeError") = pure true := sub_att
  dsimp only
  repeat (any_goals (first | assumption | wp_step))
  generalize hO : ({ cls := Value.type "AttributeError", data := _ } : Obj) = oe
  generalize hT2 : ({ cls := Value.type "tuple", data := Data.seq #[Value.str msg t] } : Obj) = ot
  have hoc : oe.cls = .type "AttributeError" := by rw [← hO]
  have hof : ∃ vs, oe.data = .fields vs := ⟨_, by rw [← hO]⟩
  obtain ⟨vs, hvs⟩ := hof
  have e1 : ((h.push ot).push oe).get? (h.push ot).objs.size = some oe := Heap.get?_push_size _ (by rw [← hO]; rfl)
  refine wpAny_raiseNew_none hh (hq _ _ _ (fun b u hb => ?_) ⟨_, Heap.get?_update_self _ e1 (Obj.isFreed_of_fields (Obj.data_mapFields hvs _)), (Obj.cls_mapFields ..).trans hoc⟩ ?_)
  · have hlt := Heap.lt_size (Heap.get?_push_of_some ot hb)
    rw [Heap.get?_update_ne _ _ _ _ (Nat.ne_of_lt hlt)]
    exact Heap.get?_push_of_some _ (Heap.get?_push_of_some _ hb)
  · rw [Heap.size_update, size_push', size_push']; omega
theorem attr {Q : Option Value → Shared → Prop} (hh : A.handled = none) {xs : Array Value} {n : Nat} {sl : Array (Option Value)} (hx : h.get? a = some { cls := .type "list", dict := none, data := .seq xs n, slots := sl })
    (hq : ∀ h' t', (∀ b u, h.get? b = some u → h'.get? b = some u) → h.objs.size ≤ h'.objs.size → Q none ⟨h', g, d, t', os⟩) : wpAny (model prog w) A (getAttr? (.ref a) "keys") Q E ⟨h, g, d, t, os⟩ := by
  have hT : (⟨h, g, d, t, os⟩ : Shared).TypeIs (.ref a) "list" := ⟨_, hx, rfl⟩
  have hT1 : (⟨h, g, d, t + 1, os⟩ : Shared).TypeIs (.ref a) "list" := ⟨_, hx, rfl⟩
  have f2 := F.slot_list_getattribute.lookup
  have f3 := F.slot_list_getattribute.bind (.ref a)
  have f5 : isSubtype (.type "AttributeError") (.type "AttributeError") = pure true := sub_att
  unfold getAttr? getAttrBy?
  repeat (any_goals (first | assumption | wp_step))
  refine codeAny_call_builtin F.slot_list_getattribute.plain F.entry_list_ga (F.slot_list_getattribute.check _ _ _ _ _ _ _ _ hT1 (F.args_list_getattribute_2 _ _) (entry ?_ hx fun h' e t' k he hs => ?_))
  · exact hh
  obtain ⟨oe, he1, he2⟩ := he
  have hTe : (⟨h', g, d, t', os⟩ : Shared).TypeIs (.ref e) "AttributeError" := ⟨_, he1, he2⟩
  have f6 := lk_ga
  have hfin := hq h' t' k hs
  show wpAny (model prog w) A (getattributeRaised (Value.ref a) (Value.str (Str.ofString "keys") t) (Value.type "list") (.ref e) none false false) _ _ _
  repeat (any_goals (first | assumption | wp_step))
end
end Ka
namespace Ka
open PySem
theorem plain_loop : plainId "dict.update.loop" = true := by decide +kernel
theorem entry_loop : entryFor table "dict.update.loop" = some Builtin.«dict.update.loop» := entryFor_of_fast (by kernel_rfl)
end Ka
namespace L2
open PySem PySem.Spec PyProof.Rows
noncomputable def kk (kv : Str × V) : Key × V := (Sum.inr kv.1, kv.2)
section
variable {X : Cx} {pins : List (Addr × Obj)} {σ : St} {H : Hp} {a p it : Addr} {ts : List Addr} {kvs : List (Str × V)}
noncomputable def Hd (H : Hp) (p : Addr) (kvs : List (Str × V)) (i : Nat) : Hp := upd H p (.dK ((kvs.take i).map kk))
theorem valV_kk : ∀ {kvs : List (Str × V)} {x : Str}, ¬ x ∈ kvs.map (·.1) → valV (kvs.map kk) (Sum.inr x) = none
  | [], _, _ => rfl
  | kv :: kvs, x, h => by
    rw [List.map_cons, valV_neg (fun e => h (by rw [List.map_cons]; exact List.mem_cons.mpr (.inl (Sum.inr.inj e).symm)))]
    exact valV_kk fun z => h (List.mem_cons_of_mem _ z)
theorem hd_put (hn : (kvs.map (·.1)).Nodup) {i : Nat} {kv : Str × V} (hi : kvs[i]? = some kv) : putK ((kvs.take i).map kk) (Sum.inr kv.1) kv.2 = (kvs.take (i + 1)).map kk := by
  rw [List.take_add_one, hi, List.map_append, putK_new]
  · rfl
  · refine valV_kk fun z => ?_
    obtain ⟨hlt, rfl⟩ := List.getElem?_eq_some_iff.mp hi
    rw [List.map_take] at z
    obtain ⟨j, hj⟩ := List.getElem?_of_mem z
    have hj' := (List.getElem?_eq_some_iff.mp hj).1
    rw [List.length_take, List.length_map] at hj'
    rw [List.getElem?_take_of_lt (by omega)] at hj
    have e : (kvs.map (·.1))[i]? = some kvs[i].1 := by rw [List.getElem?_map, hi]; rfl
    have := (List.getElem?_inj (by rw [List.length_map]; omega) hn).mp (hj.trans e.symm)
    omega
theorem same_sqL {K : PySem.W.Frag} {H H' : Hp} {l : Addr} {xs : List V} (e : Same H H') (h : SqL K H l xs) : SqL K H' l xs := by
  rcases h with (h | ⟨o, h⟩) | h
  · exact .inl (.inl (e _ _ h))
  · exact .inl (.inr ⟨o, e _ _ h⟩)
  · exact .inr h
theorem pnthK {α β : Type} {F : α → β → Prop} : ∀ {l₁ : List α} {l₂ : List β} {i : Nat} {a : α} {b : β}, Paired F l₁ l₂ → l₁[i]? = some a → l₂[i]? = some b → F a b
  | _, _, 0, _, _, .cons h r, e1, e2 => by cases e1; cases e2; exact h
  | _, _, i + 1, _, _, .cons h r, e1, e2 => pnthK (i := i) r (by simpa using e1) (by simpa using e2)
theorem dict_loop {A : Around} {R : Result → Shared → Prop} (hh : A.handled = none) (hp : H p = none) (hl : SqL X.K H a (ts.map V.ref)) (hts : Paired (fun t (kv : Str × V) => SqT X.K H t [.str kv.1, kv.2]) ts kvs) (hn : (kvs.map (·.1)).Nodup) (hz : ts.length ≤ 1000) (hip : it ≠ p) :
    ∀ (k i : Nat) (s : Shared), kvs.length - i = k → i ≤ kvs.length → Inv X pins σ (Hd H p kvs i) s → s.heap.IsListIter it a i → (∀ b ∈ [it], FpOk X pins (Hd H p kvs i) b) →
      (∀ s', Inv X pins σ (Hd H p kvs kvs.length) s' → R (.ok (.ret .none)) s') → codeAny (model X.prog X.w) A (.builtin "dict.update.loop" ⟨[.ref p, .ref it, .int i 0, .none], []⟩) R s := by
  have hSame : ∀ i, Same H (Hd H p kvs i) := fun i => same_new hp _
  have hlen := Paired.length hts
  intro k
  induction k with
  | zero =>
    intro i s hk hi I hit hf q
    have e : i = kvs.length := by omega
    obtain ⟨its, rv, pl, _⟩ := I.list (same_sqL (hSame i) hl)
    have hil := rv.length
    rw [List.length_map] at hil
    refine codeAny_builtin Ka.entry_loop ?_
    rw [Around.under_plainId Ka.plain_loop _]
    show wpAny _ A.in1 (pyNext (.ref it) >>= _) _ _ s
    refine wpAny_bind (wpAny_pyNext_list_end hh hit pl.isList (by rw [List.getElem?_toArray, List.getElem?_eq_none (by omega)]) fun h' hk' => ?_)
    have I' : Inv X pins σ (Hd H p kvs i) { s with heap := h' } := I.turnedL (ch := [it]) (t' := s.toks) (fun b o hb e => hk' b o (by simpa using hb) e) hf
    refine wpAny_bind (wpAny_pure (wpAny_pure (q _ ?_)))
    rw [← e]; exact I'
  | succ k ih =>
    intro i s hk hi I hit hf q
    have hlt : i < kvs.length := by omega
    have hkv : kvs[i]? = some kvs[i] := List.getElem?_eq_getElem hlt
    have ht : ts[i]? = some (ts[i]'(by omega)) := List.getElem?_eq_getElem _
    generalize ts[i]'(by omega) = t at ht
    generalize hg : kvs[i] = kv at hkv
    have hsq := pnthK hts ht hkv
    obtain ⟨its, rv, pl, _⟩ := I.list (same_sqL (hSame i) hl)
    have hx : its[i]? = some (.ref t) := by
      obtain ⟨u, hu, ru⟩ := rv.get (x := .ref t) (i := i) (by rw [List.getElem?_map, ht]; rfl)
      cases ru; exact hu
    refine codeAny_builtin Ka.entry_loop ?_
    rw [Around.under_plainId Ka.plain_loop _]
    show wpAny _ A.in1 (pyNext (.ref it) >>= _) _ _ s
    refine wpAny_bind (wpAny_pyNext_list_item hit pl.isList (by rw [List.getElem?_toArray]; exact hx) fun h' hit' hs' => ?_)
    have I' : Inv X pins σ (Hd H p kvs i) { s with heap := h' } := I.turnedL (ch := [it]) (t' := s.toks) (fun b o hb e => (hs'.2 b (by simpa using hb)).trans e) hf
    obtain ⟨jts, rj, tp, _⟩ := I'.tuple ((hSame i).seqT hsq)
    obtain ⟨u1, u2, rfl, r1, r2⟩ : ∃ u1 u2, jts = [u1, u2] ∧ RelV (.str kv.1) u1 ∧ RelV kv.2 u2 := by
      cases rj with
      | cons a1 b1 => cases b1 with
        | cons a2 b2 => cases b2; exact ⟨_, _, rfl, a1, a2⟩
    obtain ⟨⟨c3, d3, dt3, sl3⟩, ho3, hc3, n3, hd3⟩ := id tp
    dsimp only at hc3 hd3
    subst hc3 hd3
    dsimp only
    refine wpAny_bind (wpAny_holding ?_)
    refine wpAny_bind (wpAny_tryCatch ?_)
    unfold Builtin.Dict.pairItems
    refine wpAny_bind (wpAny_typeOf (T := "tuple") ⟨_, ho3, rfl⟩ ?_)
    rw [if_pos (by decide)]
    refine wpAny_bind (wpAny_seqItems ho3 rfl (wpAny_pure ?_))
    refine wpAny_holding ?_
    obtain ⟨z, hd, vs, rel, dd⟩ := dk_of I'.hok (show (Hd H p kvs i) p = some (.dK ((kvs.take i).map kk)) from upd_same)
    have hvz : vs.length ≤ sizeLine := by rw [← rel.length]; exact z
    refine wpAny_dictSet_pairs (s := { s with heap := h' }) (hsz := hvz) (kV_is (k := Sum.inr kv.1) r1) dd fun h2 dd2 hs2 => ?_
    have hmu : Mut ((Hd H p kvs i) p) := by rw [show (Hd H p kvs i) p = some (.dK ((kvs.take i).map kk)) from upd_same]; exact True.intro
    have he : ∃ q, h2.get? p = some q := let ⟨q, _, _, hq, _⟩ := dd2; ⟨q, hq⟩
    have hpl : (putK ((kvs.take i).map kk) (Sum.inr kv.1) kv.2).length ≤ sizeLine := by
      have := length_putK ((kvs.take i).map kk) (Sum.inr kv.1) kv.2
      rw [List.length_map, List.length_take] at this
      exact Nat.le_of_lt (small1000 (by omega))
    have I2 : Inv X pins σ (Hd H p kvs (i + 1)) { s with heap := h2, toks := s.toks + 1 } := by
      have := d_write (t' := s.toks + 1) (ob := .dK (putK ((kvs.take i).map kk) (Sum.inr kv.1) kv.2)) I' hmu hs2 he (dk_new hpl hd (rel.put (Sum.inr kv.1) r2) dd2)
      rw [hd_put hn hkv] at this
      have e : upd (Hd H p kvs i) p (.dK ((kvs.take (i + 1)).map kk)) = Hd H p kvs (i + 1) := by
        funext b; unfold Hd
        by_cases c : b = p
        · rw [c, upd_same, upd_same]
        · rw [upd_ne c, upd_ne c, upd_ne c]
      rw [e] at this; exact this
    refine wpAny_pure ⟨plainId_quiet Ka.plain_loop _, ih (i + 1) _ (by omega) hlt I2 ?_ (fun b hb => ?_) q⟩
    · obtain ⟨o, g1, g2⟩ := hit'
      exact ⟨o, (hs2.2 it hip).trans g1, g2⟩
    · have hb' : b = it := by simpa using hb
      subst hb'
      have f0 := hf b hb
      refine ⟨?_, f0.2⟩
      have := f0.1
      unfold Hd at this ⊢
      rw [upd_ne hip] at this ⊢
      exact this
noncomputable def rDictP (K : PySem.W.Frag) : List V → Hp → VK → Prop := fun xs H Q => ∃ (a : Addr) (ts : List Addr) (kvs : List (Str × V)), xs = [V.ref a] ∧ SqL K H a (ts.map V.ref) ∧ Paired (fun t (kv : Str × V) => SqT K H t [.str kv.1, kv.2]) ts kvs ∧ (kvs.map (·.1)).Nodup ∧ ts.length ≤ 1000 ∧ ∀ p, H p = none → Q (.ref p) (upd H p (.dK (kvs.map kk)))
theorem call_dictP {K : PySem.W.Frag} (hK : X.K = K) (hc : X.calm = true) : CallR X (.type "dict") (rDictP K) := by
  subst hK
  intro pins s σ H xs us Q I r h
  obtain ⟨a, ts, kvs, rfl, hl, hts, hn, hz, q⟩ := h
  obtain ⟨u, rfl, ru⟩ := vals1 r
  cases ru
  have hlen := Paired.length hts
  refine callType_codes (Q₁ := fun obj s₁ => obj = .ref s.heap.objs.size ∧ s₁ = { s with heap := s.heap.push { cls := .type "dict", data := .dict #[] } }) F.kt_called_dict (F.kt_typeCall_dict_1 _) F.entry_dict_init (kt_code_dict_new _ ⟨rfl, rfl⟩) ?_
  rintro obj s₁ ⟨rfl, rfl⟩
  have fr : H s.heap.objs.size = none := I.hok.fresh (Nat.le_refl _)
  have I1 : Inv X pins σ (upd H s.heap.objs.size (.dK [])) { s with heap := s.heap.push { cls := .type "dict", data := .dict #[] } } := I.laid (t' := s.toks) (fun b o e => Heap.get?_push_of_some _ e) (Nat.le_refl _) (dk_empty _ I.big)
  have hnew : (s.heap.push { cls := .type "dict", data := .dict #[] }).get? s.heap.objs.size = some { cls := .type "dict", data := .dict #[] } := Heap.get?_push_size _ rfl
  refine ⟨⟨_, hnew, rfl⟩, F.args_dict_init_2 _ _, ?_⟩
  unfold Builtin.«dict.__init__»
  refine wpAny_bind ?_
  unfold Builtin.Dict.selfAndRest
  refine wpAny_bind (wpAny_notOrdered_dict ⟨_, hnew, rfl⟩ ?_)
  show wpAny _ _ (pure (s.heap.objs.size, [Value.ref a])) _ _ _
  refine wpAny_pure ?_
  show wpAny _ _ (Builtin.Dict.updateFrom "dict.__init__" s.heap.objs.size (.ref a) [] .none) _ _ _
  obtain ⟨its, rv, ⟨⟨oc, od, odt, osl⟩, n, e1, e2, e3, e4⟩, _⟩ := I1.list (same_sqL (same_new fr _) hl)
  dsimp only at e2 e3 e4
  subst e2 e3 e4
  unfold Builtin.Dict.updateFrom
  refine wpAny_bind (wpAny_typeOf (T := "list") ⟨_, e1, rfl⟩ ?_)
  rw [if_pos (by decide)]
  refine wpAny_bind (Ka.attr (A := X.A.in1.in1) (show X.A.in1.in1.handled = none from I1.ok.hd hc) e1 fun h2 t2 k2 z2 => ?_)
  rw [if_pos (show (none : Option Value).isNone = true from rfl)]
  refine wpAny_bind (wpAny_rule ?_)
  have e1' := k2 _ _ e1
  have I2 : Inv X pins σ (upd H s.heap.objs.size (.dK [])) { s with heap := h2, toks := t2 } := I1.kept (t' := t2) fun b o e => k2 b o e
  refine wpAny_bind (wpAny_pyIter_list (s := { s with heap := h2, toks := t2 }) (items := its.toArray) ⟨_, e1', rfl, _, rfl⟩ ?_)
  have hge : s.heap.objs.size < h2.objs.size := Heap.lt_size (k2 _ _ hnew)
  have I3 : Inv X pins σ (upd H s.heap.objs.size (.dK [])) { s with heap := h2.push { cls := .type "list_iterator", data := .fields #[.ref a, .int 0 0] }, toks := t2 } := I2.kept (t' := t2) fun b o e => Heap.get?_push_of_some _ e
  have hit : (h2.push { cls := .type "list_iterator", data := .fields #[.ref a, .int 0 0] }).IsListIter h2.objs.size a 0 := ⟨_, Heap.get?_push_size _ rfl, rfl, rfl⟩
  refine wpAny_pure ⟨plainId_quiet Ka.plain_loop _, dict_loop (kvs := kvs) (show X.A.in1.handled = none from I1.ok.hd hc) fr hl hts hn hz (Nat.ne_of_gt hge) kvs.length 0 _ rfl (Nat.zero_le _) I3 hit (fun b hb => ?_) fun s' I' => ?_⟩
  · have hb' : b = h2.objs.size := by simpa using hb
    subst hb'
    exact I2.fpOk (Nat.le_refl _) (by show (upd H s.heap.objs.size (.dK [])) h2.objs.size = none; rw [upd_ne (Nat.ne_of_gt hge)]; exact I2.hok.fresh (Nat.le_refl _) |> fun z => by rw [upd_ne (Nat.ne_of_gt hge)] at z; exact z)
  · refine ⟨rfl, .ref s.heap.objs.size, _, I', rfl, ?_⟩
    have := q s.heap.objs.size fr
    unfold Hd
    rw [List.take_length]
    exact this
end
end L2
namespace TS
open PySem PySem.W PyProof.Rows
section
variable {α β : Type} {N : Nat} {lt : Nat → Nat → Bool} {p : Array Nat}
noncomputable def pw (N : Nat) (lt : Nat → Nat → Bool) : KasT α → (α → Prop) → Prop
  | .ret a, Q => Q a
  | .ask i j k, Q => i < N ∧ j < N ∧ pw N lt (k (lt i j)) Q
theorem pw_bind {f : α → KasT β} {Q : β → Prop} : ∀ {t : KasT α}, pw N lt t (fun a => pw N lt (f a) Q) → pw N lt (t.bind f) Q
  | .ret _, h => h
  | .ask i j k, ⟨h1, h2, h3⟩ => ⟨h1, h2, pw_bind h3⟩
theorem pw_wp {cmp : Nat → Nat → (Bool → Shared → Prop) → Shared → Prop} {s : Shared} {Q : α → Prop} (hc : ∀ i j C, i < N → j < N → C (lt i j) s → cmp i j C s) {R : α → Shared → Prop} (hq : ∀ a, Q a → R a s) : ∀ {t : KasT α}, pw N lt t Q → t.kasWp cmp R s
  | .ret a, h => hq a h
  | .ask i j k, ⟨h1, h2, h3⟩ => hc i j _ h1 h2 (pw_wp hc hq h3)
structure Ord (N : Nat) (lt : Nat → Nat → Bool) : Prop where
  tr : ∀ i j k, lt i j = true → lt j k = true → lt i k = true
  tot : ∀ i j, i < N → j < N → i ≠ j → lt i j = false → lt j i = true
abbrev gt (p : Array Nat) (i : Nat) : Nat := p.getD i 0
structure Pm (N : Nat) (p : Array Nat) : Prop where
  perm : p.toList.Perm (List.range N)
theorem Pm.size (h : Pm N p) : p.size = N := by
  have := h.perm.length_eq
  rw [List.length_range, Array.length_toList] at this
  exact this
theorem gt_some {i : Nat} (hi : i < p.size) : p[i]? = some (gt p i) := by
  unfold gt; rw [Array.getD_eq_getD_getElem?, Array.getElem?_eq_getElem hi]; rfl
theorem Pm.low (h : Pm N p) {i : Nat} (hi : i < N) : gt p i < N := by
  have h1 := gt_some (p := p) (i := i) (by rw [h.size]; exact hi)
  rw [← Array.getElem?_toList] at h1
  exact List.mem_range.mp (h.perm.mem_iff.mp (List.mem_of_getElem? h1))
theorem Pm.inj (h : Pm N p) {i j : Nat} (hi : i < N) (hj : j < N) (hij : i ≠ j) : gt p i ≠ gt p j := fun e => by
  have h1 := gt_some (p := p) (i := i) (by rw [h.size]; exact hi)
  have h2 := gt_some (p := p) (i := j) (by rw [h.size]; exact hj)
  rw [← Array.getElem?_toList] at h1 h2
  have nd : p.toList.Nodup := h.perm.nodup_iff.mpr List.nodup_range
  rw [e, ← h2] at h1
  exact hij ((List.getElem?_inj (by rw [Array.length_toList, h.size]; exact hi) nd).mp h1)
noncomputable def As (lt : Nat → Nat → Bool) (p : Array Nat) (k : Nat) : Prop := ∀ i j, i < j → j < k → lt (gt p i) (gt p j) = true
theorem asc_ (O : Ord N lt) (hp : Pm N p) {Q : Nat → Prop} : ∀ (f n : Nat), 1 ≤ n → n + f ≤ N → As lt p n → (∀ m, n ≤ m → m ≤ n + f → As lt p m → (m < n + f → lt (gt p m) (gt p (m - 1)) = true) → Q m) → pw N lt (kas_asc p f n) Q
  | 0, n, _, _, a, q => q n (Nat.le_refl _) (Nat.le_refl _) a (fun z => absurd z (Nat.lt_irrefl _))
  | f + 1, n, h1, h2, a, q => by
    refine ⟨hp.low (by omega), hp.low (by omega), ?_⟩
    dsimp only
    by_cases c : lt (gt p n) (gt p (n - 1)) = true
    · rw [if_pos c]
      exact q n (Nat.le_refl _) (by omega) a fun _ => c
    · rw [if_neg c]
      have c' : lt (gt p (n - 1)) (gt p n) = true := O.tot _ _ (hp.low (by omega)) (hp.low (by omega)) (hp.inj (by omega) (by omega) (by omega)) (by simpa using c)
      refine asc_ O hp f (n + 1) (by omega) (by omega) (fun i j hij hj => ?_) fun m e1 e2 e3 e4 => q m (by omega) (by omega) e3 fun z => e4 (by omega)
      by_cases hjn : j < n
      · exact a i j hij hjn
      · have : j = n := by omega
        subst this
        by_cases hi : i = j - 1
        · rw [hi]; exact c'
        · exact O.tr _ _ _ (a i (j - 1) (by omega) (by omega)) c'
theorem desc_ (O : Ord N lt) (hp : Pm N p) {Q : Array Nat × Nat × Nat → Prop} : ∀ (f n : Nat), 1 ≤ n → n + f ≤ N → (∀ i j, i < j → j < n → lt (gt p j) (gt p i) = true) → (∀ m, n ≤ m → m ≤ n + f → (∀ i j, i < j → j < m → lt (gt p j) (gt p i) = true) → Q (p, m, 0)) → pw N lt (kas_desc f p n 0) Q
  | 0, n, _, _, a, q => q n (Nat.le_refl _) (Nat.le_refl _) a
  | f + 1, n, h1, h2, a, q => by
    refine ⟨hp.low (by omega), hp.low (by omega), ?_⟩
    dsimp only
    by_cases c : lt (gt p n) (gt p (n - 1)) = true
    · rw [if_pos c, if_neg (Nat.lt_irrefl 0)]
      refine desc_ O hp f (n + 1) (by omega) (by omega) (fun i j hij hj => ?_) fun m e1 e2 e3 => q m (by omega) (by omega) e3
      by_cases hjn : j < n
      · exact a i j hij hjn
      · have : j = n := by omega
        subst this
        by_cases hi : i = j - 1
        · rw [hi]; exact c
        · exact O.tr _ _ _ c (a i (j - 1) (by omega) (by omega))
    · rw [if_neg c]
      have c' : lt (gt p (n - 1)) (gt p n) = true := O.tot _ _ (hp.low (by omega)) (hp.low (by omega)) (hp.inj (by omega) (by omega) (by omega)) (by simpa using c)
      refine ⟨hp.low (by omega), hp.low (by omega), ?_⟩
      dsimp only
      rw [if_pos c']
      exact q n (Nat.le_refl _) (by omega) a
theorem Pm.of (hp : Pm N p) {p' : Array Nat} (h : p'.Perm p) : Pm N p' := ⟨(Array.perm_iff_toList_perm.mp h).trans hp.perm⟩
theorem gt_of {p' : Array Nat} {i j : Nat} (h : p'[i]? = p[j]?) : gt p' i = gt p j := by
  unfold gt; rw [Array.getD_eq_getD_getElem?, Array.getD_eq_getD_getElem?, h]
theorem rev_ (hp : Pm N p) {m : Nat} (hm : m ≤ N) (a : ∀ i j, i < j → j < m → lt (gt p j) (gt p i) = true) : Pm N (kas_rev p 0 m) ∧ As lt (kas_rev p 0 m) m := by
  refine ⟨hp.of (mirror_perm _ _ _ _), fun i j hij hj => ?_⟩
  have e : ∀ i, i < m → gt (kas_rev p 0 m) i = gt p (m - 1 - i) := fun i hi => gt_of (by
    unfold kas_rev
    rw [getElem?_mirror_all (by rw [hp.size]; exact hm), if_pos ⟨Nat.zero_le _, hi⟩, Nat.zero_add])
  rw [e i (by omega), e j hj]
  exact a _ _ (by omega) (by omega)
theorem count_ (O : Ord N lt) (hp : Pm N p) (hN : 1 ≤ N) {Q : Nat × Array Nat → Prop} (q : ∀ m p', 1 ≤ m → m ≤ N → Pm N p' → As lt p' m → Q (m, p')) : pw N lt (kas_count N p) Q := by
  unfold kas_count
  refine pw_bind (asc_ O hp (N - 1) 1 (Nat.le_refl _) (by omega) (fun i j _ _ => by omega) fun m m1 m2 a hs => ?_)
  by_cases e : (m == N) = true
  · rw [if_pos e]; exact q m p m1 (by omega) hp a
  rw [if_neg e]
  have e' : m ≠ N := fun z => e (by rw [z]; exact beq_self_eq_true _)
  by_cases g : m > 1
  · rw [if_pos g]
    refine ⟨hp.low (by omega), hp.low (by omega), ?_⟩
    dsimp only
    rw [if_pos (a 0 (m - 1) (by omega) (by omega))]
    exact q m p m1 (by omega) hp a
  rw [if_neg g]
  have e1 : m = 1 := by omega
  subst e1
  unfold kas_descPart
  have h10 := hs (by omega)
  refine pw_bind (desc_ O hp (N - 2) 2 (by omega) (by omega) (fun i j hij hj => ?_) fun k k1 k2 d => ?_)
  · have : i = 0 := by omega
    have : j = 1 := by omega
    subst i j
    exact h10
  show pw N lt (if 0 > 0 then _ else kas_tail3 k N p) Q
  rw [if_neg (Nat.lt_irrefl 0)]
  unfold kas_tail3
  obtain ⟨r1, r2⟩ := rev_ hp (by omega) d
  exact pw_bind (asc_ O r1 (N - k) k (by omega) (by omega) r2 fun m' m1 m2 a' _ => q m' _ (by omega) (by omega) r1 a')
theorem place_ (O : Ord N lt) (hp : Pm N p) {k : Nat} (hk : k < N) (a : As lt p k) {Q : Nat → Prop} : ∀ (f l r : Nat), l ≤ r → r ≤ k → r - l ≤ f → (∀ i, i < l → lt (gt p i) (gt p k) = true) → (∀ i, r ≤ i → i < k → lt (gt p k) (gt p i) = true) →
    (∀ l, l ≤ k → (∀ i, i < l → lt (gt p i) (gt p k) = true) → (∀ i, l ≤ i → i < k → lt (gt p k) (gt p i) = true) → Q l) → pw N lt (kas_place p k f l r) Q
  | 0, l, r, h1, h2, h3, b1, b2, q => by
    have : l = r := by omega
    subst this
    exact q l h2 b1 b2
  | f + 1, l, r, h1, h2, h3, b1, b2, q => by
    unfold kas_place
    by_cases g : l ≥ r
    · rw [if_pos g]
      have : l = r := by omega
      subst this
      exact q l h2 b1 b2
    rw [if_neg g]
    have m1 : (l + r) / 2 < r := by omega
    have m2 : l ≤ (l + r) / 2 := by omega
    generalize (l + r) / 2 = m at m1 m2 ⊢
    refine ⟨hp.low hk, hp.low (by omega), ?_⟩
    dsimp only
    by_cases c : lt (gt p k) (gt p m) = true
    · rw [if_pos c]
      refine place_ O hp hk a f l m m2 (by omega) (by omega) b1 (fun i i1 i2 => ?_) q
      by_cases e : i = m
      · rw [e]; exact c
      · exact O.tr _ _ _ c (a m i (by omega) i2)
    · rw [if_neg c]
      have c' : lt (gt p m) (gt p k) = true := O.tot _ _ (hp.low hk) (hp.low (by omega)) (hp.inj hk (by omega) (by omega)) (by simpa using c)
      refine place_ O hp hk a f (m + 1) r (by omega) h2 (by omega) (fun i hi => ?_) b2 q
      by_cases e : i = m
      · rw [e]; exact c'
      · exact O.tr _ _ _ (a i m (by omega) (by omega)) c'
theorem bin_ (O : Ord N lt) {Q : Array Nat → Prop} (q : ∀ p, Pm N p → As lt p N → Q p) : ∀ (f : Nat) {p : Array Nat} (k : Nat), Pm N p → As lt p k → k + f = N → pw N lt (kas_bin f p k) Q
  | 0, p, k, hp, a, e => q p hp (by rw [← e]; exact a)
  | f + 1, p, k, hp, a, e => by
    refine pw_bind (place_ O hp (by omega) a k 0 k (Nat.zero_le _) (Nat.le_refl _) (Nat.le_refl _) (fun i hi => by omega) (fun i i1 i2 => by omega) fun l hl b1 b2 => ?_)
    have ge : ∀ i, gt (bubble p k (k - l)) i = if i = l then gt p k else if l < i ∧ i ≤ k then gt p (i - 1) else gt p i := fun i => by
      have := getElem?_bubble (xs := p) (src := k) (by rw [hp.size]; omega) (k - l) (by omega) i
      rw [show k - (k - l) = l by omega] at this
      by_cases c : i = l
      · rw [if_pos c] at this ⊢; exact gt_of this
      rw [if_neg c] at this ⊢
      by_cases d : l < i ∧ i ≤ k
      · rw [if_pos d] at this ⊢; exact gt_of this
      · rw [if_neg d] at this ⊢; exact gt_of this
    refine bin_ O q f (k + 1) (hp.of (bubble_perm _ _ _)) (fun i j hij hj => ?_) (by omega)
    rw [ge i, ge j]
    by_cases c : i = l
    · rw [if_pos c, if_neg (by omega), if_pos (by omega)]
      exact b2 _ (by omega) (by omega)
    rw [if_neg c]
    by_cases d : l < i ∧ i ≤ k
    · rw [if_pos d, if_neg (by omega), if_pos (by omega)]
      exact a _ _ (by omega) (by omega)
    rw [if_neg d]
    have hil : i < l := by omega
    by_cases e1 : j = l
    · rw [if_pos e1]; exact b1 i hil
    rw [if_neg e1]
    by_cases e2 : l < j ∧ j ≤ k
    · rw [if_pos e2]
      exact a _ _ (by omega) (by omega)
    · rw [if_neg e2]
      exact a _ _ hij (by omega)
theorem sort_ (O : Ord N lt) (hN : 1 ≤ N) : pw N lt (kas_sort N) fun p => Pm N p ∧ As lt p N := by
  unfold kas_sort
  refine pw_bind (count_ O ⟨by simp⟩ hN fun m p m1 m2 hp a => ?_)
  show pw N lt (if m < N then kas_bin (N - max m 1) p (max m 1) else .ret p) _
  have hm : max m 1 = m := Nat.max_eq_left m1
  rw [hm]
  by_cases c : m < N
  · rw [if_pos c]
    exact bin_ O (fun p h1 h2 => ⟨h1, h2⟩) (N - m) m hp a (by omega)
  · rw [if_neg c]
    have : m = N := by omega
    subst this
    exact ⟨hp, a⟩
end
section
open L2 HT
theorem lex_tr : ∀ {a b c : List Int}, lexLt a b = true → lexLt b c = true → lexLt a c = true
  | [], [], _, h, _ => by cases h
  | [], _ :: _, [], _, h => by cases h
  | [], _ :: _, _ :: _, _, _ => rfl
  | _ :: _, [], _, h, _ => by cases h
  | _ :: _, _ :: _, [], _, h => by cases h
  | x :: a, y :: b, z :: c, h1, h2 => by
    rw [lexLt_cons] at h1 h2 ⊢
    by_cases e1 : x = y
    · by_cases e2 : y = z
      · rw [if_pos e1] at h1; rw [if_pos e2] at h2; rw [if_pos (e1.trans e2)]; exact lex_tr h1 h2
      · rw [if_neg e2] at h2
        have := of_decide_eq_true h2
        rw [if_neg (by omega)]; exact decide_eq_true (by omega)
    · rw [if_neg e1] at h1
      have g1 := of_decide_eq_true h1
      by_cases e2 : y = z
      · rw [if_neg (by omega)]; exact decide_eq_true (by omega)
      · rw [if_neg e2] at h2
        have := of_decide_eq_true h2
        rw [if_neg (by omega)]; exact decide_eq_true (by omega)
theorem lex_tot : ∀ {a b : List Int}, a ≠ b → lexLt a b = false → lexLt b a = true
  | [], [], h, _ => absurd rfl h
  | [], _ :: _, _, h => by cases h
  | _ :: _, [], _, _ => rfl
  | x :: a, y :: b, h, h1 => by
    rw [lexLt_cons] at h1 ⊢
    by_cases e : x = y
    · rw [if_pos e] at h1; rw [if_pos e.symm]
      exact lex_tot (fun z => h (by rw [e, z])) h1
    · rw [if_neg e] at h1; rw [if_neg (fun z => e z.symm)]
      have := of_decide_eq_false h1
      exact decide_eq_true (by omega)
variable {prog : Program} {w : World} {A : Around} {E : Value → Shared → Prop} {s : Shared}
theorem lex_ {Q : Bool → Shared → Prop} : ∀ {vs ws : List Value} {ns ms : List Int} (i : Nat), IntsAre vs ns → IntsAre ws ms → Q (lexLt ns ms) s → KatLex prog w A true (decide (ns.length < ms.length)) Q (vs.zip ws) i s
  | _, _, _, _, i, .nil, .nil, h => kat_nil h
  | _, _, _, _, i, .nil, .cons y u r, h => by
    refine kat_nil ?_
    rw [decide_eq_true (by simp)]; exact h
  | _, _, _, _, i, .cons x t r, .nil, h => by
    refine kat_nil ?_
    rw [decide_eq_false (by simp)]; exact h
  | _, _, _, _, i, .cons (ns := ns) x t r, .cons (ns := ms) y u r', h => by
    rw [lexLt_cons] at h
    rw [List.zip_cons_cons]
    refine kat_cons (wpAny_eqBool_int (kat_go (fun e => ?_) (fun e => ?_)))
    · rw [if_pos (by simpa using e)] at h
      refine kat_yes ?_
      have := lex_ (i + 1) r r' h
      rw [List.length_cons, List.length_cons]
      rw [show decide (ns.length + 1 < ms.length + 1) = decide (ns.length < ms.length) from by simp]
      exact this
    · rw [if_neg (by simpa using e)] at h
      refine kat_no ?_
      cases hi : (true && i == 0) with
      | true => exact oneLt_int h
      | false => exact kat_one _ _ (PyProof.Rows.lt_int h)
structure Tups (h : Heap) (vs : List Value) (nss : List (List Int)) : Prop where
  len : nss.length = vs.length
  at_ : ∀ i, i < vs.length → ∃ t its, vs[i]? = some (.ref t) ∧ IsTup h t its.toArray ∧ IntsAre its (nss.getD i []) ∧ nss.getD i [] ≠ []
noncomputable def ky (nss : List (List Int)) (i j : Nat) : Bool := lexLt (nss.getD i []) (nss.getD j [])
theorem ky_ord {nss : List (List Int)} (nd : nss.Nodup) : Ord nss.length (ky nss) where
  tr := fun i j k h1 h2 => lex_tr h1 h2
  tot := fun i j hi hj hij h => lex_tot (fun e => hij (by
    have e1 : nss[i]? = nss[j]? := by
      rw [List.getD_eq_getElem?_getD, List.getD_eq_getElem?_getD, List.getElem?_eq_getElem hi, List.getElem?_eq_getElem hj] at e
      rw [List.getElem?_eq_getElem hi, List.getElem?_eq_getElem hj]; exact congrArg some e
    exact (List.getElem?_inj hi nd).mp e1)) h
theorem getD_some {α : Type} {l : List α} {i : Nat} {a d : α} (h : l[i]? = some a) : l.getD i d = a := by
  rw [List.getD_eq_getElem?_getD, h]; rfl
theorem ask_ {vs : List Value} {nss : List (List Int)} (T : Tups s.heap vs nss) (i j : Nat) (C : Bool → Shared → Prop) (hi : i < vs.length) (hj : j < vs.length) (h : C (ky nss i j) s) : kas_ask prog w A (tuples' true) vs i j C s := by
  obtain ⟨t, its, e1, ⟨⟨c1, d1, dt1, sl1⟩, o1, k1, n1, q1⟩, i1, _⟩ := T.at_ i hi
  obtain ⟨u, jts, e2, ⟨⟨c2, d2, dt2, sl2⟩, o2, k2, n2, q2⟩, i2, _⟩ := T.at_ j hj
  unfold kas_ask
  rw [getD_some e1, getD_some e2]
  refine kat_lt o1 q1 o2 q2 ?_
  have := lex_ (prog := prog) (w := w) (A := A) (s := s) (Q := C) 0 i1 i2 h
  have l1 := i1.length
  have l2 := i2.length
  rw [List.size_toArray, List.size_toArray, l1, l2]
  exact this
theorem kt_ {h : Heap} : ∀ {vs : List Value} {nss : List (List Int)}, (∀ i, i < vs.length → ∃ t its, vs[i]? = some (.ref t) ∧ IsTup h t its.toArray ∧ IntsAre its (nss.getD i []) ∧ nss.getD i [] ≠ []) → ∃ fs, KatTups h vs fs ∧ fs.length = vs.length ∧ ∀ v ∈ fs, ∃ i t, v = .int i t
  | [], _, _ => ⟨[], trivial, rfl, fun _ hv => by cases hv⟩
  | v :: vs, nss, H => by
    obtain ⟨t, its, e1, ⟨⟨c1, d1, dt1, sl1⟩, o1, k1, n1, q1⟩, i1, ne⟩ := H 0 (by simp)
    obtain ⟨fs, h1, h2, h3⟩ := kt_ (h := h) (vs := vs) (nss := nss.tail) (fun i hi => by
      obtain ⟨t, its, a, b, c, d⟩ := H (i + 1) (by simpa using hi)
      have e : nss.tail.getD i [] = nss.getD (i + 1) [] := by cases nss <;> simp
      rw [e]
      exact ⟨t, its, by simpa using a, b, c, d⟩)
    have ev : v = .ref t := by simpa using e1
    subst ev
    generalize nss.getD 0 [] = ns at i1 ne
    cases i1 with
    | nil => exact absurd rfl ne
    | cons x tk r =>
      refine ⟨.int x tk :: fs, KatTups.cons o1 k1 q1 (by simp) h1, by simp [h2], fun u hu => ?_⟩
      rcases List.mem_cons.mp hu with rfl | hu
      · exact ⟨_, _, rfl⟩
      · exact h3 u hu
theorem kind_ {vs : List Value} {nss : List (List Int)} (T : Tups s.heap vs nss) (h0 : 0 < vs.length) {Q : SortKind → Shared → Prop} (h : Q (tuples' true) s) : wpAny (model prog w) A (keyKind' vs.toArray) Q E s := by
  obtain ⟨fs, h1, h2, h3⟩ := kt_ T.at_
  refine kat_kind (T := .type "int") h1 (by omega) (fun v hv => ?_) rfl h
  obtain ⟨i, t, rfl⟩ := h3 v hv
  exact Looks.of_pure rfl
structure Out (vs : List Value) (nss : List (List Int)) (out : List Value) (mss : List (List Int)) : Prop where
  len : mss.length = out.length
  at_ : ∀ i, i < out.length → ∃ j, j < vs.length ∧ out[i]? = vs[j]? ∧ mss[i]? = nss[j]?
  perm : mss.Perm nss
  up : mss.Pairwise fun a b => HT.lexLt a b = true
theorem out_ {vs : List Value} {nss : List (List Int)} {p : Array Nat} (hl : nss.length = vs.length) (hp : Pm vs.length p) (a : As (ky nss) p vs.length) : Out vs nss (p.toList.map fun i => vs.getD i .none) (p.toList.map fun i => nss.getD i []) := by
  refine ⟨by simp, fun i hi => ?_, ?_, ?_⟩
  · rw [List.length_map, Array.length_toList, hp.size] at hi
    have h1 := gt_some (p := p) (i := i) (by rw [hp.size]; exact hi)
    have hj := hp.low hi
    refine ⟨gt p i, hj, ?_, ?_⟩
    · rw [List.getElem?_map, Array.getElem?_toList, h1, List.getElem?_eq_getElem hj]
      show some (vs.getD (gt p i) .none) = _
      rw [getD_some (List.getElem?_eq_getElem hj)]
    · rw [List.getElem?_map, Array.getElem?_toList, h1, List.getElem?_eq_getElem (by omega)]
      show some (nss.getD (gt p i) []) = _
      rw [getD_some (List.getElem?_eq_getElem (by omega))]
  · refine (hp.perm.map _).trans ?_
    have : (List.range vs.length).map (fun i => nss.getD i []) = nss := by
      apply List.ext_getElem?
      intro i
      rw [List.getElem?_map]
      by_cases hi : i < vs.length
      · rw [List.getElem?_range hi, List.getElem?_eq_getElem (by omega)]
        show some (nss.getD i []) = _
        rw [getD_some (List.getElem?_eq_getElem (by omega))]
      · rw [List.getElem?_eq_none (by simp; omega), List.getElem?_eq_none (by omega)]; rfl
    rw [this]
  · rw [List.pairwise_map, List.pairwise_iff_getElem]
    intro i j hi hj hij
    rw [Array.length_toList, hp.size] at hj
    have := a i j hij hj
    unfold ky at this
    have e1 : p.toList[i] = gt p i := by
      have := gt_some (p := p) (i := i) (by rw [hp.size]; omega)
      rw [← Array.getElem?_toList, List.getElem?_eq_getElem hi] at this
      exact Option.some.inj this
    have e2 : p.toList[j] = gt p j := by
      have := gt_some (p := p) (i := j) (by rw [hp.size]; omega)
      rw [← Array.getElem?_toList, List.getElem?_eq_getElem (by rw [Array.length_toList, hp.size]; exact hj)] at this
      exact Option.some.inj this
    rw [e1, e2]; exact this
theorem out_same {vs : List Value} {nss : List (List Int)} (hl : nss.length = vs.length) (h : vs.length < 2) : Out vs nss vs nss := by
  refine ⟨hl, fun i hi => ⟨i, hi, rfl, rfl⟩, List.Perm.refl _, ?_⟩
  match nss, hl with
  | [], _ => exact .nil
  | [a], _ => exact List.pairwise_singleton _ _
  | a :: b :: r, hl => simp at hl; omega
theorem Tups.kept {h h' : Heap} {vs : List Value} {nss : List (List Int)} (T : Tups h vs nss) (k : ∀ t its, IsTup h t its → IsTup h' t its) : Tups h' vs nss := ⟨T.len, fun i hi => by
  obtain ⟨t, its, a, b, c, d⟩ := T.at_ i hi
  exact ⟨t, its, a, k _ _ b, c, d⟩⟩
theorem tup_ne {h : Heap} {t a : Addr} {its xs : Array Value} {n : Nat} (hT : IsTup h t its) (ho : h.get? a = some (seqObj "list" xs n)) : t ≠ a := fun e => by
  obtain ⟨o, h1, h2, _⟩ := hT
  rw [e, ho] at h1
  cases h1
  exact absurd h2 (by simp)
theorem lsort {a : Addr} {vs : List Value} {nss : List (List Int)} {n : Nat} {P : PySem.Fin → Shared → Prop} (ho : s.heap.get? a = some (seqObj "list" vs.toArray n)) (T : Tups s.heap vs nss) (nd : nss.Nodup) (h64 : vs.length < 64)
    (h : ∀ out mss, Out vs nss out mss → P (.done (.ret .none)) { s with heap := sortedHeap s.heap a vs out.toArray }) : wpAny (model prog w) A (Builtin.«list.sort» ⟨[.ref a], []⟩) P E s := by
  have lt_a := Heap.lt_size ho
  have hline : vs.length ≤ sizeLine := by rw [sizeLine_eq]; omega
  rw [list_sort_plain]
  refine wpAny_bind (listItems_at ho rfl (wpAny_bind (listUpdate_at ho rfl ?_ (by rw [List.size_toArray]; exact hline) (Nat.zero_le _))))
  have hup := get?_update_seq ho fun _ => (#[] : Array Value)
  refine wpAny_bind (seqEpoch_at hup rfl (wpAny_bind (wpAny_newTuple ?_ hline)))
  refine wpAny_bind (wpAny_newList (wpAny_holding ?_) (Nat.zero_le _))
  have keep : ∀ b o, b ≠ a → s.heap.get? b = some o → (((s.heap.update a (Obj.mapSeq fun _ => #[])).push (seqObj "tuple" vs.toArray 0)).push (seqObj "list" #[] 0)).get? b = some o := fun b o hb e =>
    Heap.get?_push_of_some _ (Heap.get?_push_of_some _ (by rw [Heap.get?_update_ne _ _ _ _ hb]; exact e))
  have h6 := Heap.get?_push_of_some (seqObj "list" #[] 0) (Heap.get?_push_of_some (seqObj "tuple" vs.toArray 0) hup)
  have T6 : Tups (((s.heap.update a (Obj.mapSeq fun _ => #[])).push (seqObj "tuple" vs.toArray 0)).push (seqObj "list" #[] 0)) vs nss := T.kept fun t its hT => by
    have ne := tup_ne hT ho
    obtain ⟨o, g1, g2⟩ := hT
    exact ⟨o, keep t o ne g1, g2⟩
  show wpAny (model prog w) A _ P E ⟨((s.heap.update a (Obj.mapSeq fun _ => #[])).push (seqObj "tuple" vs.toArray 0)).push (seqObj "list" #[] 0), _, _, _, _⟩
  dsimp only
  by_cases h2 : vs.toArray.size < 2
  · rw [if_pos h2, if_pos h2]
    refine wpAny_bind (wpAny_pure ?_)
    rw [StateT.run_pure]
    refine wpAny_bind (wpAny_pure (wpAny_bind (seqEpoch_at h6 rfl ?_)))
    have e : (arrOf (SortSt.mk' general' (vs.toArray.zip vs.toArray) #[] 7 none)).map (·.2) = vs.toArray := by
      show (vs.toArray.zip vs.toArray).map (·.2) = vs.toArray
      apply Array.toList_inj.mp
      rw [Array.toList_map, Array.toList_zip]
      exact List.map_snd_zip (Nat.le_refl _)
    dsimp only
    rw [e]
    refine wpAny_bind (listUpdate_at h6 rfl ?_ (Nat.zero_le _) (by rw [List.size_toArray]; omega))
    simp only [bne_self_eq_false, Bool.false_eq_true, if_false]
    exact wpAny_pure (h vs nss (out_same T.len (by rw [List.size_toArray] at h2; exact h2)))
  rw [if_neg h2, if_neg h2]
  rw [List.size_toArray] at h2
  refine wpAny_bind (kind_ T6 (by omega) ?_)
  have tree := sort_ (ky_ord nd) (N := nss.length) (by rw [T.len]; omega)
  rw [T.len] at tree
  refine wpAny_bind (wpAny_mono (kat_run (κ := tuples' true) (ks := vs) (G := fun p s' => s' = _ ∧ Pm vs.length p ∧ As (ky nss) p vs.length) (Q := fun st' s' => s' = _ ∧ ∃ p : Array Nat, arrOf st' = p.map (kas_item (vs.toArray.zip vs.toArray)) ∧ failedOf st' = none ∧ Pm vs.length p ∧ As (ky nss) p vs.length) rfl (by omega) h64
    (fun p st' s' _ g1 g2 ⟨g3, g4⟩ => ⟨g3, p, g1, g2, g4⟩) (pw_wp (fun i j C hi hj hC => ask_ T6 i j C hi hj hC) (fun p hp => ⟨rfl, hp⟩) tree)) ?_ fun _ _ e => e)
  rintro ⟨⟨⟩, st'⟩ s' ⟨rfl, p, har, hf, hp, ha⟩
  have ho' := out_ T.len hp ha
  have eo := kat_snds rfl har
  have lo : (p.toList.map fun i => vs.getD i Value.none).length = vs.length := by rw [List.length_map, Array.length_toList, hp.size]
  dsimp only
  rw [eo]
  refine wpAny_bind (seqEpoch_at h6 rfl (wpAny_bind (listUpdate_at h6 rfl ?_ (Nat.zero_le _) (by rw [List.size_toArray]; omega))))
  rw [hf]
  simp only [bne_self_eq_false, Bool.false_eq_true, if_false]
  exact wpAny_pure (h _ _ ho')
end
end TS
namespace L2
open PySem PySem.Spec PyProof.Rows TS
section
variable {X : Cx}
theorem refs_valsT : ∀ {ts : List Addr} {vs : List Value}, Vals (ts.map V.ref) vs → vs = ts.map Value.ref
  | [], _, .nil => rfl
  | t :: ts, _, .cons h r => by cases h; rw [refs_valsT r]; rfl
theorem vals_refs : ∀ (ts : List Addr), Vals (ts.map V.ref) (ts.map Value.ref)
  | [] => .nil
  | t :: ts => .cons rfl (vals_refs ts)
theorem paired_ix {α β : Type} {R : α → β → Prop} : ∀ {xs : List α} {ys : List β}, xs.length = ys.length → (∀ (i : Nat) (x : α) (y : β), xs[i]? = some x → ys[i]? = some y → R x y) → Paired R xs ys
  | [], [], _, _ => .nil
  | x :: xs, y :: ys, hl, h => .cons (h 0 x y rfl rfl) (paired_ix (by simpa using hl) fun i a b h1 h2 => h (i + 1) a b (by simpa using h1) (by simpa using h2))
theorem pnth {α β : Type} {F : α → β → Prop} : ∀ {l₁ : List α} {l₂ : List β} {i : Nat} {a : α}, Paired F l₁ l₂ → l₁[i]? = some a → ∃ b, l₂[i]? = some b ∧ F a b
  | _, _, 0, _, .cons h r, e => ⟨_, rfl, by cases e; exact h⟩
  | _, _, i + 1, _, .cons h r, e => by
    obtain ⟨b, h1, h2⟩ := pnth (i := i) r (by simpa using e)
    exact ⟨b, by simpa using h1, h2⟩
noncomputable def rSortR (K : PySem.W.Frag) : List V → Hp → VK → Prop := fun vs H Q => ∃ (a : Addr) (ts : List Addr) (nss : List (List Int)), vs = [.ref a] ∧ SqL K H a (ts.map V.ref) ∧ Paired (fun t ns => SqT K H t (ns.map V.int)) ts nss ∧ (∀ ns ∈ nss, ns ≠ []) ∧ nss.Nodup ∧ ts.length < 64 ∧
    ∀ p us mss, H p = none → (∀ R : Addr → List Int → Prop, Paired R ts nss → Paired R us mss) → mss.Perm nss → mss.Pairwise (fun a b => HT.lexLt a b = true) → Q (.ref p) (upd H p (.lst (us.map V.ref)))
theorem call_sorted_tupsR {K : PySem.W.Frag} (hK : X.K = K) : CallR X (.builtin "sorted") (rSortR K) := by
  subst hK
  intro pins s σ H vs us Q I r h
  obtain ⟨a, ts, nss, rfl, hq, hp, hne, nd, hz, q⟩ := h
  obtain ⟨u, rfl, ru⟩ := r.one
  cases ru
  obtain ⟨its, rv, p, _⟩ := I.list hq
  have ev := refs_valsT rv
  subst ev
  have hl := Paired.length hp
  have T : Tups s.heap (ts.map Value.ref) nss := ⟨by rw [List.length_map]; exact hl.symm, fun i hi => by
    rw [List.length_map] at hi
    obtain ⟨ns, h1, h2⟩ := pnth hp (List.getElem?_eq_getElem hi)
    obtain ⟨jts, rt, tp, _⟩ := I.tuple h2
    refine ⟨ts[i], jts, by rw [List.getElem?_map, List.getElem?_eq_getElem hi]; rfl, tp, ?_, ?_⟩
    · rw [getD_some h1]; exact intsAre_of rt
    · rw [getD_some h1]; exact hne _ (List.mem_of_getElem? h1)⟩
  refine Calls.call_function_entry kind_sorted plain_sorted entry_sorted (args_sorted1 _) ?_
  unfold Builtin.«sorted»
  refine wpAny_bind (m := checkCount "sorted" 1 1 _) (wpAny_pure (wpAny_bind (collect_list p.isList ?_ (by rw [sizeLine_eq, List.length_map]; omega))))
  refine wpAny_bind (wpAny_newList ?_ (by rw [sizeLine_eq, List.length_map]; omega))
  have hsz := (Heap.size_update (s.heap.push (seqObj "list" #[] 0)) s.heap.objs.size (Obj.mapSeq (· ++ (ts.map Value.ref).toArray))).trans (size_push' s.heap (seqObj "list" #[] 0))
  have hoL : (((s.heap.push (seqObj "list" #[] 0)).update s.heap.objs.size (Obj.mapSeq (· ++ (ts.map Value.ref).toArray))).push (seqObj "list" (ts.map Value.ref).toArray 0)).get? (s.heap.objs.size + 1) = some (seqObj "list" (ts.map Value.ref).toArray 0) := by
    have := Heap.get?_push_size ((s.heap.push (seqObj "list" #[] 0)).update s.heap.objs.size (Obj.mapSeq (· ++ (ts.map Value.ref).toArray))) (o := seqObj "list" (ts.map Value.ref).toArray 0) rfl
    rw [hsz] at this; exact this
  have keep : ∀ b o, s.heap.get? b = some o → (((s.heap.push (seqObj "list" #[] 0)).update s.heap.objs.size (Obj.mapSeq (· ++ (ts.map Value.ref).toArray))).push (seqObj "list" (ts.map Value.ref).toArray 0)).get? b = some o := fun b o e => by
    refine Heap.get?_push_of_some _ ?_
    rw [Heap.get?_update_ne _ _ _ _ (Nat.ne_of_lt (Heap.lt_size e))]
    exact Heap.get?_push_of_some _ e
  have T6 := T.kept (h' := ((s.heap.push (seqObj "list" #[] 0)).update s.heap.objs.size (Obj.mapSeq (· ++ (ts.map Value.ref).toArray))).push (seqObj "list" (ts.map Value.ref).toArray 0)) fun t its hT => by
    obtain ⟨o, g1, g2⟩ := hT
    exact ⟨o, keep t o g1, g2⟩
  show wpAny _ _ _ _ _ ⟨((s.heap.push (seqObj "list" #[] 0)).update s.heap.objs.size (Obj.mapSeq (· ++ (ts.map Value.ref).toArray))).push (seqObj "list" (ts.map Value.ref).toArray 0), _, _, _, _⟩
  rw [hsz]
  refine wpAny_bind (wpAny_holding (wpAny_call_entry slot_list_sort ⟨_, hoL, rfl⟩ entry_list_sort (lsort hoL T6 nd (by rw [List.length_map]; exact hz) fun out mss O => ⟨_, rfl, wpAny_pure ⟨_, rfl, ?_⟩⟩) (args_list_sort _)))
  obtain ⟨e, he⟩ := sortedAll_at s.heap (ts.map Value.ref) out.toArray
  have fr : H (s.heap.objs.size + 1) = none := I.hok.fresh (Nat.le_succ _)
  have ho : ∀ v ∈ out, ∃ t : Addr, v = .ref t := fun v hv => by
    obtain ⟨i, hi⟩ := List.getElem?_of_mem hv
    obtain ⟨j, hj, e1, _⟩ := O.at_ i (List.getElem?_eq_some_iff.mp hi).1
    rw [hi, List.getElem?_map] at e1
    obtain ⟨t, _, e2⟩ := Option.map_eq_some_iff.mp e1.symm
    exact ⟨t, e2.symm⟩
  obtain ⟨us, rfl⟩ : ∃ us : List Addr, out = us.map Value.ref := by
    clear O he e
    induction out with
    | nil => exact ⟨[], rfl⟩
    | cons v out ih =>
      obtain ⟨t, rfl⟩ := ho v (List.mem_cons_self ..)
      obtain ⟨us, rfl⟩ := ih fun v hv => ho v (List.mem_cons_of_mem _ hv)
      exact ⟨t :: us, rfl⟩
  have lus : us.length = ts.length := by
    have := O.perm.length_eq
    rw [O.len, List.length_map] at this
    rw [this, hl]
  refine ⟨.ref (s.heap.objs.size + 1), upd H (s.heap.objs.size + 1) (.lst (us.map V.ref)), I.laid (t' := s.toks) (fun b o hb => sortedAll_old hb) (Nat.le_succ _) ⟨by rw [List.length_map]; exact Nat.le_of_lt (small1000 (by omega)), _, e, vals_refs us, he⟩, rfl, q _ us mss fr ?_ O.perm O.up⟩
  intro R hR
  refine paired_ix (by rw [O.len, List.length_map]) fun i t ns h1 h2 => ?_
  obtain ⟨j, hj, e1, e2⟩ := O.at_ i (by rw [List.length_map]; exact (List.getElem?_eq_some_iff.mp h1).1)
  rw [List.getElem?_map, h1, List.getElem?_map] at e1
  rw [h2] at e2
  obtain ⟨t', ht', e3⟩ := Option.map_eq_some_iff.mp e1.symm
  cases e3
  obtain ⟨ns', h3, h4⟩ := pnth hR ht'
  rw [← e2] at h3; cases h3
  exact h4
end
end L2
namespace L2
open PySem PySem.Spec
theorem comp_words {J : It} {H1 : Hp} {σ : St} {ix : List Nat} {tc : TT} {te : TE} {Q : VK} {I0 : Hp → Prop} (ws : List Str) (p : Str → Bool) (hJ : JSeq J I0 (ws.map V.str)) (h0 : I0 H1) (hz : ws.length ≤ 1000)
    (hc : ∀ n ∈ ws, ∀ H2, Same H1 H2 → ∀ Q' : Bool → Hp → Prop, (∀ H3, Same H2 H3 → Q' (p n) H3) → tc (some (.str n) :: frees σ ix) H2 Q')
    (he : ∀ (n : Str) H2 (Q' : VK), Q' (.str n) H2 → te (some (.str n) :: frees σ ix) H2 Q')
    (hQ : ∀ D H', H1 D = none → Same H1 H' → H' D = some (.lst ((ws.filter p).map V.str)) → Q (.ref D) H') : CompGo J H1 σ ix tc te Q := by
  have pv : ∀ n : Str, (fun v : V => match v with | .str i => p i | _ => false) (V.str n) = p n := fun n => rfl
  refine comp_map (ws.map V.str) (fun v => match v with | .str i => p i | _ => false) id hJ h0 (by rw [List.length_map]; exact Nat.le_trans hz (by decide)) ?_ ?_ ?_
  · intro x hx H2 e2 Q' q'
    obtain ⟨n, hn, rfl⟩ := List.mem_map.mp hx
    exact hc n hn H2 e2 Q' fun H3 e3 => q' H3 e3
  · intro x hx _ H2 e2 Q' q'
    obtain ⟨n, hn, rfl⟩ := List.mem_map.mp hx
    exact he n H2 Q' (q' H2 (Same.refl _))
  · intro D H' hD e hd
    refine hQ D H' hD e ?_
    rw [hd, List.map_id, List.filter_map]
    rfl
theorem seq_hide {a b : TS} {D : Ends} {σ : St} {H : Hp} (h : ∀ D' : Ends, (∀ σ H, b D σ H → D'.nx σ H) → (∀ v H, D.rt v H → D'.rt v H) → (∀ σ H, D.ct σ H → D'.ct σ H) → a D' σ H) : tSeq a b D σ H := h { D with nx := b D } (fun _ _ z => z) (fun _ _ z => z) (fun _ _ z => z)
end L2
namespace L2
open PySem PySem.Spec PyProof.Rows PySem.SeqAt
open AutoSeq1 (wpAny_loadPart')
open MeetsSeq MeetsSeq2 MeetsSeq3
section
variable {prog : Program} {w : World}
end
section
variable {X : Cx}
end
end L2
namespace L2
open PySem PySem.Spec PyProof.Rows
section
variable {X : Cx}
noncomputable def CDivB (_ j : Int) : Prop := 0 < j ∧ j ≤ 10 ^ 60
theorem op_fdivB : OpR X (binaryOp .FloorDiv) (rI CDivB fun i j => .int (i / j)) := opI fun i j _ _ _ _ _ hc q => by
  have h1 : (0 : Int) < j := hc.1
  have h2 : j ≤ 10 ^ 60 := hc.2
  refine floordiv_int (by omega) (by rw [Int.fdiv_eq_ediv_of_nonneg i (by omega)]; exact q) (.inl (PyProof.noPylong_of_log2 ?_))
  have h3 : j.natAbs < 2 ^ 200 := by
    have : (10 : Int) ^ 60 < 2 ^ 200 := by decide +kernel
    omega
  have h4 : j.natAbs.log2 < 200 := (Nat.log2_lt (by omega)).mpr h3
  omega
set_option autoImplicit true
set_option relaxedAutoImplicit true
end
end L2
namespace L2
open PySem PySem.Spec
section
variable {X : Cx} {pins : List (Addr × Obj)} {σ : St} {H : Hp} {s : Shared} {a b : Addr} {A : Around} {E : Value → Shared → Prop}
end
section
variable {X : Cx} {o e f : Expr} {apos cpos : Pos} {td ty tx : TE}
end
end L2
namespace Mir
open PySem L2
noncomputable def letters : Str := "abcdefghijklmnopqrstuvwxyz"
noncomputable def figures : Str := "0123456789"
noncomputable def noNames : List Str := ["nil", "any", "is", "not", "cell", "stretch", "tree", "nothing", "then", "with"]
noncomputable def okSign (c : Nat) : Bool := decide (c ∈ letters.cps.toList) || decide (c ∈ figures.cps.toList)
noncomputable def headOk : List Nat → Bool
  | [] => false
  | c :: _ => decide (c ∈ letters.cps.toList)
noncomputable def isName (x : Str) : Bool := if x = "" ∨ 8 < x.length ∨ x ∈ noNames then false else headOk x.cps.toList && x.cps.toList.all okSign
theorem eqV_str (a b : Str) : eqV (.str a) (.str b) = decide (a = b) := by
  show (a == b) = decide (a = b)
  by_cases h : a = b
  · subst h; simp
  · rw [decide_eq_false h]; exact beq_eq_false_iff_ne.mpr h
theorem inV_strs (x : Str) (l : List Str) : inV (.str x) (l.map V.str) = decide (x ∈ l) := by
  unfold inV
  rw [Bool.eq_iff_iff, List.any_eq_true, decide_eq_true_eq]
  constructor
  · rintro ⟨y, hy, e⟩
    obtain ⟨z, hz, rfl⟩ := List.mem_map.mp hy
    rw [eqV_str, decide_eq_true_eq] at e
    exact e ▸ hz
  · intro h
    exact ⟨.str x, List.mem_map.mpr ⟨x, h, rfl⟩, by rw [eqV_str]; simp⟩
theorem flat_strs (l : List Str) : (l.map V.str).all flatV = true := by
  rw [List.all_eq_true]
  intro v hv
  obtain ⟨z, _, rfl⟩ := List.mem_map.mp hv
  rfl
end Mir
namespace K60
open PySem PySem.Spec L2 Mir
noncomputable def top (i : Nat) : Stmt := PySem.Challenge.pw_apart_k60_told_where_sections_begin.main.body.getD i (.Pass ⟨0, 0, 0, 0⟩)
noncomputable def forms : List (Str × List Str) := [("set", ["name", "value"]), ("read", ["name", "name", "field"]), ("write", ["name", "field", "value"]), ("new", ["name", "value", "value"]), ("free", ["name"])]
structure Con (K : PySem.W.Frag) (mg : Str → Option Value) (w : World) : Prop where
  len : mg "len" = none
  all : mg "all" = none
  any : mg "any" = none
  isi : mg "isinstance" = none
  list : mg "list" = none
  int : mg "int" = none
  bool : mg "bool" = none
  str : mg "str" = none
  dict : mg "dict" = none
  sorted : mg "sorted" = none
  set : mg "set" = none
  sum : mg "sum" = none
  range : mg "range" = none
  tuple : mg "tuple" = none
  max : mg "max" = none
  zip : mg "zip" = none
  min : mg "min" = none
  enumerate : mg "enumerate" = none
  letters : Glob mg "LETTERS" (.str Mir.letters)
  figures : Glob mg "FIGURES" (.str Mir.figures)
  noNames : ∃ a, Glob mg "NO_NAMES" (.ref a) ∧ ∀ H, SqT K H a (Mir.noNames.map V.str)
  mostSigns : Glob mg "MOST_SIGNS" (.int 8)
  forms : ∃ (a : Addr) (ts : List (Str × Addr)), Glob mg "PLAIN_FORMS" (.ref a) ∧ KDict K w a (ts.map fun x => (x.1, V.ref x.2)) ∧ ts.map (·.1) = forms.map (·.1) ∧ ∀ w t r, (w, t) ∈ ts → (w, r) ∈ forms → ∀ H, SqT K H t (r.map V.str)
  contr : ∃ a, Glob mg "CONTRARIES" (.ref a) ∧ KDict K w a [("is", .str "not"), ("not", .str "is")]
theorem iteB {b : Bool} {A B : Prop} (h1 : b = true → A) (h2 : b = false → B) : if b = true then A else B := by
  cases b with
  | true => rw [if_pos rfl]; exact h1 rfl
  | false => rw [if_neg Bool.false_ne_true]; exact h2 rfl
noncomputable def Short (x : Str) : Prop := x.length ≤ 1000
theorem Short.line {x : Str} (h : Short x) : x.length ≤ sizeLine := Nat.le_of_lt (small1000 h)
noncomputable def spB1 (f : Str → Bool) : Sp := fun vs H Q _ => ∃ x, vs = [.str x] ∧ Short x ∧ ∀ H', Same H H' → Q (.bl (f x)) H'
theorem cut_row {r : List Str} {k : Nat} : cutV (r.map V.str) (some (k : Int)) none = (r.drop k).map V.str := by
  unfold cutV
  rw [HT.sIx_nat, HT.sIx_none, List.length_map]
  rw [List.map_drop.symm]
  by_cases h : k ≤ r.length
  · rw [Nat.min_eq_left h, List.take_of_length_le (by simp)]
  · rw [Nat.min_eq_right (by omega), Nat.sub_self, List.take_zero, List.drop_eq_nil_of_le (by omega)]; rfl
noncomputable def ShortRows (rs : List (List Str)) : Prop := rs.length ≤ 200 ∧ ∀ r ∈ rs, r.length ≤ 5 ∧ ∀ x ∈ r, Short x
theorem Paired.nth {α β : Type} {F : α → β → Prop} : ∀ {l₁ : List α} {l₂ : List β} {i : Nat} {a : α}, Paired F l₁ l₂ → l₁[i]? = some a → ∃ b, l₂[i]? = some b ∧ F a b
  | _, _, _, _, .nil, e => by simp at e
  | _, _, 0, _, .cons h _, e => by simp at e; subst e; exact ⟨_, rfl, h⟩
  | _, _, i + 1, _, .cons _ t, e => by
    obtain ⟨b, e1, e2⟩ := Paired.nth (i := i) t (by simpa using e)
    exact ⟨b, by simpa using e1, e2⟩
theorem gty {X : Cx} {x : Str} {n : String} {pos : Pos} (hm : X.mg x = none) (hv : bootBuiltins x = some (.type n)) (hg : Gl X x := by rfl) (hn : x ≠ "__name__" := by decide) (hdb : (x == ("__debug__" : Str)) = false := by decide) : PE X (.Name x pos) (tC (.ty n)) := pe_bltn hg hm hv rfl hn hdb
structure Cal (K : PySem.W.Frag) (mg : Str → Option Value) (x : Str) (f : Addr) (fd : FuncData) (ps : List Str) : Prop where
  name : mg x = some (.ref f)
  keep : PySem.W.keepIn K (.ref f) = true
  bind : Binds K fd ps []
noncomputable def rowWords (r : List Str) : List Str := (r.drop 1).filter fun x => !decide (x ∈ Mir.noNames)
noncomputable def words (rs : List (List Str)) : List Str := (rs.map rowWords).flatten
theorem words_app (a b : List (List Str)) : words (a ++ b) = words a ++ words b := by unfold words; rw [List.map_append, List.flatten_append]
theorem words_snoc (a : List (List Str)) (r : List Str) : words (a ++ [r]) = words a ++ rowWords r := by rw [words_app]; unfold words; simp
theorem words_len : ∀ {rs : List (List Str)} {m : Nat}, (∀ r ∈ rs, r.length ≤ m) → (words rs).length ≤ rs.length * m
  | [], m, _ => by simp [words]
  | r :: rs, m, h => by
    have h1 := words_len (rs := rs) (m := m) (fun x hx => h x (List.mem_cons_of_mem _ hx))
    have h2 : (rowWords r).length ≤ m := by
      unfold rowWords
      have := List.length_filter_le (fun x => !decide (x ∈ Mir.noNames)) (r.drop 1)
      have := h r (List.mem_cons_self ..)
      have e := List.length_drop (i := 1) (l := r)
      omega
    have e : words (r :: rs) = rowWords r ++ words rs := by simp [words]
    rw [e, List.length_append, List.length_cons, Nat.succ_mul]
    omega
theorem Paired.app {α β : Type} {F : α → β → Prop} : ∀ {l₁ : List α} {l₂ : List β} {m₁ : List α} {m₂ : List β}, Paired F l₁ l₂ → Paired F m₁ m₂ → Paired F (l₁ ++ m₁) (l₂ ++ m₂)
  | _, _, _, _, .nil, h => h
  | _, _, _, _, .cons h t, h2 => .cons h (Paired.app t h2)
noncomputable def spNames (K : PySem.W.Frag) : Sp := fun vs H Q _ => ∃ a fs ps, vs = [.ref a] ∧ TellAt K H a [fs, ps] ∧ ShortRows fs ∧ ShortRows ps ∧ (∀ r ∈ fs ++ ps, r ≠ []) ∧ (∀ ss : List Str, ss.Nodup → (∀ y ∈ ss, y ∈ words (fs ++ ps)) → ss.length < 64) ∧
  ∀ (p : Addr) (zs : List Str) (H' : Hp), H p = none → Same H H' → H' p = some (.lst (zs.map V.str)) → zs.Nodup → (∀ y, y ∈ zs ↔ y ∈ words (fs ++ ps)) → PyProof.Rows.sortedS zs = true → Q (.ref p) H'
noncomputable abbrev sIsName : Stmt := top 5
noncomputable abbrev sNamesOf : Stmt := top 6
section
variable {P : Program} {w : World} {K : PySem.W.Frag} {mg : Str → Option Value} {base : Heap} {f g : Addr} {fd gd : FuncData}
theorem scIsName : FnScope ["text"] ["text"] (defScope sIsName) := ⟨rfl, rfl, rfl, by decide +kernel, rfl, by decide +kernel, by decide +kernel⟩
theorem ok_isName (C : Con K mg w) (F : Fun K "is_name" "is_name" sIsName f fd) : FnOk P w K mg base CX0 1 f fd ["text"] (spB1 isName) := by
  refine F.ok scIsName (fun vs H Q E h => ?_) (fun cdv A outer s H vs Q E hr h => ?_)
  · obtain ⟨x, rfl, _⟩ := h; rfl
  obtain ⟨x, rfl, hx, q⟩ := h
  obtain ⟨aN, gN, tN⟩ := C.noNames
  refine ⟨_, pss_cons (ps_if (PW.pt (pw_or (pt_cmpR op_eq (pv 0) pe_str (nomark _)) (pw_or (pt_cmpR op_gt (pe_callB call_len_str rfl C.len PySem.boot_len (pa_cons (pv 0) pa_nil)) (pe_g C.mostSigns) (nomark _))
      (pw_or1 (pt_cmpR op_in_seq (pv 0) (pe_g gN) (by with_unfolding_all rfl)))))) (pss_one (ps_ret pe_bl)) pss_nil)
    (pss_one (ps_ret (pe_and (pe_cmpR op_in_sign (pe_ix ix_str (pv 0) pe_int (fun _ _ => rfl)) (pe_g C.letters) (by with_unfolding_all rfl))
      (pe_one (pe_callB (call_all rfl) rfl C.all PyProof.Rows.boot_all (pa_cons (pe_comp0 (pi_str (pv 0)) (fun _ _ _ _ => pts_nil)
        (fun _ _ _ _ => pe_or (pe_cmpR op_in_sign (pv 0) (pe_g C.letters) (by with_unfolding_all rfl)) (pe_one (pe_cmpR op_in_sign (pv 0) (pe_g C.figures) (by with_unfolding_all rfl))))) pa_nil)))))), ?_⟩
  have hf : (x = "" ∨ 8 < x.length ∨ x ∈ Mir.noNames) → Q (.bl false) H := fun h => by
    have e : isName x = false := by unfold isName; rw [if_pos h]
    rw [← e]; exact q H (Same.refl H)
  refine ⟨_, rfl, rfl, _, rfl, iteB (fun c => hf (.inl (by simpa using c))) fun c => ?_⟩
  refine ⟨_, rfl, x, rfl, hx.line, _, _, rfl, rfl, _, rfl, iteB (fun c2 => hf (.inr (.inl (by have := of_decide_eq_true c2; omega)))) fun c2 => ?_⟩
  refine ⟨_, rfl, aN, _, rfl, .inr (tN _), rfl, flat_strs _, _, rfl, iteB (fun c3 => hf (.inr (.inr (by
    have c3' : inV (.str x) (Mir.noNames.map V.str) = true := c3
    rw [inV_strs] at c3'; exact of_decide_eq_true c3')))) fun c3 => ?_⟩
  have c1' : ¬ x = "" := by simpa using c
  have c2' : ¬ 8 < x.length := by have := of_decide_eq_false c2; omega
  have c3' : ¬ x ∈ Mir.noNames := by
    have c3' : inV (.str x) (Mir.noNames.map V.str) = false := c3
    rw [inV_strs] at c3'; exact of_decide_eq_false c3'
  have e : isName x = (headOk x.cps.toList && x.cps.toList.all okSign) := by unfold isName; rw [if_neg (fun h => h.elim c1' (fun h => h.elim c2' c3'))]
  rw [e] at q
  cases hl : x.cps.toList with
  | nil =>
    exfalso
    apply c1'
    obtain ⟨a⟩ := x
    have : a = #[] := by simpa using hl
    rw [this]; rfl
  | cons c0 r =>
    refine ⟨_, rfl, x, 0, c0, rfl, rfl, hx.line, (atI_nat (j := 0) (by rw [hl]; rfl)), c0, _, rfl, rfl, _, rfl, ?_⟩
    have eh : headOk x.cps.toList = decide (c0 ∈ Mir.letters.cps.toList) := by rw [hl]; rfl
    refine iteB (fun ch => ?_) (fun ch => ?_)
    · rw [eh, ch, Bool.true_and] at q
      refine ⟨_, rfl, x, rfl, ?_⟩
      refine comp_map (signs x) (fun _ => true) (fun v => match v with | .str z => .bl (okSign (z.cps.toList.headD 0)) | _ => .bl false) jseq_str trivial ?_ ?_ ?_ ?_
      · unfold signs; rw [List.length_map, Array.length_toList]; exact hx.line
      · intro v hv H2 e2 Q' q'
        exact q' H2 (Same.refl _)
      · intro v hv _ H2 e2 Q' q'
        obtain ⟨cc, hcc, rfl⟩ := List.mem_map.mp hv
        have q'' := q' H2 (Same.refl _)
        refine ⟨_, rfl, cc, _, rfl, rfl, _, rfl, iteB (fun z => ?_) (fun z => ?_)⟩
        · have : okSign cc = true := by unfold okSign; rw [show decide (cc ∈ Mir.letters.cps.toList) = true from z]; rfl
          have q3 : Q' (.bl (okSign cc)) H2 := q''
          rw [this] at q3; exact q3
        · refine ⟨_, rfl, cc, _, rfl, rfl, ?_⟩
          have : okSign cc = decide (cc ∈ Mir.figures.cps.toList) := by unfold okSign; rw [show decide (cc ∈ Mir.letters.cps.toList) = false from z]; rfl
          have q3 : Q' (.bl (okSign cc)) H2 := q''
          rw [this] at q3; exact q3
      · intro D H' hD e' hd
        refine ⟨D, x.cps.toList.map okSign, rfl, SqL.of ?_, ?_⟩
        · rw [hd]
          congr 1
          congr 1
          unfold signs
          rw [List.filter_eq_self.mpr (fun _ _ => rfl), List.map_map, List.map_map]
          rfl
        · have e3 : (x.cps.toList.map okSign).all id = x.cps.toList.all okSign := by rw [List.all_map]; rfl
          rw [e3]
          exact q H' e'
    · rw [eh, ch] at q
      exact q H (Same.refl _)
theorem scNamesOf : FnScope ["telling", "names", "row"] ["telling"] (defScope sNamesOf) := ⟨rfl, rfl, rfl, by decide +kernel, rfl, by decide +kernel, by decide +kernel⟩
theorem ok_namesOf (C : Con K mg w) (F : Fun K "names_of" "names_of" sNamesOf f fd) : FnOk P w K mg base CX0 1 f fd ["telling"] (spNames K) := by
  refine F.ok scNamesOf (fun vs H Q E h => ?_) (fun cdv A outer s H vs Q E hr h => ?_)
  · obtain ⟨a, fs, ps, rfl, _⟩ := h; rfl
  obtain ⟨a, fs, ps, rfl, ht, hf, hp, hne, h64, q⟩ := h
  obtain ⟨aN, gN, tN⟩ := C.noNames
  obtain ⟨as, t1, t2⟩ := ht
  cases t2 with
  | @cons fa _ _ _ t3 t4 =>
  cases t4 with
  | @cons pa _ _ _ t5 t6 =>
  cases t6
  obtain ⟨fas, f1, f2⟩ := t3
  obtain ⟨pas, p1, p2⟩ := t5
  refine ⟨_, pss_cons (ps_set scNamesOf.nd (i := 1) rfl (Or.inl rfl) (pe_lst pa_nil))
    (pss_cons (ps_for PassesOwn.never rfl (pi_list (pe_op op_cat (pe_ix ix_tup (pv 0) pe_int (fun _ _ => rfl)) (pe_ix ix_tup (pv 0) pe_int (fun _ _ => rfl)))) (pg_name (i := 2) scNamesOf.nd rfl (Or.inl rfl))
      (pss_one (ps_expr (pe_bm PySem.F.plainAttrs_list PySem.F.slot_list_extend PySem.F.type_list_extend mt_extend (pv 1)
        (pa_cons (pe_comp0 (pi_tup (pe_slice sl_tup (pv 2) (po_some pe_int) po_none)) (fun _ _ _ _ => pts_one (pt_cmpR (show OpR _ _ (rIn K true) from op_notIn_seq) (pv 0) (pe_g gN) (by with_unfolding_all rfl))) (fun _ _ _ _ => pv 0)) pa_nil)))))
      (pss_one (ps_ret (pe_callB (call_sorted_set rfl) rfl C.sorted PyProof.Rows.boot_sorted (pa_cons (pe_callTy (call_set rfl) rfl C.set PyProof.Rows.boot_set (pa_cons (pv 1) pa_nil)) pa_nil))))), ?_⟩
  refine ⟨Nat.zero_le _, fun n hn => ?_⟩
  have s1 : Same H (upd H n (.lst [])) := same_new hn _
  have fl : fas.length = fs.length := Paired.length f2
  have pl : pas.length = ps.length := Paired.length p2
  have b1 := hf.1
  have b2 := hp.1
  refine ⟨_, rfl, a, _, 0, .ref fa, rfl, rfl, s1.seqT t1, rfl, _, rfl, a, _, 1, .ref pa, rfl, rfl, s1.seqT t1, rfl, ?_⟩
  refine ⟨fa, pa, _, _, rfl, rfl, s1 _ _ f1, s1 _ _ p1, ?_, fun c hc => ?_⟩
  · rw [List.length_map, List.length_map]; exact Nat.le_of_lt (small1000 (by omega))
  have hcn : c ≠ n := fun e => by rw [e, upd_same] at hc; cases hc
  rw [← List.map_append]
  have s2 := same_new hc (.lst ((fas ++ pas).map V.ref))
  refine ⟨c, rfl, ⟨_, SqL.of upd_same⟩, ?_⟩
  have pr : Paired (fun b r => RowAt K H b r) (fas ++ pas) (fs ++ ps) := Paired.app f2 p2
  have pl2 : (fas ++ pas).length = (fs ++ ps).length := Paired.length pr
  have hall : ∀ r ∈ fs ++ ps, r.length ≤ 5 := fun r hr => by
    rcases List.mem_append.mp hr with h | h
    · exact (hf.2 r h).1
    · exact (hp.2 r h).1
  refine for_list (xs := (fas ++ pas).map V.ref) (fun i σ H' => Same H H' ∧ H' c = some (.lst ((fas ++ pas).map V.ref)) ∧ H' n = some (.lst ((words ((fs ++ ps).take i)).map V.str)) ∧ ∃ z, σ = [some (.ref a), some (.ref n), z]) ⟨s1.trans s2, upd_same, ?_, _, rfl⟩ (fun i σ H' _ p => SqL.of p.2.1) ?_ ?_
  · rw [upd_ne (Ne.symm hcn), upd_same]; rfl
  · rintro i v σ H' hi ⟨e, hc', hn', z, rfl⟩
    rw [List.getElem?_map] at hi
    cases hb : (fas ++ pas)[i]? with
    | none => rw [hb] at hi; cases hi
    | some b =>
      rw [hb] at hi
      have hv : v = .ref b := (Option.some.inj hi).symm
      subst hv
      obtain ⟨r, hr1, hr2⟩ := Paired.nth pr hb
      have hrm : r ∈ fs ++ ps := List.mem_of_getElem? hr1
      have hrow : RowAt K H' b r := hr2.same e
      have hr5 := hall r hrm
      have hr0 : r.length ≠ 0 := fun h => hne r hrm (List.length_eq_zero_iff.mp h)
      refine ⟨_, rfl, .inl ⟨rfl, _, SqL.of hn'⟩, _, rfl, _, rfl, b, _, rfl, hrow, ?_, fun t hT => ?_⟩
      · rw [List.length_map, show (some (1 : Int)) = some ((1 : Nat) : Int) from rfl, HT.sIx_nat]; omega
      have e1 : cutV (r.map V.str) (some 1) none = (r.drop 1).map V.str := cut_row (k := 1)
      rw [e1]
      have s3 : Same H' (upd H' t (.tup ((r.drop 1).map V.str))) := same_new hT _
      refine ⟨t, rfl, ⟨_, SqT.of upd_same⟩, ?_⟩
      refine comp_map ((r.drop 1).map V.str) (fun v => !inV v (Mir.noNames.map V.str)) id jseq_tup (SqT.of upd_same) ?_ ?_ ?_ ?_
      · rw [List.length_map, List.length_drop]; exact Nat.le_of_lt (small1000 (by omega))
      · intro v hv H2 e2 Q' q'
        obtain ⟨y, hy, rfl⟩ := List.mem_map.mp hv
        exact ⟨_, rfl, aN, _, rfl, .inr (tN _), rfl, flat_strs _, _, rfl, q' H2 (Same.refl _)⟩
      · intro v hv hpv H2 e2 Q' q'
        obtain ⟨y, hy, rfl⟩ := List.mem_map.mp hv
        exact ⟨_, rfl, q' H2 (Same.refl _)⟩
      · intro D H2 hD e' hd
        have hw : (((r.drop 1).map V.str).filter (fun v => !inV v (Mir.noNames.map V.str))).map id = (rowWords r).map V.str := by
          rw [List.map_id, List.filter_map]
          unfold rowWords
          congr 1
          apply List.filter_congr
          intro x _
          show (!inV (.str x) (Mir.noNames.map V.str)) = _
          rw [inV_strs]
        rw [hw] at hd
        have s4 : Same H H2 := (e.trans s3).trans e'
        have ht1 : (fs ++ ps).take (i + 1) = (fs ++ ps).take i ++ [r] := by rw [List.take_add_one, hr1]; rfl
        have wl := words_len hall
        have wl2 : (words ((fs ++ ps).take i)).length ≤ 200 * 5 + 200 * 5 := by
          have h1 := words_len (rs := (fs ++ ps).take i) (m := 5) (fun r hr => hall r (List.mem_of_mem_take hr))
          have h2 := List.length_take_le' i (fs ++ ps)
          rw [List.length_append] at h2
          omega
        have wl3 : (rowWords r).length ≤ 5 := by
          unfold rowWords
          have h1 := List.length_filter_le (fun x => !decide (x ∈ Mir.noNames)) (r.drop 1)
          have h2 := List.length_drop (i := 1) (l := r)
          omega
        refine ⟨n, D, _, _, rfl, rfl, e' _ _ (s3 _ _ hn'), hd, ?_, ?_⟩
        · rw [List.length_map, List.length_map]
          exact Nat.le_trans (by omega) (show (2005 : Nat) ≤ sizeLine by decide)
        refine ⟨fun b' u q' => ?_, ?_, ?_, _, rfl⟩
        · rw [upd_ne (ne_of_none q' hn)]; exact s4 _ _ q'
        · rw [upd_ne hcn]; exact e' _ _ (s3 _ _ hc')
        · rw [upd_same, ht1, words_snoc, List.map_append]
  · rintro σ H' ⟨e, hc', hn', z, rfl⟩
    rw [List.length_map, pl2, List.take_length] at hn'
    refine ⟨_, rfl, n, _, rfl, SqL.of hn', ?_, fun S ss hS hd => ?_⟩
    · have wl := words_len hall
      rw [List.length_append] at wl
      show _ < 4096
      omega
    have s5 := same_new hS (SetO P w S ss)
    refine ⟨S, ss, rfl, upd_same, h64 ss hd.nodup (fun y hy => (hd.mem y).mp hy), fun p zs hp' hzs hso => ?_⟩
    have s6 := same_new hp' (.lst (zs.map V.str))
    refine q p zs _ ?_ (e.trans (s5.trans s6)) upd_same (hzs.nodup_iff.mpr hd.nodup) (fun y => (hzs.mem_iff).trans (hd.mem y)) hso
    cases hH : H p with
    | none => rfl
    | some u => exact nomatch (s5 _ _ (e _ _ hH)).symm.trans hp'
end
theorem getD_at {ws : List Str} {i : Nat} (h : i < ws.length) : atI (ws.map V.str) (i : Int) = some (.str (ws.getD i "")) := atI_nat (by rw [List.getElem?_map, List.getD_eq_getElem?_getD, List.getElem?_eq_getElem h]; rfl)
section
variable {K : PySem.W.Frag}
end
noncomputable def cellAt (ns : List Int) (k : Nat) : Int := (ns[k]?).getD 0
noncomputable def spCell (K : PySem.W.Frag) : Sp := fun vs H Q _ => ∃ (a : Addr) (ns : List Int) (k : Nat), vs = [.ref a, .int (k : Int)] ∧ SqL K H a (ns.map V.int) ∧ Q (.int (cellAt ns k)) H
noncomputable abbrev sCell : Stmt := top 23
section
variable {P : Program} {w : World} {K : PySem.W.Frag} {mg : Str → Option Value} {base : Heap} {f g : Addr} {fd gd : FuncData}
theorem scCell : FnScope ["_law_script", "_law_k"] ["_law_script", "_law_k"] (defScope sCell) := ⟨rfl, rfl, rfl, by decide +kernel, rfl, by decide +kernel, by decide +kernel⟩
theorem ok_cellAt (C : Con K mg w) (F : Fun K "_law_cell_at" "_law_cell_at" sCell f fd) : FnOk P w K mg base CX0 1 f fd ["_law_script", "_law_k"] (spCell K) := by
  refine F.okQ scCell (fun vs H Q E h => ?_) (fun cdv A outer s H vs Q E hr h => ?_)
  · obtain ⟨a, ns, k, rfl, _⟩ := h; rfl
  obtain ⟨a, ns, k, rfl, hS, q⟩ := h
  refine ⟨_, qb_cons (qs_if (qt_cmpR op_lt (qv 1) (qe_callB call_len_seq rfl C.len PySem.boot_len (qa_nm (qv 0) qa_nil)) (nomark _)) (qb_one (qs_ret (qe_ix ix_list (qv 0) (qv 1) (fun _ _ => rfl)))) qb_nil)
    (qb_one (qs_ret qe_int)), ?_⟩
  have hl : (ns.map V.int).length = ns.length := List.length_map _
  refine ⟨_, rfl, _, rfl, a, _, rfl, .inl hS, _, _, rfl, rfl, _, rfl, iteB (fun c => ?_) (fun c => ?_)⟩
  · have c' := of_decide_eq_true c
    rw [hl] at c'
    have hk : k < ns.length := by omega
    have e : cellAt ns k = ns[k] := by unfold cellAt; rw [List.getElem?_eq_getElem hk]; rfl
    rw [e] at q
    exact ⟨_, rfl, _, rfl, a, _, _, _, rfl, rfl, hS, atI_nat (by rw [List.getElem?_map, List.getElem?_eq_getElem hk]; rfl), q⟩
  · have c' := of_decide_eq_false c
    rw [hl] at c'
    have hk : ns.length ≤ k := by omega
    have e : cellAt ns k = 0 := by unfold cellAt; rw [List.getElem?_eq_none hk]; rfl
    rw [e] at q
    exact q
end
theorem mem_words {rs : List (List Str)} {y : Str} : y ∈ words rs ↔ ∃ r ∈ rs, y ∈ r.drop 1 ∧ ¬ y ∈ Mir.noNames := by
  unfold words rowWords
  simp only [List.mem_flatten, List.mem_map]
  constructor
  · rintro ⟨l, ⟨r, hr, rfl⟩, hy⟩
    rw [List.mem_filter] at hy
    exact ⟨r, hr, hy.1, by simpa using hy.2⟩
  · rintro ⟨r, hr, hy, hn⟩
    exact ⟨_, ⟨r, hr, rfl⟩, List.mem_filter.mpr ⟨hy, by simpa using hn⟩⟩
noncomputable def spLaw (K : PySem.W.Frag) : Sp := fun vs H Q _ => ∃ (a : Addr) (ns : List Int), vs = [.ref a] ∧ SqL K H a (ns.map V.int) ∧ ∀ H', Q (.bl true) H'
theorem sq_put {K : PySem.W.Frag} {H : Hp} {l b : Addr} {xs ys zs : List V} (hl : H l = some (.lst xs)) (h : SqT K H b zs) : SqT K (upd H l (.lst ys)) b zs := by
  rcases h with (h | ⟨o, h⟩) | h
  · have hne : b ≠ l := fun e => by rw [e, hl] at h; cases h
    exact .inl (.inl (by show upd H l _ b = _; rw [upd_ne hne]; exact h))
  · have hne : b ≠ l := fun e => by rw [e, hl] at h; cases h
    exact .inl (.inr ⟨o, by show upd H l _ b = _; rw [upd_ne hne]; exact h⟩)
  · exact .inr h
theorem qg_tup2 {X : Cx} {i j : Nat} {x y : Str} {px py pos : Pos} {k : Nat} (h1 : QG X (.Name x px) (gName i)) (h2 : QG X (.Name y py) (gName j)) (hc : X.calm = true := by rfl)
    (a1 : (assignEach [.Name x px, .Name y py] X.env).map (·.2) = assign (.Name x px) X.env :: (assignEach [.Name y py] X.env).map (·.2) := by rfl) (a2 : (assignEach [.Name y py] X.env).map (·.2) = assign (.Name y py) X.env :: (assignEach [] X.env).map (·.2) := by rfl)
    (hn : (assignEach [.Name x px, .Name y py] X.env).length = 2 := by rfl) (hst : (assignEach [.Name x px, .Name y py] X.env).findIdx? (·.1) = none := by rfl) : QG X (.Tuple [.Name x px, .Name y py] k pos) (gTup X.K 2 (gCons (gName i) (gCons (gName j) gNil))) :=
  ⟨pg_tup hc (pgs_cons h1.run (pgs_cons h2.run pgs_nil a2) a1) hn hst⟩
theorem iteN {b : Bool} {A B : Prop} (h : b = true) (hB : B) : if (!b) = true then A else B := by rw [h]; exact hB
theorem qe_un {X : Cx} {a : Expr} {ta : TE} {pos : Pos} {op : UnaryOp} {r : V → Hp → VK → Prop} (ho : UnR X (unaryOp op) r) (ha : QE X a ta) : QE X (.UnaryOp op a pos) (tUn r ta) := ⟨pe_un ho ha.run⟩
theorem atI_last {α : Type} {xs : List α} {v : α} : atI (xs ++ [v]) (-1) = some v := by
  unfold atI ixN
  have h1 : ¬ (0 : Int) ≤ -1 := by decide
  have h2 : -(((xs ++ [v]).length : Nat) : Int) ≤ -1 := by rw [List.length_append, List.length_singleton]; omega
  rw [if_neg h1, if_pos h2]
  have h3 : ((-1 : Int) + (((xs ++ [v]).length : Nat) : Int)).toNat = xs.length := by rw [List.length_append, List.length_singleton]; omega
  rw [h3]
  simp
theorem qg_tup3 {X : Cx} {i j l : Nat} {x y z : Str} {px py pz pos : Pos} {k : Nat} (h1 : QG X (.Name x px) (gName i)) (h2 : QG X (.Name y py) (gName j)) (h3 : QG X (.Name z pz) (gName l)) (hc : X.calm = true := by rfl)
    (a1 : (assignEach [.Name x px, .Name y py, .Name z pz] X.env).map (·.2) = assign (.Name x px) X.env :: (assignEach [.Name y py, .Name z pz] X.env).map (·.2) := by rfl) (a2 : (assignEach [.Name y py, .Name z pz] X.env).map (·.2) = assign (.Name y py) X.env :: (assignEach [.Name z pz] X.env).map (·.2) := by rfl) (a3 : (assignEach [.Name z pz] X.env).map (·.2) = assign (.Name z pz) X.env :: (assignEach [] X.env).map (·.2) := by rfl)
    (hn : (assignEach [.Name x px, .Name y py, .Name z pz] X.env).length = 3 := by rfl) (hst : (assignEach [.Name x px, .Name y py, .Name z pz] X.env).findIdx? (·.1) = none := by rfl) : QG X (.Tuple [.Name x px, .Name y py, .Name z pz] k pos) (gTup X.K 3 (gCons (gName i) (gCons (gName j) (gCons (gName l) gNil)))) :=
  ⟨pg_tup hc (pgs_cons h1.run (pgs_cons h2.run (pgs_cons h3.run pgs_nil a3) a2) a1) hn hst⟩
end K60
namespace L2
open PySem PySem.Spec PyProof.Rows
section
variable {prog : Program} {w : World} {A : Around} {E : Value → Shared → Prop} {u : Shared}
theorem drawT {j q : Addr} {k : Nat} {vals : Array Value} {v : Value} {R : Value → Shared → Prop} (a1 : u.heap.IsTupleIter j q k) (a2 : u.heap.IsTuple q vals) (a3 : vals[k]? = some v)
    (hR : ∀ g, g.IsTupleIter j q (k + 1) → Heap.SameBut j u.heap g → R v { u with heap := g }) : wpAny (model prog w) A (Builtin.SmallTypes.nextOf (.ref j)) R E u := by
  obtain ⟨o, b1, b2, b3⟩ := id a1
  obtain ⟨p, c1, c0, m, c2⟩ := a2
  have ty := a1.typeIs
  unfold Builtin.SmallTypes.nextOf
  refine wpAny_bind (wpAny_callSpecial?_slot ty F.slot_tuple_iterator_next (wpAny_call_entry F.slot_tuple_iterator_next ty F.entry_tuple_iterator_next ?_ (F.args_tuple_iterator_next_1 _)))
  show wpAny (model prog w) _ (field (.ref j) 0 >>= _) _ _ u
  refine wpAny_bind (wpAny_field b1 b3 (x := .ref q) rfl ?_)
  have nn : ¬ (Value.ref q == Value.none) = true := Bool.false_ne_true
  show wpAny (model prog w) _ (if (Value.ref q == Value.none) = true then _ else _) _ _ u
  rw [if_neg nn]
  show wpAny (model prog w) _ (field (.ref j) 1 >>= _) _ _ u
  refine wpAny_bind (wpAny_field b1 b3 (x := .int k 0) rfl ?_)
  show wpAny (model prog w) _ (seqItems? (.ref q) >>= _) _ _ u
  refine wpAny_bind (wpAny_seqItems c1 c2 ?_)
  simp only [Int.toNat_natCast, a3]
  have kept : ∀ f : Array Value → Array Value, (u.heap.update j (Obj.mapFields f)).get? j = some (Obj.mapFields f o) := fun f => Heap.get?_update_self _ b1 (Obj.isFreed_of_fields (Obj.data_mapFields b3 _))
  refine wpAny_bind (wpAny_setField b1 b3 (by simp) (wpAny_pure ⟨v, rfl, wpAny_pure (hR _ ⟨_, kept _, ?_, ?_⟩ (Heap.SameBut.update ..))⟩))
  · rw [Obj.cls_mapFields]; exact b2
  · rw [Obj.data_mapFields b3]; simp [rawInt]
theorem drawT_end {j q : Addr} {k : Nat} {vals : Array Value} {R : Value → Shared → Prop} (hh : A.handled = none) (a1 : u.heap.IsTupleIter j q k) (a2 : u.heap.IsTuple q vals) (a3 : vals[k]? = none)
    (hE : ∀ g e, Heap.ExtBut j u.heap g → (∃ o, g.get? e = some o ∧ o.cls = .type "StopIteration") → E (.ref e) { u with heap := g }) : wpAny (model prog w) A (Builtin.SmallTypes.nextOf (.ref j)) R E u := by
  obtain ⟨o, b1, b2, b3⟩ := id a1
  obtain ⟨p, c1, c0, m, c2⟩ := a2
  have ty := a1.typeIs
  unfold Builtin.SmallTypes.nextOf
  refine wpAny_bind (wpAny_callSpecial?_slot ty F.slot_tuple_iterator_next (wpAny_call_entry F.slot_tuple_iterator_next ty F.entry_tuple_iterator_next ?_ (F.args_tuple_iterator_next_1 _)))
  show wpAny (model prog w) _ (field (.ref j) 0 >>= _) _ _ u
  refine wpAny_bind (wpAny_field b1 b3 (x := .ref q) rfl ?_)
  have nn : ¬ (Value.ref q == Value.none) = true := Bool.false_ne_true
  show wpAny (model prog w) _ (if (Value.ref q == Value.none) = true then _ else _) _ _ u
  rw [if_neg nn]
  show wpAny (model prog w) _ (field (.ref j) 1 >>= _) _ _ u
  refine wpAny_bind (wpAny_field b1 b3 (x := .int k 0) rfl ?_)
  show wpAny (model prog w) _ (seqItems? (.ref q) >>= _) _ _ u
  refine wpAny_bind (wpAny_seqItems c1 c2 ?_)
  simp only [Int.toNat_natCast, a3]
  refine wpAny_bind (wpAny_rule (wpAny_bind (wpAny_setField b1 b3 (by simp) ?_)))
  show wpAny (model prog w) _ (newExc (.type "StopIteration") [] >>= _) _ _ _
  refine wpAny_bind ?_
  unfold newExc newTuple
  refine wpAny_bind (wpAny_newObj_type ?_ (by size_fits))
  refine wpAny_bind (m := firstArgMember _ _) (wpAny_of_eq (a := Value.none) (by simp only [firstArgMember]; rfl) (wpAny_newObj_type ?_ (by size_fits)))
  refine wpAny_raiseNew_none ?_ ?_
  · exact hh
  · exact hE _ _ (((Heap.SameBut.update ..).extBut.push _).push _) ⟨_, Heap.get?_push_size _ rfl, rfl⟩
theorem zipT_item {z ti to j1 j2 q1 q2 : Addr} {k1 k2 : Nat} {xs ys : Array Value} {x y a b : Value} {R : Option Value → Shared → Prop} (D : ZipApart z ti to j1 j2 q1 q2) (g1 : IsZip u.heap z ti to .none) (g2 : IsPair u.heap ti (.ref j1) (.ref j2)) (g3 : IsPair u.heap to a b)
    (t1 : u.heap.IsTupleIter j1 q1 k1) (t2 : u.heap.IsTupleIter j2 q2 k2) (v1 : u.heap.IsTuple q1 xs) (v2 : u.heap.IsTuple q2 ys) (hx : xs[k1]? = some x) (hy : ys[k2]? = some y)
    (hR : ∀ g, IsZip g z ti to (rawInt u.heap.objs.size) → IsPair g to x y → g.IsTupleIter j1 q1 (k1 + 1) → g.IsTupleIter j2 q2 (k2 + 1) → IsPair g u.heap.objs.size x y →
      (∀ c o, c ≠ z → c ≠ to → c ≠ j1 → c ≠ j2 → u.heap.get? c = some o → g.get? c = some o) → R (some (.ref u.heap.objs.size)) { u with heap := g }) : wpAny (model prog w) A (pyNext (.ref z)) R E u := by
  have ty : u.TypeIs (.ref z) "zip" := ⟨_, g1, rfl⟩
  unfold pyNext
  refine wpAny_bind (wpAny_attempt (wpAny_callSpecial?_slot ty F.slot_zip_next (wpAny_call_entry F.slot_zip_next ty F.entry_zip_next ?_ (F.args_zip_next_1 _))))
  show wpAny (model prog w) _ (field (.ref z) 2 >>= _) _ _ u
  refine wpAny_bind (wpAny_field g1 rfl (x := .bool false) rfl ?_)
  show wpAny (model prog w) _ (field (.ref z) 3 >>= _) _ _ u
  refine wpAny_bind (wpAny_field g1 rfl (x := .ref ti) rfl (wpAny_bind (wpAny_seqItems g2 rfl ?_)))
  show wpAny (model prog w) _ (Builtin.SmallTypes.ownedTupleIsFree (.ref z) >>= _) _ _ u
  refine wpAny_bind ?_
  unfold Builtin.SmallTypes.ownedTupleIsFree
  refine wpAny_bind (wpAny_field g1 rfl (x := .none) rfl (wpAny_pure ?_))
  simp only [if_true]
  refine wpAny_bind (wpAny_rule (wpAny_bind (wpAny_field g1 rfl (x := .ref to) rfl (wpAny_bind (wpAny_setField_rec g1 (by simp) fun m1 y1 d1 => ?_)))))
  have z1 : IsZip m1 z ti to .ellipsis := y1
  refine wpAny_bind ?_
  simp only [List.zipIdx_cons, List.zipIdx_nil, List.forIn_cons, List.forIn_nil]
  refine wpAny_bind (wpAny_bind (wpAny_onRaise ?_))
  show wpAny (model prog w) _ (Builtin.SmallTypes.nextOf (.ref j1) >>= _) _ _ _
  refine wpAny_bind (drawT (t1.extBut d1.extBut D.i1z) (v1.extBut d1.extBut D.l1z) hx fun m2 y2 d2 => wpAny_pure ?_)
  have o2 : IsPair m2 to a b := d2.extBut _ _ D.TOi1 (d1.extBut _ _ D.TOz g3)
  refine wpAny_bind (wpAny_seqItems o2 rfl (wpAny_bind (wpAny_updateSeq_pair o2 fun m3 y3 d3 => wpAny_bind (wpAny_letGo (wpAny_pure ?_)))))
  have o3 : IsPair m3 to x b := y3
  refine wpAny_bind (wpAny_bind (wpAny_onRaise ?_))
  show wpAny (model prog w) _ (Builtin.SmallTypes.nextOf (.ref j2) >>= _) _ _ _
  have w2 := ((t2.extBut d1.extBut D.i2z).extBut d2.extBut D.i12.symm).extBut d3.extBut D.TOi2.symm
  have x2 := ((v2.extBut d1.extBut D.l2z).extBut d2.extBut D.l2i1).extBut d3.extBut D.l2TO
  refine wpAny_bind (drawT w2 x2 hy fun m4 y4 d4 => wpAny_pure ?_)
  have o4 : IsPair m4 to x b := d4.extBut _ _ D.TOi2 o3
  refine wpAny_bind (wpAny_seqItems o4 rfl (wpAny_bind (wpAny_updateSeq_pair o4 fun m5 y5 d5 => wpAny_bind (wpAny_letGo (wpAny_pure (wpAny_pure ?_))))))
  have o5 : IsPair m5 to x y := y5
  refine wpAny_bind (wpAny_seqItems o5 rfl (wpAny_bind (wpAny_newTuple ?_)))
  have sz : m5.objs.size = u.heap.objs.size := by rw [d5.1, d4.1, d3.1, d2.1, d1.1]
  have z5 : IsZip m5 z ti to .ellipsis := d5.extBut _ _ D.TOz.symm (d4.extBut _ _ D.i2z.symm (d3.extBut _ _ D.TOz.symm (d2.extBut _ _ D.i1z.symm z1)))
  have kp : ∀ c o, c ≠ z → c ≠ to → c ≠ j1 → c ≠ j2 → u.heap.get? c = some o → m5.get? c = some o := fun c o n1 n2 n3 n4 e => d5.extBut _ _ n2 (d4.extBut _ _ n4 (d3.extBut _ _ n2 (d2.extBut _ _ n3 (d1.extBut _ _ n1 e))))
  have p1 : m5.IsTupleIter j1 q1 (k1 + 1) := ((y2.extBut d3.extBut D.TOi1.symm).extBut d4.extBut D.i12).extBut d5.extBut D.TOi1.symm
  have p2 : m5.IsTupleIter j2 q2 (k2 + 1) := y4.extBut d5.extBut D.TOi2.symm
  show wpAny (model prog w) _ (Builtin.SmallTypes.ownedTupleHandOut (.ref z) (.ref m5.objs.size) >>= _) _ _ _
  refine wpAny_bind ?_
  unfold Builtin.SmallTypes.ownedTupleHandOut
  have z6 : IsZip (m5.push { cls := .type "tuple", data := .seq #[x, y] }) z ti to .ellipsis := Heap.get?_push_of_some _ z5
  refine wpAny_bind (wpAny_setField_rec z6 (by simp) fun m7 y7 d7 => ?_)
  have z7 : IsZip m7 z ti to (rawInt m5.objs.size) := y7
  refine wpAny_setField_rec z7 (by simp) fun m8 y8 d8 => ?_
  have z8 : IsZip m8 z ti to (rawInt m5.objs.size) := y8
  have lift : ∀ c o, c ≠ z → m5.get? c = some o → m8.get? c = some o := fun c o n1 e => d8.extBut _ _ n1 (d7.extBut _ _ n1 (Heap.get?_push_of_some _ e))
  have nz : m5.objs.size ≠ z := Nat.ne_of_gt (Heap.lt_size z5)
  have np : IsPair m8 m5.objs.size x y := d8.extBut _ _ nz (d7.extBut _ _ nz (Heap.get?_push_size _ rfl))
  rw [sz] at z8 np
  refine wpAny_pure ⟨_, rfl, wpAny_pure ?_⟩
  show R (some (.ref m5.objs.size)) _
  rw [sz]
  exact hR m8 z8 (lift _ _ D.TOz o5) (p1.at fun o e => lift _ o D.i1z e) (p2.at fun o e => lift _ o D.i2z e) np fun c o n1 n2 n3 n4 e => lift c o n1 (kp c o n1 n2 n3 n4 e)
theorem zipT_end {z ti to j1 j2 q1 q2 : Addr} {k1 : Nat} {xs : Array Value} {R : Option Value → Shared → Prop} (hh : A.handled = none) (D : ZipApart z ti to j1 j2 q1 q2) (g1 : IsZip u.heap z ti to .none) (g2 : IsPair u.heap ti (.ref j1) (.ref j2))
    (t1 : u.heap.IsTupleIter j1 q1 k1) (v1 : u.heap.IsTuple q1 xs) (hx : xs[k1]? = none) (hR : ∀ g, (∀ c o, c ≠ z → c ≠ j1 → u.heap.get? c = some o → g.get? c = some o) → R none { u with heap := g }) : wpAny (model prog w) A (pyNext (.ref z)) R E u := by
  have ty : u.TypeIs (.ref z) "zip" := ⟨_, g1, rfl⟩
  unfold pyNext
  refine wpAny_bind (wpAny_attempt (wpAny_callSpecial?_slot ty F.slot_zip_next (wpAny_call_entry F.slot_zip_next ty F.entry_zip_next ?_ (F.args_zip_next_1 _))))
  show wpAny (model prog w) _ (field (.ref z) 2 >>= _) _ _ u
  refine wpAny_bind (wpAny_field g1 rfl (x := .bool false) rfl ?_)
  show wpAny (model prog w) _ (field (.ref z) 3 >>= _) _ _ u
  refine wpAny_bind (wpAny_field g1 rfl (x := .ref ti) rfl (wpAny_bind (wpAny_seqItems g2 rfl ?_)))
  show wpAny (model prog w) _ (Builtin.SmallTypes.ownedTupleIsFree (.ref z) >>= _) _ _ u
  refine wpAny_bind ?_
  unfold Builtin.SmallTypes.ownedTupleIsFree
  refine wpAny_bind (wpAny_field g1 rfl (x := .none) rfl (wpAny_pure ?_))
  simp only [if_true]
  refine wpAny_bind (wpAny_rule (wpAny_bind (wpAny_field g1 rfl (x := .ref to) rfl (wpAny_bind (wpAny_setField_rec g1 (by simp) fun m1 y1 d1 => ?_)))))
  have z1 : IsZip m1 z ti to .ellipsis := y1
  refine wpAny_bind ?_
  simp only [List.zipIdx_cons, List.zipIdx_nil, List.forIn_cons, List.forIn_nil]
  refine wpAny_bind (wpAny_bind (wpAny_onRaise ?_))
  show wpAny (model prog w) _ (Builtin.SmallTypes.nextOf (.ref j1) >>= _) _ _ _
  refine wpAny_bind (drawT_end hh (t1.extBut d1.extBut D.i1z) (v1.extBut d1.extBut D.l1z) hx fun m2 e d2 he => ?_)
  obtain ⟨oe, e1, e2⟩ := he
  have z2 : IsZip m2 z ti to .ellipsis := d2 _ _ D.i1z.symm z1
  have ne : e ≠ z := fun q => by
    subst q
    rw [z2] at e1
    cases e1
    simp at e2
  refine wpAny_setField_rec z2 (by simp) fun m3 _ d3 => ?_
  refine wpAny_bind (wpAny_isInstance (T := "StopIteration") (b := true) ⟨oe, d3.extBut _ _ ne e1, e2⟩ isSubtype_stop ?_)
  exact wpAny_pure (hR m3 fun c o n1 n3 q => d3.extBut _ _ n1 (d2 _ _ n3 (d1.extBut _ _ n1 q)))
end
noncomputable def Ity (K : PySem.W.Frag) (l1 l2 : Addr) : It where
  go := fun i H => ∃ xs ys x y, SqT K H l1 xs ∧ SqT K H l2 ys ∧ xs[i]? = some x ∧ ys[i]? = some y
  yld := fun i H v H' => ∃ x y p, (∀ xs, SqT K H l1 xs → xs[i]? = some x) ∧ (∀ ys, SqT K H l2 ys → ys[i]? = some y) ∧ H p = none ∧ H' = upd H p (.tup [x, y]) ∧ v = .ref p
  stop := fun i H => ∃ xs ys, SqT K H l1 xs ∧ SqT K H l2 ys ∧ xs.length ≤ i
theorem sq_fp {X : Cx} {pins : List (Addr × Obj)} {σ : St} {H : Hp} {s : Shared} {l : Addr} {xs : List V} (I : Inv X pins σ H s) (h : SqT X.K H l xs) (f : FpOk X pins H l) : False := by
  rcases h with (q | ⟨o, q⟩) | ⟨o, its, n, q, _⟩
  · rw [f.1] at q; cases q
  · rw [f.1] at q; cases q
  · have e := I.ok.mod.kin _ _ q
    rcases f.2.2.2.1 with z | z
    · exact I.ok.noex l o e z
    · exact absurd (Nat.lt_of_lt_of_le (Heap.lt_size e) (Nat.le_trans I.ok.bsz z)) (Nat.lt_irrefl _)
noncomputable def zipTt (n l1 l2 : Addr) (i : Nat) (h : Heap) : Prop := IsZip h (n + 4) (n + 2) (n + 3) .none ∧ IsPair h (n + 2) (.ref n) (.ref (n + 1)) ∧ (∃ a b, IsPair h (n + 3) a b) ∧ h.IsTupleIter n l1 i ∧ h.IsTupleIter (n + 1) l2 i
theorem turn_zipT {P : Program} {w : World} {K : PySem.W.Frag} {elts : List Expr} {x1} {pos : Pos} (n l1 l2 : Addr) : Turn P w K (.Tuple elts x1 pos) (Ity K l1 l2) (zipFp n) (n + 4) (zipTt n l1 l2) where
  mem := by simp [zipFp]
  obj := fun i h st b hb => by
    obtain ⟨hz, hTI, ⟨a, c, hTO⟩, ⟨o1, e1, c1, d1⟩, ⟨o2, e2, c2, d2⟩⟩ := st
    unfold zipFp at hb
    simp only [List.mem_cons, List.not_mem_nil, or_false] at hb
    rcases hb with rfl | rfl | rfl | rfl | rfl
    · exact ⟨_, hz, fun v z => by cases z⟩
    · exact ⟨_, hTI, fun v z => by cases z⟩
    · exact ⟨_, hTO, fun v z => by cases z⟩
    · exact ⟨o1, e1, fun v z => by rw [d1] at z; cases z⟩
    · exact ⟨o2, e2, fun v z => by rw [d2] at z; cases z⟩
  keep := fun i h h' st k => by
    obtain ⟨hz, hTI, ⟨a, c, hTO⟩, h1, h2⟩ := st
    exact ⟨k _ (by simp [zipFp]) _ hz, k _ (by simp [zipFp]) _ hTI, ⟨a, c, k _ (by simp [zipFp]) _ hTO⟩, h1.at fun o e => k _ (by simp [zipFp]) o e, h2.at fun o e => k _ (by simp [zipFp]) o e⟩
  item := by
    intro X hP hw hK hc i pins s σ H E I hf st hg
    subst hP hw hK
    obtain ⟨hz, hTI, ⟨a, c, hTO⟩, h1, h2⟩ := st
    obtain ⟨xs, ys, x, y, q1, q2, hx, hy⟩ := hg
    obtain ⟨its1, r1, L1, _⟩ := I.tuple q1
    obtain ⟨its2, r2, L2, _⟩ := I.tuple q2
    obtain ⟨u, hu, ru⟩ := r1.get hx
    obtain ⟨v, hv, rv⟩ := r2.get hy
    have D : ZipApart (n + 4) (n + 2) (n + 3) n (n + 1) l1 l2 := zipApart_of (fun z => sq_fp I q1 (hf _ z)) (fun z => sq_fp I q2 (hf _ z))
    refine zipT_item D hz hTI hTO h1 h2 (show s.heap.IsTuple l1 its1.toArray from L1) (show s.heap.IsTuple l2 its2.toArray from L2) (x := u) (y := v) (by simpa using hu) (by simpa using hv) fun h' a1 a2 a3 a4 a5 hk => ?_
    have I1 : Inv X pins σ H { s with heap := h' } := I.turnedL (ch := zipFp n) (t' := s.toks) (fun b o hb e => by
      unfold zipFp at hb
      simp only [List.mem_cons, List.not_mem_nil, or_false, not_or] at hb
      exact hk b o hb.1 hb.2.2.1 hb.2.2.2.1 hb.2.2.2.2 e) hf
    refine ⟨.ref s.heap.objs.size, rfl, wpAny_letOwnedTupleGo_zip a1 fun h2' hz' hs' => ?_⟩
    have I2 : Inv X pins σ H { s with heap := h2' } := I1.turnedL (s := { s with heap := h' }) (ch := zipFp n) (t' := s.toks) (fun b o hb e => by
      unfold zipFp at hb
      simp only [List.mem_cons, List.not_mem_nil, or_false, not_or] at hb
      exact hs'.extBut _ _ hb.1 e) hf
    have fresh : H s.heap.objs.size = none := I.hok.fresh (Nat.le_refl _)
    have pz : s.heap.objs.size ≠ n + 4 := Nat.ne_of_gt (Heap.lt_size hz)
    have I3 : Inv X pins σ (upd H s.heap.objs.size (.tup [x, y])) { s with heap := h2' } := by
      refine I2.track fresh ?_ (Nat.ne_of_gt I.lt) (fun z c' e e2' => ?_) (fun p hp e2' => ?_) ?_
      · cases q : X.s₀.heap.get? s.heap.objs.size with
        | none => rfl
        | some o => exact absurd (Nat.lt_of_lt_of_le (Heap.lt_size q) I.sz) (Nat.lt_irrefl _)
      · obtain ⟨v', q⟩ := I.cell z c' e
        exact absurd (e2' ▸ q.lt) (Nat.lt_irrefl _)
      · exact absurd (e2' ▸ Heap.lt_size (I.pin p hp).1) (Nat.lt_irrefl _)
      · exact ⟨by show 2 ≤ sizeLine; decide, [u, v], .cons ru (.cons rv .nil), ⟨_, hs'.extBut _ _ pz a5, rfl, _, rfl⟩⟩
    have hpn : ∀ b ∈ zipFp n, b ≠ s.heap.objs.size := fun b hb e => by
      have q3 : ∃ o, s.heap.get? b = some o := by
        unfold zipFp at hb
        simp only [List.mem_cons, List.not_mem_nil, or_false] at hb
        obtain ⟨o1, g1, _⟩ := h1
        obtain ⟨o2, g2, _⟩ := h2
        rcases hb with rfl | rfl | rfl | rfl | rfl
        · exact ⟨_, hz⟩
        · exact ⟨_, hTI⟩
        · exact ⟨_, hTO⟩
        · exact ⟨_, g1⟩
        · exact ⟨_, g2⟩
      obtain ⟨o, q3⟩ := q3
      exact absurd (e ▸ Heap.lt_size q3) (Nat.lt_irrefl _)
    have hTI' : IsPair h' (n + 2) (.ref n) (.ref (n + 1)) := hk _ _ D.TIz D.TITO D.TIi1 D.TIi2 hTI
    refine ⟨.ref s.heap.objs.size, _, I3, rfl, ⟨x, y, _, fun zs hz2 => by rw [I.tuple_inj hz2 q1]; exact hx, fun zs hz2 => by rw [I.tuple_inj hz2 q2]; exact hy, fresh, rfl, rfl⟩, ⟨hz', hs'.extBut _ _ D.TIz hTI', ⟨_, _, hs'.extBut _ _ D.TOz a2⟩, a3.extBut hs'.extBut D.i1z, a4.extBut hs'.extBut D.i2z⟩, fun b hb => ?_⟩
    rw [upd_ne (hpn b hb)]; exact (hf b hb).1
  done := by
    intro X hP hw hK hc i pins s σ H E I hf st hg
    subst hP hw hK
    obtain ⟨hz, hTI, ⟨a, c, hTO⟩, h1, h2⟩ := st
    obtain ⟨xs, ys, q1, q2, hl⟩ := hg
    obtain ⟨its1, r1, L1, _⟩ := I.tuple q1
    have hlen := r1.length
    have D : ZipApart (n + 4) (n + 2) (n + 3) n (n + 1) l1 l2 := zipApart_of (fun z => sq_fp I q1 (hf _ z)) (fun z => sq_fp I q2 (hf _ z))
    refine zipT_end (I.ok.hd hc) D hz hTI h1 (show s.heap.IsTuple l1 its1.toArray from L1) (by rw [List.getElem?_toArray, List.getElem?_eq_none (by omega)]) fun h' hk => ⟨rfl, I.turnedL (ch := zipFp n) (t' := s.toks) (fun b o hb e => ?_) hf⟩
    unfold zipFp at hb
    simp only [List.mem_cons, List.not_mem_nil, or_false, not_or] at hb
    exact hk b o hb.1 hb.2.2.2.1 e
  self := fun _ _ _ _ _ st h => wpAny_pyIter_zip st.1 h
theorem zipT_made (l1 l2 : Addr) (xs ys : Array Value) : Meets (Builtin.«zip.__new__» ⟨[.type "zip", .ref l1, .ref l2], []⟩) (fun _ R s => s.heap.IsTuple l1 xs ∧ s.heap.IsTuple l2 ys ∧
    R (.ok (.ret (.ref (s.heap.objs.size + 4)))) { s with heap := ((((s.heap.push { cls := .type "tuple_iterator", data := .fields #[.ref l1, .int 0 0] }).push { cls := .type "tuple_iterator", data := .fields #[.ref l2, .int 0 0] }).push { cls := .type "tuple", data := .seq #[.ref s.heap.objs.size, .ref (s.heap.objs.size + 1)] }).push { cls := .type "tuple", data := .seq #[.none, .none] }).push { cls := .type "zip", data := .fields #[.none, .bool false, .bool false, .ref (s.heap.objs.size + 2), .ref (s.heap.objs.size + 3)] } }) :=
  .of_wp fun prog w A R s h => by
    obtain ⟨m, g, d, tk, os⟩ := s
    obtain ⟨a1, a2, h⟩ := h
    have sub := sub_zip
    have b1 : Heap.IsTuple (Shared.heap ⟨m, g, d, tk, os⟩) l1 xs := a1
    have b2 : Heap.IsTuple (Shared.heap ⟨m.push { cls := .type "tuple_iterator", data := .fields #[.ref l1, .int 0 0] }, g, d, tk, os⟩) l2 ys := by
      obtain ⟨o, e, r⟩ := a2
      exact ⟨o, Heap.get?_push_of_some _ e, r⟩
    have z1 : (m.push { cls := .type "tuple_iterator", data := .fields #[.ref l1, .int 0 0] }).objs.size = m.objs.size + 1 := Heap.size_push ..
    wp_walk using wpAny_pyIter_tuple b1, wpAny_pyIter_tuple b2
    refine ⟨_, rfl, ?_⟩
    simp only [Heap.size_push]
    exact h
section
variable {X : Cx}
noncomputable def iZipT (K : PySem.W.Frag) (ta : TA) : TI := fun σ H R => ta σ H fun vs H1 => ∃ l1 l2 xs ys, vs = [.ref l1, .ref l2] ∧ SqT K H1 l1 xs ∧ SqT K H1 l2 ys ∧ R (Ity K l1 l2) H1
theorem pi_zipT {a b : Expr} {ta : TA} {p pos tpos : Pos} {elts : List Expr} {x1} (hg : Gl X "zip") (hm : X.mg "zip" = none) (ha : PA X [a, b] ta) (hs : starEach [a, b] X.env = [(false, eval a X.env), (false, eval b X.env)]) (hs2 : starEach [b] X.env = [(false, eval b X.env)]) :
    PI X (.Tuple elts x1 tpos) (.Call (.Name "zip" p) [a, b] [] pos) (iZipT X.K ta) := by
  intro pins s σ H R I h
  refine Call_ (ld_blt I hg hm boot_zip (PyProof.Rows.callWith_type1 (thn (ha pos pins s σ H _ I h) fun us s1 ⟨vs, H1, I1, r1, q1⟩ => ?_) (by rw [hs, hs2]) (by rw [hs2]; rfl)))
  obtain ⟨l1, l2, xs, ys, e, q1, q2, q⟩ := q1
  subst e
  cases r1 with
  | cons r rr =>
    cases rr with
    | cons r' rr =>
      cases rr
      cases r
      cases r'
      obtain ⟨its1, v1, e1, _⟩ := I1.tuple q1
      obtain ⟨its2, v2, e2, _⟩ := I1.tuple q2
      have T1 : s1.heap.IsTuple l1 its1.toArray := e1
      have T2 : s1.heap.IsTuple l2 its2.toArray := e2
      refine callType_new F.called_zip (by decide) (F.typeCall_zip_2 _ _) (F.newCall_zip_2 _ _) (fun obj => F.args_object_init_3 obj _ _) F.entry_zip_new (zipT_made l1 l2 its1.toArray its2.toArray) ⟨T1, T2, ?_⟩
      have z1 : ∀ (m : Heap) (o : Obj), (m.push o).objs.size = m.objs.size + 1 := fun m o => Heap.size_push ..
      have hk : ∀ b o, s1.heap.get? b = some o → ∀ o1 o2 o3 o4 o5, (((((s1.heap.push o1).push o2).push o3).push o4).push o5).get? b = some o := fun b o e o1 o2 o3 o4 o5 => Heap.get?_push_of_some _ (Heap.get?_push_of_some _ (Heap.get?_push_of_some _ (Heap.get?_push_of_some _ (Heap.get?_push_of_some _ e))))
      have at0 : ∀ o1 o2 o3 o4 o5 : Obj, o1.isFreed = false → (((((s1.heap.push o1).push o2).push o3).push o4).push o5).get? s1.heap.objs.size = some o1 := fun o1 o2 o3 o4 o5 f => Heap.get?_push_of_some _ (Heap.get?_push_of_some _ (Heap.get?_push_of_some _ (Heap.get?_push_of_some _ (Heap.get?_push_size _ f))))
      have at1 : ∀ o1 o2 o3 o4 o5 : Obj, o2.isFreed = false → (((((s1.heap.push o1).push o2).push o3).push o4).push o5).get? (s1.heap.objs.size + 1) = some o2 := fun o1 o2 o3 o4 o5 f => by rw [← z1 s1.heap o1]; exact Heap.get?_push_of_some _ (Heap.get?_push_of_some _ (Heap.get?_push_of_some _ (Heap.get?_push_size _ f)))
      have at2 : ∀ o1 o2 o3 o4 o5 : Obj, o3.isFreed = false → (((((s1.heap.push o1).push o2).push o3).push o4).push o5).get? (s1.heap.objs.size + 2) = some o3 := fun o1 o2 o3 o4 o5 f => by
        have e : s1.heap.objs.size + 2 = ((s1.heap.push o1).push o2).objs.size := by rw [z1, z1]
        rw [e]; exact Heap.get?_push_of_some _ (Heap.get?_push_of_some _ (Heap.get?_push_size _ f))
      have at3 : ∀ o1 o2 o3 o4 o5 : Obj, o4.isFreed = false → (((((s1.heap.push o1).push o2).push o3).push o4).push o5).get? (s1.heap.objs.size + 3) = some o4 := fun o1 o2 o3 o4 o5 f => by
        have e : s1.heap.objs.size + 3 = (((s1.heap.push o1).push o2).push o3).objs.size := by rw [z1, z1, z1]
        rw [e]; exact Heap.get?_push_of_some _ (Heap.get?_push_size _ f)
      have at4 : ∀ o1 o2 o3 o4 o5 : Obj, o5.isFreed = false → (((((s1.heap.push o1).push o2).push o3).push o4).push o5).get? (s1.heap.objs.size + 4) = some o5 := fun o1 o2 o3 o4 o5 f => by
        have e : s1.heap.objs.size + 4 = ((((s1.heap.push o1).push o2).push o3).push o4).objs.size := by rw [z1, z1, z1, z1]
        rw [e]; exact Heap.get?_push_size _ f
      have g1 := at4 { cls := .type "tuple_iterator", data := .fields #[.ref l1, .int 0 0] } { cls := .type "tuple_iterator", data := .fields #[.ref l2, .int 0 0] } { cls := .type "tuple", data := .seq #[.ref s1.heap.objs.size, .ref (s1.heap.objs.size + 1)] } { cls := .type "tuple", data := .seq #[.none, .none] } { cls := .type "zip", data := .fields #[.none, .bool false, .bool false, .ref (s1.heap.objs.size + 2), .ref (s1.heap.objs.size + 3)] } rfl
      refine ⟨⟨_, g1, rfl⟩, ?_⟩
      refine wpAny_pyIter_zip (s := { s1 with heap := _ }) g1 ?_
      refine ⟨s1.heap.objs.size + 4, zipFp s1.heap.objs.size, zipTt s1.heap.objs.size l1 l2, Ity X.K l1 l2, H1, rfl, I1.kept (t' := s1.toks) fun b o e => hk b o e _ _ _ _ _, turn_zipT _ _ _, ⟨g1, at2 _ _ _ _ _ rfl, ⟨_, _, at3 _ _ _ _ _ rfl⟩, ⟨_, at0 _ _ _ _ _ rfl, rfl, rfl⟩, ⟨_, at1 _ _ _ _ _ rfl, rfl, rfl⟩⟩, fun b hb => ?_, q⟩
      have hge : s1.heap.objs.size ≤ b := by
        unfold zipFp at hb
        simp only [List.mem_cons, List.not_mem_nil, or_false] at hb
        rcases hb with rfl | rfl | rfl | rfl | rfl
        · exact Nat.le_add_right _ 4
        · exact Nat.le_add_right _ 2
        · exact Nat.le_add_right _ 3
        · exact Nat.le_refl _
        · exact Nat.le_add_right _ 1
      exact I1.fpOk (H' := H1) hge (I1.hok.fresh hge)
theorem qi_zipT {a b : Expr} {ta : TA} {p pos tpos : Pos} {elts : List Expr} {x1} (hg : Gl X "zip") (hm : X.mg "zip" = none) (ha : QA X [a, b] ta) (hs : starEach [a, b] X.env = [(false, eval a X.env), (false, eval b X.env)] := by rfl) (hs2 : starEach [b] X.env = [(false, eval b X.env)] := by rfl) :
    QI X (.Tuple elts x1 tpos) (.Call (.Name "zip" p) [a, b] [] pos) (iZipT X.K ta) := ⟨pi_zipT hg hm ha.run hs hs2⟩
end
end L2
namespace L2
open PySem PySem.Spec PyProof.Rows
section
variable {X : Cx}
noncomputable def tKSub (K : PySem.W.Frag) (w : World) (td ty : TE) : TE := fun σ H Q => td σ H fun x H1 => ty σ H1 fun y H2 => ∃ a kvs z v, x = .ref a ∧ y = .str z ∧ KDict K w a kvs ∧ kvs.lookup z = some v ∧ Q v H2
theorem qe_ksub {K : PySem.W.Frag} {w : World} {o i : Expr} {pos : Pos} {td ty : TE} (hK : X.K = K) (hw : X.w = w) (ho : QE X o td) (hi : QE X i ty) (hs : NoSl i) : QE X (.Subscript o i pos) (tKSub K w td ty) := by
  subst hK hw
  refine ⟨fun pins s σ H Q I h => ?_⟩
  refine subD_of PySem.F.slot_dict_getitem.lookup hs (thn (ho.run pins s σ H _ I h) fun u s1 ⟨x, H1, I1, rx, q1⟩ => thn (hi.run pins s1 σ H1 _ I1 q1) fun iv s2 ⟨y, H2, I2, ry, a, kvs, z, v, ex, ey, hd, hv, q2⟩ => ?_)
  subst ex ey
  obtain rfl : u = Value.ref a := rx
  obtain ⟨t', rfl⟩ := ry
  obtain ⟨es, n, hl, hk, hno, hr⟩ := hd
  have mp2 : s2.heap.MapOf (strKind X.prog X.w) a (fun k => findBy Value.isStrOf es k) := PySem.W.mapOf_K I2.kIn hl hk
  have hz := hr z
  rw [hv] at hz
  obtain ⟨w', hw', rw'⟩ := RelO.some_of (v := v) (o := findBy Value.isStrOf es z) hz
  exact ⟨mp2.typeIs, wpAny_getItem_of (strKind_is _ _ z t') mp2 hw' ⟨v, H2, I2.tok _, rw', q2⟩⟩
theorem call_isi_strX {K : PySem.W.Frag} (hK : X.K = K) : CallR X (.builtin "isinstance") (fun xs H Q => (∃ z, xs = [.str z, .ty "str"] ∧ Q (.bl true) H) ∨ (∃ a ys, xs = [.ref a, .ty "str"] ∧ (SqL K H a ys ∨ SqT K H a ys) ∧ Q (.bl false) H)) := by
  subst hK
  intro pins s σ H xs us Q I r h
  rcases h with ⟨z, rfl, q⟩ | ⟨a, ys, rfl, hq, q⟩
  · exact call_isi_str pins s σ H _ us Q I r ⟨z, rfl, q⟩
  · cases r with
    | cons r1 r =>
      cases r with
      | cons r2 r =>
        cases r
        cases r1
        cases r2
        rcases hq with hq | hq
        · obtain ⟨its, rv, p, hz⟩ := I.list hq
          obtain ⟨o, n, e, hc, _⟩ := p
          exact IsiPair.list_str e hc ⟨.bl false, H, I.tok _, rfl, q⟩
        · obtain ⟨its, rv, p, hz⟩ := I.tuple hq
          obtain ⟨o, e, hc, _⟩ := p
          exact IsiPair.tuple_str e hc ⟨.bl false, H, I.tok _, rfl, q⟩
theorem call_isi_listX {K : PySem.W.Frag} (hK : X.K = K) : CallR X (.builtin "isinstance") (fun xs H Q => (∃ z, xs = [.str z, .ty "list"] ∧ Q (.bl false) H) ∨ (∃ a ys, xs = [.ref a, .ty "list"] ∧ SqT K H a ys ∧ Q (.bl false) H) ∨ (∃ a ys, xs = [.ref a, .ty "list"] ∧ SqL K H a ys ∧ Q (.bl true) H)) := by
  subst hK
  intro pins s σ H xs us Q I r h
  rcases h with ⟨z, rfl, q⟩ | ⟨a, ys, rfl, hq, q⟩ | ⟨a, ys, rfl, hq, q⟩
  · cases r with
    | cons r1 r =>
      cases r with
      | cons r2 r =>
        cases r
        obtain ⟨t, rfl⟩ := r1
        cases r2
        exact IsiPair.str_list ⟨.bl false, H, I.tok _, rfl, q⟩
  · cases r with
    | cons r1 r =>
      cases r with
      | cons r2 r =>
        cases r
        cases r1
        cases r2
        obtain ⟨its, rv, p, hz⟩ := I.tuple hq
        obtain ⟨o, e, hc, _⟩ := p
        exact IsiPair.tuple_list e hc ⟨.bl false, H, I.tok _, rfl, q⟩
  · exact call_isi_list pins s σ H _ us Q I r ⟨a, ys, rfl, hq, q⟩
noncomputable def iSeq (K : PySem.W.Frag) (tl : TE) : TI := fun σ H R => tl σ H fun x H1 => ∃ a, x = .ref a ∧ (((∃ xs, SqL K H1 a xs) ∧ R (Itl K a) H1) ∨ ((∃ xs, SqT K H1 a xs) ∧ R (Itt K a) H1))
theorem qi_seq {tg l : Expr} {tl : TE} (hl : QE X l tl) : QI X tg l (iSeq X.K tl) := by
  refine ⟨fun pins s σ H R I h => ?_⟩
  refine thn (hl.run pins s σ H _ I h) fun v s1 ⟨x, H1, I1, r1, q1⟩ => ?_
  obtain ⟨a, e, h2⟩ := q1
  subst e
  cases r1
  rcases h2 with ⟨⟨xs, hq⟩, q⟩ | ⟨⟨xs, hq⟩, q⟩
  · obtain ⟨its, rv, p, hz⟩ := I1.list hq
    refine wpAny_pyIter_list p.isList ⟨s1.heap.objs.size, [s1.heap.objs.size], _, _, H1, rfl, I1.kept (t' := s1.toks) fun b o e => Heap.get?_push_of_some _ e, turn_list a _, ⟨_, Heap.get?_push_size _ rfl, rfl, rfl⟩, fun b hb => ?_, q⟩
    have e : b = s1.heap.objs.size := by simpa using hb
    subst e
    exact I1.fpOk (Nat.le_refl _) (I1.hok.fresh (Nat.le_refl _))
  · obtain ⟨its, rv, p, hz⟩ := I1.tuple hq
    refine wpAny_pyIter_tuple (show s1.heap.IsTuple a its.toArray from p) ⟨s1.heap.objs.size, [s1.heap.objs.size], _, _, H1, rfl, I1.kept (t' := s1.toks) fun b o e => Heap.get?_push_of_some _ e, turn_tuple a _, ⟨_, Heap.get?_push_size _ rfl, rfl, rfl⟩, fun b hb => ?_, q⟩
    have e : b = s1.heap.objs.size := by simpa using hb
    subst e
    exact I1.fpOk (Nat.le_refl _) (I1.hok.fresh (Nat.le_refl _))
noncomputable def tDisp1T (tk tv : TE) : TE := fun σ H Q => ∀ p, H p = none → tk σ (upd H p (.dT [])) fun x H1 => tv σ H1 fun y H2 => ∃ (b : Addr) (ks : List Key), x = .ref b ∧ H2 p = some (.dT []) ∧ H2 b = some (.tup (ks.map kV)) ∧ Q (.ref p) (upd H2 p (.dT [(ks, y)]))
theorem qe_disp1T {pos : Pos} {k v : Expr} {tk tv : TE} (hu0 : X.A.units < cLine) (hk : QE X k tk) (hv : QE X v tv) : QE X (.Dict [some k] [v] pos) (tDisp1T tk tv) := by
  refine ⟨fun pins s σ H Q I q => ?_⟩
  have hn := I.hok.fresh (Nat.le_refl s.heap.objs.size)
  have I1 := I.laid (a := s.heap.objs.size) (o := .dT []) (h' := s.heap.push { cls := .type "dict", data := .dict #[] }) (t' := s.toks) (fun _ _ q => Heap.get?_push_of_some _ q) (Nat.le_refl _) (dt_empty s.heap I.big)
  rw [arm_eval_Dict, zip_pairTrees [some k] [v] X.env pos rfl rfl, dictDisplay_pairs (pairTrees [some k] [v] X.env pos) (by intro z; cases z) (show 1 < 17 by decide)]
  refine wpAny_bind (wpAny_standAt (wpAny_bind ?_))
  unfold subDict
  refine wpAny_bind (wpAny_alloc (wpAny_bind (wpAny_holding ?_)))
  rw [if_pos (show (pairTrees [some k] [v] X.env pos).length ≤ 15 from (show 1 ≤ 15 by decide))]
  refine wpAny_bind (pairTrees_cons_walk (thn (hk.run pins _ σ _ _ I1 (q _ hn)) fun u s1 ⟨x, H1, I2, rx, q1⟩ => thn (hv.run pins s1 σ H1 _ I2 q1) fun w2 s2 ⟨y, H2, I3, ry, b, ks, ex, e1, e2, q2⟩ => pairTrees_nil_walk (wpAny_holding ?_)))
  subst ex
  cases rx
  obtain ⟨z, hd, xs, rel, dd⟩ := dt_of I3.hok e1
  have hz : xs.length ≤ sizeLine := by rw [← Paired.length rel]; exact z
  rw [List.forIn_cons]
  refine wpAny_bind (wpAny_bind ?_)
  show wpAny _ _ (dictSet s.heap.objs.size (.ref b) w2 >>= fun _ => pure (ForInStep.yield PUnit.unit)) _ _ _
  refine wpAny_bind (wpAny_dictSet_heap (hsz := hz) (show (tupleKind (mixKind X.prog X.w)).room X.A from hu0) (key_of I3.hok e2) dd fun h' dd' hs => wpAny_pure ?_)
  dsimp only
  rw [List.forIn_nil]
  refine wpAny_pure (wpAny_pure (wpAny_pure (wpAny_pure ⟨.ref s.heap.objs.size, _, ?_, rfl, q2⟩)))
  obtain ⟨q', es, ep, hq, h2, h3, h4, _, h5⟩ := dd'
  refine d_write I3 (by rw [e1]; exact True.intro) hs ⟨q', hq⟩ ⟨by show 1 ≤ sizeLine; decide, hd, _, (rel.put ks e2 ry).keeps fun c ys ec => ?_, q', es, ep, hq, h2, h3, h4, h5⟩
  rw [upd_ne (ne_of ec e1 (fun z => nomatch z))]
  exact ec
end
end L2
namespace K60
open PySem PySem.Spec L2 Mir
theorem ixTK {X : Cx} {K : PySem.W.Frag} (h : X.K = K) : IxR X (rIxT K) := by subst h; exact ix_tup
theorem ixK {X : Cx} {K : PySem.W.Frag} (h : X.K = K) : IxR X (rIxL K) := by subst h; exact ix_list
theorem lt_line {n : Nat} (h : n ≤ 1000) : n < sizeLine := small1000 h
theorem le_line {n : Nat} (h : n ≤ 1000) : n ≤ sizeLine := Nat.le_of_lt (small1000 h)
theorem at0 {α : Type} {x : α} {xs : List α} : atI (x :: xs) 0 = some x := atI_nat (xs := x :: xs) (v := x) (j := 0) rfl
noncomputable def Ok (x : Str) : Prop := (PyData.str x).canLay0 = true
inductive Pl
  | row (r : List Str)
  | call (x c : Str) (vs : List Str)
noncomputable def PlAt (H : Hp) (t : Addr) : Pl → Prop
  | .row r => H t = some (.tup (r.map V.str))
  | .call x c vs => ∃ v, H t = some (.tup [.str "call", .str x, .str c, .ref v]) ∧ H v = some (.tup (vs.map V.str))
theorem PlAt.same {H H' : Hp} {t : Addr} {p : Pl} (h : PlAt H t p) (e : Same H H') : PlAt H' t p := by
  cases p with
  | row r => exact e _ _ h
  | call x c vs => obtain ⟨v, h1, h2⟩ := h; exact ⟨v, e _ _ h1, e _ _ h2⟩
noncomputable def PlOk : Pl → Prop
  | .row r => (∃ h r' fs, r = h :: r' ∧ (h, fs) ∈ forms ∧ fs.length = r'.length) ∧ ∀ y ∈ r, Ok y
  | .call x c vs => Ok x ∧ Ok c ∧ ∀ y ∈ vs, Ok y
theorem okSign_small : ∀ c ∈ Mir.letters.cps.toList ++ Mir.figures.cps.toList, c < 128 := by decide +kernel
theorem ok_name {y : Str} (h : isName y = true) : Ok y := by
  have h2 : y.cps.toList.all okSign = true := by
    unfold isName at h
    split at h
    · cases h
    · rw [Bool.and_eq_true] at h; exact h.2
  unfold Ok
  simp only [PyData.canLay0]
  unfold PyData.strOk
  rw [← Array.all_toList, List.all_eq_true]
  intro c hc
  have h3 := List.all_eq_true.mp h2 c hc
  unfold okSign at h3
  rw [Bool.or_eq_true] at h3
  have : c < 128 := okSign_small c (List.mem_append.mpr (h3.imp of_decide_eq_true of_decide_eq_true))
  simp only [decide_eq_true_eq]
  omega
theorem ok_words : ∀ y ∈ ([("set" : Str), "read", "write", "new", "free", "first", "second", "nil", "any", "", "is", "not", "if", "while", "call", "cell", "stretch", "tree"] : List Str), (PyData.str y).canLay0 = true := by decide +kernel
theorem forms_no : ∀ x ∈ forms, x.1 ≠ "if" ∧ x.1 ≠ "while" ∧ x.1 ≠ "call" := by decide +kernel
theorem pl_word {H : Hp} {t : Addr} {p : Pl} (h : PlAt H t p) (ok : PlOk p) : ∃ (w : Str) (vs : List V), H t = some (.tup (.str w :: vs)) ∧ w ≠ "if" ∧ w ≠ "while" := by
  cases p with
  | row r => obtain ⟨⟨w, r', fs, rfl, h1, h2⟩, _⟩ := ok; exact ⟨w, r'.map V.str, h, (forms_no _ h1).1, (forms_no _ h1).2.1⟩
  | call x c vs => obtain ⟨v, h1, h2⟩ := h; exact ⟨"call", _, h1, by decide +kernel, by decide +kernel⟩
structure Dn (n : Nat) (d : PyData) : Prop where
  lay : d.canLay0 = true
  dep : d.depth ≤ n
theorem Dn.ok {n : Nat} {d : PyData} (h : Dn n d) (hn : n ≤ 16) : EqOk d := ⟨h.lay, Nat.le_trans h.dep hn⟩
theorem Dn.mono {m n : Nat} {d : PyData} (h : Dn m d) (hn : m ≤ n) : Dn n d := ⟨h.lay, Nat.le_trans h.dep hn⟩
theorem dn_all {n : Nat} : ∀ {ds : List PyData}, (∀ d ∈ ds, Dn n d) → PyData.canLayAll0 ds = true ∧ PyData.depthAll ds ≤ n
  | [], _ => ⟨by simp only [PyData.canLayAll0], by simp only [PyData.depthAll]; omega⟩
  | d :: ds, h => by
    obtain ⟨h1, h2⟩ := dn_all (ds := ds) fun x hx => h x (List.mem_cons_of_mem _ hx)
    have h3 := h d (List.mem_cons_self ..)
    refine ⟨?_, ?_⟩
    · simp only [PyData.canLayAll0, Bool.and_eq_true]
      exact ⟨h3.lay, h1⟩
    · simp only [PyData.depthAll]
      exact Nat.max_le.mpr ⟨h3.dep, h2⟩
theorem Dn.lst {n : Nat} {ds : List PyData} (h : ∀ d ∈ ds, Dn n d) : Dn (n + 1) (.list ds) := by
  obtain ⟨h1, h2⟩ := dn_all h
  refine ⟨?_, ?_⟩
  · simp only [PyData.canLay0]; exact h1
  · simp only [PyData.depth]; omega
theorem Dn.tup {n : Nat} {ds : List PyData} (h : ∀ d ∈ ds, Dn n d) : Dn (n + 1) (.tuple ds) := by
  obtain ⟨h1, h2⟩ := dn_all h
  refine ⟨?_, ?_⟩
  · simp only [PyData.canLay0]; exact h1
  · simp only [PyData.depth]; omega
theorem Dn.str {n : Nat} {x : Str} (h : Ok x) : Dn n (.str x) := ⟨h, by simp only [PyData.depth]; exact Nat.zero_le _⟩
theorem dn_row {r : List Str} (h : ∀ y ∈ r, Ok y) : Dn 1 (dRow r) := by
  refine Dn.tup fun e he => ?_
  obtain ⟨y, hy, rfl⟩ := List.mem_map.mp he
  exact Dn.str (h y hy)
theorem dn_rows {rs : List (List Str)} (h : ∀ r ∈ rs, ∀ y ∈ r, Ok y) : Dn 2 (.list (rs.map dRow)) := by
  refine Dn.lst fun d hd => ?_
  obtain ⟨r, hr, rfl⟩ := List.mem_map.mp hd
  exact dn_row (h r hr)
inductive Deed
  | plain (p : Pl)
  | cond (r : List Str) (a b : List Deed)
  | loop (r : List Str) (F P : List (List Str)) (a : List Deed)
noncomputable def plD : Pl → PyData
  | .row r => dRow r
  | .call x c vs => .tuple [.str "call", .str x, .str c, dRow vs]
noncomputable def toldD (F P : List (List Str)) : PyData := .tuple [.list (F.map dRow), .list (P.map dRow)]
noncomputable def deedD (f : List Deed → PyData) : Deed → PyData
  | .plain p => plD p
  | .cond r a b => .tuple [.str "if", dRow r, f a, f b]
  | .loop r F P a => .tuple [.str "while", dRow r, toldD F P, f a]
noncomputable def listD : List Nat → List Deed → PyData
  | [], _ => .none
  | _ :: bs, ds => .list (ds.map (deedD (listD bs)))
inductive DeedX (K : PySem.W.Frag) (H : Hp) (L : Addr → List Deed → Prop) (t : Addr) : Deed → Prop
  | plain (p : Pl) (h1 : PlAt H t p) (h2 : PlOk p) : DeedX K H L t (.plain p)
  | cond (c i o : Addr) (r : List Str) (a b : List Deed) (h : H t = some (.tup [.str "if", .ref c, .ref i, .ref o])) (hc : H c = some (.tup (r.map V.str))) (okr : ∀ y ∈ r, Ok y) (hi : L i a) (ho : L o b) : DeedX K H L t (.cond r a b)
  | loop (c td i fa pa : Addr) (r : List Str) (F P : List (List Str)) (a : List Deed) (h : H t = some (.tup [.str "while", .ref c, .ref td, .ref i])) (hc : H c = some (.tup (r.map V.str))) (okr : ∀ y ∈ r, Ok y) (htd : H td = some (.tup [.ref fa, .ref pa])) (hF : RowsAt K H fa F) (hP : RowsAt K H pa P) (okF : ∀ r ∈ F, ∀ y ∈ r, Ok y) (okP : ∀ r ∈ P, ∀ y ∈ r, Ok y) (lF : F.length ≤ 10) (lP : P.length ≤ 10) (hi : L i a) : DeedX K H L t (.loop r F P a)
noncomputable def ListX (K : PySem.W.Frag) (H : Hp) : List Nat → Addr → List Deed → Prop
  | [], _, _ => False
  | b :: bs, l, ds => ∃ ts : List Addr, H l = some (.lst (ts.map V.ref)) ∧ Paired (DeedX K H (ListX K H bs)) ts ds ∧ ts.length ≤ b
section
variable {K : PySem.W.Frag} {H H' : Hp}
theorem DeedX.same {L L' : Addr → List Deed → Prop} {t : Addr} {d : Deed} (h : DeedX K H L t d) (e : Same H H') (hL : ∀ l ds, L l ds → L' l ds) : DeedX K H' L' t d := by
  cases h with
  | plain p h1 h2 => exact .plain p (h1.same e) h2
  | cond c i o r a b h hc okr hi ho => exact .cond c i o r a b (e _ _ h) (e _ _ hc) okr (hL _ _ hi) (hL _ _ ho)
  | loop c td i fa pa r F P a h hc okr htd hF hP okF okP lF lP hi => exact .loop c td i fa pa r F P a (e _ _ h) (e _ _ hc) okr (e _ _ htd) (hF.same e) (hP.same e) okF okP lF lP (hL _ _ hi)
theorem ListX.same : ∀ {bs : List Nat} {l : Addr} {ds : List Deed}, ListX K H bs l ds → Same H H' → ListX K H' bs l ds
  | [], _, _, h, _ => h.elim
  | b :: bs, l, ds, h, e => by
    obtain ⟨ts, h1, h2, h3⟩ := h
    exact ⟨ts, e _ _ h1, Paired.mapP h2 fun _ _ z => z.same e fun _ _ y => ListX.same y e, h3⟩
theorem PlAt.dp {t : Addr} {p : Pl} (h : PlAt H t p) : Dp K H (.ref t) (plD p) := by
  cases p with
  | row r => exact RowAt.dp (SqT.of h)
  | call x c vs =>
    obtain ⟨v, h1, h2⟩ := h
    exact .tup (SqT.of h1) (.cons (.str _) (.cons (.str _) (.cons (.str _) (.cons (RowAt.dp (SqT.of h2)) .nil))))
theorem DeedX.dp {L : Addr → List Deed → Prop} {f : List Deed → PyData} {t : Addr} {d : Deed} (h : DeedX K H L t d) (hL : ∀ l ds, L l ds → Dp K H (.ref l) (f ds)) : Dp K H (.ref t) (deedD f d) := by
  cases h with
  | plain p h1 h2 => exact h1.dp
  | cond c i o r a b h hc okr hi ho => exact .tup (SqT.of h) (.cons (.str _) (.cons (RowAt.dp (SqT.of hc)) (.cons (hL _ _ hi) (.cons (hL _ _ ho) .nil))))
  | loop c td i fa pa r F P a h hc okr htd hF hP okF okP lF lP hi => exact .tup (SqT.of h) (.cons (.str _) (.cons (RowAt.dp (SqT.of hc)) (.cons (.tup (SqT.of htd) (.cons hF.dp (.cons hP.dp .nil))) (.cons (hL _ _ hi) .nil))))
theorem PlOk.dn {p : Pl} (h : PlOk p) : Dn 2 (plD p) := by
  cases p with
  | row r => exact (dn_row h.2).mono (by decide)
  | call x c vs =>
    obtain ⟨h1, h2, h3⟩ := h
    refine Dn.tup fun d hd => ?_
    simp only [List.mem_cons, List.not_mem_nil, or_false] at hd
    rcases hd with rfl | rfl | rfl | rfl
    · exact Dn.str (ok_words "call" (by simp))
    · exact Dn.str h1
    · exact Dn.str h2
    · exact dn_row h3
theorem DeedX.dn {L : Addr → List Deed → Prop} {f : List Deed → PyData} {t : Addr} {d : Deed} {n : Nat} (h : DeedX K H L t d) (hL : ∀ l ds, L l ds → Dn n (f ds)) (hn : 3 ≤ n) : Dn (n + 1) (deedD f d) := by
  cases h with
  | plain p h1 h2 => exact h2.dn.mono (by omega)
  | cond c i o r a b h hc okr hi ho =>
    refine Dn.tup fun d hd => ?_
    simp only [List.mem_cons, List.not_mem_nil, or_false] at hd
    rcases hd with rfl | rfl | rfl | rfl
    · exact Dn.str (ok_words "if" (by simp))
    · exact (dn_row okr).mono (by omega)
    · exact hL _ _ hi
    · exact hL _ _ ho
  | loop c td i fa pa r F P a h hc okr htd hF hP okF okP lF lP hi =>
    refine Dn.tup fun d hd => ?_
    simp only [List.mem_cons, List.not_mem_nil, or_false] at hd
    rcases hd with rfl | rfl | rfl | rfl
    · exact Dn.str (ok_words "while" (by simp))
    · exact (dn_row okr).mono (by omega)
    · refine (Dn.tup (n := 2) fun d hd => ?_).mono hn
      simp only [List.mem_cons, List.not_mem_nil, or_false] at hd
      rcases hd with rfl | rfl
      · exact dn_rows okF
      · exact dn_rows okP
    · exact hL _ _ hi
theorem dp_pair {α : Type} {R : Addr → α → Prop} {g : α → PyData} : ∀ {ts : List Addr} {ds : List α}, Paired R ts ds → (∀ t d, R t d → Dp K H (.ref t) (g d)) → DpAll K H (ts.map V.ref) (ds.map g)
  | _, _, .nil, _ => .nil
  | _, _, .cons h1 h2, f => .cons (f _ _ h1) (dp_pair h2 f)
theorem ListX.dp : ∀ {bs : List Nat} {l : Addr} {ds : List Deed}, ListX K H bs l ds → Dp K H (.ref l) (listD bs ds)
  | [], _, _, h => h.elim
  | b :: bs, l, ds, h => by
    obtain ⟨ts, h1, h2, h3⟩ := h
    exact .lst (SqL.of h1) (dp_pair h2 fun t d z => z.dp fun _ _ y => ListX.dp y)
theorem ListX.dn : ∀ {bs : List Nat} {l : Addr} {ds : List Deed}, ListX K H bs l ds → Dn (3 + 2 * bs.length) (listD bs ds)
  | [], _, _, h => h.elim
  | b :: bs, l, ds, h => by
    obtain ⟨ts, h1, h2, h3⟩ := h
    have : 3 + 2 * (b :: bs).length = (3 + 2 * bs.length + 1) + 1 := by rw [List.length_cons]; omega
    rw [this]
    refine Dn.lst fun x hx => ?_
    obtain ⟨d, hd, rfl⟩ := List.mem_map.mp hx
    obtain ⟨i, hi⟩ := List.getElem?_of_mem hd
    have hlt : i < ts.length := by rw [Paired.length h2]; exact (List.getElem?_eq_some_iff.mp hi).1
    obtain ⟨d', hd', hx'⟩ := Paired.nth h2 (List.getElem?_eq_getElem hlt)
    rw [hi] at hd'; cases hd'
    exact hx'.dn (fun _ _ y => ListX.dn y) (by omega)
structure Prc where
  name : Str
  res : Str
  ps : List Str
  F1 : List (List Str)
  P1 : List (List Str)
  F2 : List (List Str)
  P2 : List (List Str)
  body : List Deed
noncomputable def prcD (bs : List Nat) (p : Prc) : PyData := .tuple [.str p.name, dRow p.ps, .str p.res, toldD p.F1 p.P1, toldD p.F2 p.P2, listD bs p.body]
structure PrcX (K : PySem.W.Frag) (H : Hp) (bs : List Nat) (t pt t1 t2 f1 p1 f2 p2 bd : Addr) (p : Prc) : Prop where
  tup : H t = some (.tup [.str p.name, .ref pt, .str p.res, .ref t1, .ref t2, .ref bd])
  pt : H pt = some (.tup (p.ps.map V.str))
  t1 : H t1 = some (.tup [.ref f1, .ref p1])
  t2 : H t2 = some (.tup [.ref f2, .ref p2])
  f1 : RowsAt K H f1 p.F1
  p1 : RowsAt K H p1 p.P1
  f2 : RowsAt K H f2 p.F2
  p2 : RowsAt K H p2 p.P2
  body : ListX K H bs bd p.body
  okn : Ok p.name
  okr : Ok p.res
  okp : ∀ y ∈ p.ps, Ok y
  ok1 : (∀ r ∈ p.F1, ∀ y ∈ r, Ok y) ∧ ∀ r ∈ p.P1, ∀ y ∈ r, Ok y
  ok2 : (∀ r ∈ p.F2, ∀ y ∈ r, Ok y) ∧ ∀ r ∈ p.P2, ∀ y ∈ r, Ok y
  l1 : p.F1.length ≤ 10 ∧ p.P1.length ≤ 10
  l2 : p.F2.length ≤ 10 ∧ p.P2.length ≤ 10
noncomputable def PrcAt (K : PySem.W.Frag) (H : Hp) (bs : List Nat) (t : Addr) (p : Prc) : Prop := ∃ pt t1 t2 f1 p1 f2 p2 bd, PrcX K H bs t pt t1 t2 f1 p1 f2 p2 bd p
theorem PrcAt.same {bs : List Nat} {t : Addr} {p : Prc} (h : PrcAt K H bs t p) (e : Same H H') : PrcAt K H' bs t p := by
  obtain ⟨pt, t1, t2, f1, p1, f2, p2, bd, x⟩ := h
  exact ⟨pt, t1, t2, f1, p1, f2, p2, bd, e _ _ x.tup, e _ _ x.pt, e _ _ x.t1, e _ _ x.t2, x.f1.same e, x.p1.same e, x.f2.same e, x.p2.same e, x.body.same e, x.okn, x.okr, x.okp, x.ok1, x.ok2, x.l1, x.l2⟩
theorem told_dp {t f1 p1 : Addr} {F P : List (List Str)} (h : H t = some (.tup [.ref f1, .ref p1])) (hF : RowsAt K H f1 F) (hP : RowsAt K H p1 P) : Dp K H (.ref t) (toldD F P) := .tup (SqT.of h) (.cons hF.dp (.cons hP.dp .nil))
theorem told_dn {F P : List (List Str)} (h : (∀ r ∈ F, ∀ y ∈ r, Ok y) ∧ ∀ r ∈ P, ∀ y ∈ r, Ok y) : Dn 3 (toldD F P) := by
  refine Dn.tup fun d hd => ?_
  simp only [List.mem_cons, List.not_mem_nil, or_false] at hd
  rcases hd with rfl | rfl
  · exact dn_rows h.1
  · exact dn_rows h.2
theorem PrcAt.dp {bs : List Nat} {t : Addr} {p : Prc} (h : PrcAt K H bs t p) : Dp K H (.ref t) (prcD bs p) := by
  obtain ⟨pt, t1, t2, f1, p1, f2, p2, bd, x⟩ := h
  exact .tup (SqT.of x.tup) (.cons (.str _) (.cons (RowAt.dp (SqT.of x.pt)) (.cons (.str _) (.cons (told_dp x.t1 x.f1 x.p1) (.cons (told_dp x.t2 x.f2 x.p2) (.cons x.body.dp .nil))))))
theorem PrcAt.dn {bs : List Nat} {t : Addr} {p : Prc} (h : PrcAt K H bs t p) : Dn (3 + 2 * bs.length + 1) (prcD bs p) := by
  obtain ⟨pt, t1, t2, f1, p1, f2, p2, bd, x⟩ := h
  refine Dn.tup fun d hd => ?_
  simp only [List.mem_cons, List.not_mem_nil, or_false] at hd
  rcases hd with rfl | rfl | rfl | rfl | rfl | rfl
  · exact Dn.str x.okn
  · exact (dn_row x.okp).mono (by omega)
  · exact Dn.str x.okr
  · exact (told_dn x.ok1).mono (by omega)
  · exact (told_dn x.ok2).mono (by omega)
  · exact x.body.dn
end
noncomputable def innL : Deed → List (List Deed)
  | .plain _ => []
  | .cond _ a b => [a, b]
  | .loop _ _ _ a => [a]
noncomputable def isLp : Deed → Bool
  | .loop _ _ _ _ => true
  | _ => false
inductive spLists (vs : List V) (H : Hp) (Q : VK) (E : XK) : Prop
  | cond (t i o : Addr) (c : V) (h0 : vs = [.ref t]) (h : H t = some (.tup [.str "if", c, .ref i, .ref o])) (q : ∀ l, H l = none → Q (.ref l) (upd H l (.lst [.ref i, .ref o])))
  | loop (t i : Addr) (c d : V) (h0 : vs = [.ref t]) (h : H t = some (.tup [.str "while", c, d, .ref i])) (q : ∀ l, H l = none → Q (.ref l) (upd H l (.lst [.ref i])))
  | none (t : Addr) (w : Str) (vs' : List V) (h0 : vs = [.ref t]) (h : H t = some (.tup (.str w :: vs'))) (n1 : w ≠ "if") (n2 : w ≠ "while") (q : ∀ l, H l = none → Q (.ref l) (upd H l (.lst [])))
theorem lists_of {K : PySem.W.Frag} {bs : List Nat} {H H0 : Hp} {t : Addr} {d : Deed} {vs : List V} {Q : VK} {E : XK} (h : DeedX K H0 (ListX K H0 bs) t d) (e : Same H0 H) (h0 : vs = [.ref t]) (q : ∀ l as, H l = none → Paired (ListX K H0 bs) as (innL d) → Q (.ref l) (upd H l (.lst (as.map V.ref)))) : spLists vs H Q E := by
  cases h with
  | plain p h1 h2 =>
    obtain ⟨w, vs', hw, n1, n2⟩ := pl_word h1 h2
    exact .none t w vs' h0 (e _ _ hw) n1 n2 fun l hl => q l [] hl .nil
  | cond c i o r a b h hc okr hi ho => exact .cond t i o _ h0 (e _ _ h) fun l hl => q l [i, o] hl (.cons hi (.cons ho .nil))
  | loop c td i fa pa r F P a h hc okr htd hF hP okF okP lF lP hi => exact .loop t i _ _ h0 (e _ _ h) fun l hl => q l [i] hl (.cons hi .nil)
theorem word_of {K : PySem.W.Frag} {H : Hp} {L : Addr → List Deed → Prop} {t : Addr} {d : Deed} (h : DeedX K H L t d) : ∃ (w : Str) (vs : List V), H t = some (.tup (.str w :: vs)) ∧ (w = "while" ↔ isLp d = true) := by
  cases h with
  | plain p h1 h2 =>
    obtain ⟨w, vs', hw, n1, n2⟩ := pl_word h1 h2
    exact ⟨w, vs', hw, fun z => absurd z n2, fun z => by cases z⟩
  | cond c i o r a b h hc okr hi ho => exact ⟨_, _, h, fun z => absurd z (by decide +kernel), fun z => by cases z⟩
  | loop c td i fa pa r F P a h hc okr htd hF hP okF okP lF lP hi => exact ⟨_, _, h, fun _ => rfl, fun _ => rfl⟩
end K60
namespace L2
open PySem PySem.Spec
noncomputable def zipF (p : Str → Bool) (as bs : List Str) : List Str := ((as.zip bs).filter fun x => p x.1).map (·.2)
theorem comp_zipS {K : PySem.W.Frag} {l1 l2 : Addr} {H1 : Hp} {σ : St} {ix : List Nat} {tc : TT} {te : TE} {Q : VK} (as bs : List Str) (p : Str → Bool) (h1 : SqT K H1 l1 (as.map V.str)) (h2 : SqT K H1 l2 (bs.map V.str)) (hl : as.length = bs.length) (hz : as.length ≤ 1000)
    (ht : ∀ a b H2, ∀ Q' : Bool → Hp → Prop, Q' (p a) H2 → tc (some (.str a) :: some (.str b) :: frees σ ix) H2 Q')
    (he : ∀ a b H2, ∀ Q' : VK, Q' (.str b) H2 → te (some (.str a) :: some (.str b) :: frees σ ix) H2 Q')
    (hQ : ∀ D H', H1 D = none → Same H1 H' → H' D = some (.lst ((zipF p as bs).map V.str)) → Q (.ref D) H') : CompGo2 K (Ity K l1 l2) H1 σ ix tc te Q := by
  intro D hD
  have put : ∀ H ys, Same H1 H → Same H1 (upd H D (.lst ys)) := fun H ys e b u q => by rw [upd_ne (ne_of_none q hD)]; exact e b u q
  have zl : (as.zip bs).length = as.length := by rw [List.length_zip, ← hl, Nat.min_self]
  refine ⟨fun i m H => i ≤ as.length ∧ m = as.length - i ∧ Same H1 H ∧ H D = some (.lst (((((as.zip bs).take i).filter fun x => p x.1).map (·.2)).map V.str)), ⟨as.length, Nat.zero_le _, rfl, put _ _ (Same.refl _), upd_same⟩, ?_⟩
  rintro i m H ⟨hi, rfl, e, hD'⟩
  by_cases hlt : i < as.length
  · have ha : as[i]? = some as[i] := List.getElem?_eq_getElem hlt
    have hb : bs[i]? = some (bs[i]'(by omega)) := List.getElem?_eq_getElem (by omega)
    generalize as[i] = a at ha
    generalize bs[i]'(by omega) = b at hb
    refine .inr ⟨⟨_, _, .str a, .str b, e.seqT h1, e.seqT h2, by rw [List.getElem?_map, ha]; rfl, by rw [List.getElem?_map, hb]; rfl⟩, fun x H' hy => ?_⟩
    obtain ⟨x', y', p', g1, g2, g3, rfl, rfl⟩ := hy
    have g1' := g1 _ (e.seqT h1)
    have g2' := g2 _ (e.seqT h2)
    rw [List.getElem?_map, ha] at g1'
    rw [List.getElem?_map, hb] at g2'
    cases g1'
    cases g2'
    have s1 := same_new g3 (.tup [V.str a, V.str b])
    have hzi : (as.zip bs)[i]? = some (a, b) := by rw [List.getElem?_zip_eq_some]; exact ⟨ha, hb⟩
    refine ⟨p', _, _, rfl, SqT.of upd_same, ht a b _ _ ?_⟩
    have hD2 := s1 _ _ hD'
    cases c : p a with
    | true =>
      rw [if_pos rfl]
      refine he a b _ _ ⟨_, hD2, Nat.lt_of_le_of_lt ?_ (show 1000 < sizeLine by decide), as.length - (i + 1), by omega, hlt, rfl, put _ _ (e.trans s1), ?_⟩
      · rw [List.length_map, List.length_map]
        have := List.length_filter_le (fun x : Str × Str => p x.1) ((as.zip bs).take i)
        rw [List.length_take] at this
        omega
      · rw [upd_same, List.take_add_one, hzi, List.filter_append, List.map_append, List.map_append]
        show _ = some (HO.lst (_ ++ ((([(a, b)].filter fun x : Str × Str => p x.1).map (·.2)).map V.str)))
        rw [List.filter_cons_of_pos (by exact c)]; rfl
    | false =>
      rw [if_neg Bool.false_ne_true]
      refine ⟨as.length - (i + 1), by omega, hlt, rfl, e.trans s1, ?_⟩
      rw [hD2, List.take_add_one, hzi, List.filter_append]
      show _ = some (HO.lst (((_ ++ ([(a, b)].filter fun x : Str × Str => p x.1)).map (·.2)).map V.str))
      rw [List.filter_cons_of_neg (by simp [c])]; simp
  · have ei : i = as.length := by omega
    subst ei
    have htk : (as.zip bs).take as.length = as.zip bs := List.take_of_length_le (by rw [zl]; exact Nat.le_refl _)
    rw [htk] at hD'
    exact .inl ⟨⟨_, _, e.seqT h1, e.seqT h2, by rw [List.length_map]; exact Nat.le_refl _⟩, hQ D H hD e hD'⟩
theorem fl_take {α β : Type} {l : List α} {g : α → List β} {i : Nat} {x : α} (h : l[i]? = some x) : (l.take (i + 1)).flatMap g = (l.take i).flatMap g ++ g x := by
  rw [List.take_add_one, h, List.flatMap_append]; simp
theorem fl_le {α β : Type} (l : List α) (g : α → List β) (i : Nat) : ((l.take i).flatMap g).length ≤ (l.flatMap g).length := by
  have : l.flatMap g = (l.take i).flatMap g ++ (l.drop i).flatMap g := by rw [← List.flatMap_append, List.take_append_drop]
  rw [this, List.length_append]; exact Nat.le_add_right _ _
theorem fl_mem {α β : Type} {l : List α} {g : α → List β} {i : Nat} {x : α} (h : l[i]? = some x) : ((l.take i).flatMap g).length + (g x).length ≤ (l.flatMap g).length := by
  have := fl_le l g (i + 1)
  rw [fl_take h, List.length_append] at this
  exact this
end L2
namespace K60
open PySem PySem.Spec L2 Mir
noncomputable abbrev sListsIn : Stmt := top 9
noncomputable abbrev sAll : Stmt := top 10
noncomputable abbrev sWords : Stmt := top 11
abbrev DeedS (K : PySem.W.Frag) (H : Hp) (t : Addr) (d : Deed) : Prop := DeedX K H (fun _ _ => True) t d
theorem DeedS.same {K : PySem.W.Frag} {H H' : Hp} {t : Addr} {d : Deed} (h : DeedS K H t d) (e : Same H H') : DeedS K H' t d := DeedX.same h e fun _ _ z => z
noncomputable def allD (f : List Deed → List Deed) (d : Deed) : List Deed := d :: (innL d).flatMap f
noncomputable def allL : List Nat → List Deed → List Deed
  | [], _ => []
  | _ :: bs, ds => ds.flatMap (allD (allL bs))
inductive spAll (K : PySem.W.Frag) (bs : List Nat) (vs : List V) (H : Hp) (Q : VK) (E : XK) : Prop
  | mk (G : Hp) (l : Addr) (ds : List Deed) (h0 : vs = [.ref l]) (e : Same G H) (h1 : ListX K G bs l ds) (h4 : (allL bs ds).length ≤ 100)
      (q : ∀ fo us H', Same H H' → H fo = none → H' fo = some (.lst (us.map V.ref)) → Paired (DeedS K G) us (allL bs ds) → Q (.ref fo) H') : spAll K bs vs H Q E
inductive AI (K : PySem.W.Frag) (bs : List Nat) (G H : Hp) (l fo : Addr) (ds : List Deed) (i : Nat) (σ : St) (H2 : Hp) : Prop
  | mk (us : List Addr) (z2 z3 : Option V) (e : Same H H2) (hf : H2 fo = some (.lst (us.map V.ref))) (hp : Paired (DeedS K G) us ((ds.take i).flatMap (allD (allL bs)))) (hσ : σ = [some (.ref l), some (.ref fo), z2, z3])
inductive AJ (K : PySem.W.Frag) (bs : List Nat) (G H : Hp) (l fo ll : Addr) (as : List Addr) (pre : List Deed) (is : List (List Deed)) (v2 : V) (j : Nat) (σ : St) (H2 : Hp) : Prop
  | mk (us : List Addr) (z3 : Option V) (e : Same H H2) (hl : H2 ll = some (.lst (as.map V.ref))) (hf : H2 fo = some (.lst (us.map V.ref))) (hp : Paired (DeedS K G) us (pre ++ (is.take j).flatMap (allL bs))) (hσ : σ = [some (.ref l), some (.ref fo), some v2, z3])
section
variable {P : Program} {w : World} {K : PySem.W.Frag} {mg : Str → Option Value} {base : Heap} {f gS gN : Addr} {fd dS dN : FuncData}
theorem scListsIn : FnScope ["deed"] ["deed"] (defScope sListsIn) := ⟨rfl, rfl, rfl, by decide +kernel, rfl, by decide +kernel, by decide +kernel⟩
theorem ok_listsIn (C : Con K mg w) (F : Fun K "lists_in" "lists_in" sListsIn f fd) : FnOk P w K mg base CX0 1 f fd ["deed"] spLists := by
  refine F.okQ scListsIn (fun vs H Q E h => ?_) (fun cdv A outer s0 H vs Q E hr h => ?_)
  · rcases h with ⟨_, _, _, _, rfl, _⟩ | ⟨_, _, _, _, rfl, _⟩ | ⟨_, _, _, rfl, _⟩ <;> rfl
  have nd := scListsIn.nd
  rcases h with ⟨t, i, o, c, rfl, h, q⟩ | ⟨t, i, c, d, rfl, h, q⟩ | ⟨t, w', vs', rfl, h, n1, n2, q⟩
  · refine ⟨_, qb_cons (qs_if (qt_cmpR op_eq (qe_ix ix_tup (qv 0) qe_int (fun _ _ => rfl)) qe_str (nomark _)) (qb_one (qs_ret (qe_lst (qa_sub (qe_ix ix_tup (qv 0) qe_int (fun _ _ => rfl)) (qa_sub (qe_ix ix_tup (qv 0) qe_int (fun _ _ => rfl)) qa_nil))))) qb_nil)
    (qb_one (qs_ret (qe_ifExp (qt_cmpR op_eq (qe_ix ix_tup (qv 0) qe_int (fun _ _ => rfl)) qe_str (nomark _)) (qe_lst (qa_sub (qe_ix ix_tup (qv 0) qe_int (fun _ _ => rfl)) qa_nil)) (qe_lst qa_nil)))), ?_⟩
    refine ⟨_, rfl, t, _, 0, _, rfl, rfl, SqT.of h, rfl, rfl, _, rfl, iteB (fun _ => ?_) (fun c => absurd c (by decide +kernel))⟩
    exact ⟨_, rfl, t, _, 2, _, rfl, rfl, SqT.of h, rfl, _, rfl, t, _, 3, _, rfl, rfl, SqT.of h, rfl, (show 2 ≤ sizeLine by decide), q⟩
  · refine ⟨_, qb_cons (qs_if (qt_cmpR op_eq (qe_ix ix_tup (qv 0) qe_int (fun _ _ => rfl)) qe_str (nomark _)) (qb_one (qs_ret (qe_lst (qa_sub (qe_ix ix_tup (qv 0) qe_int (fun _ _ => rfl)) (qa_sub (qe_ix ix_tup (qv 0) qe_int (fun _ _ => rfl)) qa_nil))))) qb_nil)
    (qb_one (qs_ret (qe_ifExp (qt_cmpR op_eq (qe_ix ix_tup (qv 0) qe_int (fun _ _ => rfl)) qe_str (nomark _)) (qe_lst (qa_sub (qe_ix ix_tup (qv 0) qe_int (fun _ _ => rfl)) qa_nil)) (qe_lst qa_nil)))), ?_⟩
    refine ⟨_, rfl, t, _, 0, _, rfl, rfl, SqT.of h, rfl, rfl, _, rfl, iteB (fun c => absurd c (by decide +kernel)) (fun _ => ?_)⟩
    refine ⟨_, rfl, t, _, 0, _, rfl, rfl, SqT.of h, rfl, rfl, _, rfl, iteB (fun _ => ?_) (fun c => absurd c (by decide +kernel))⟩
    exact ⟨_, rfl, t, _, 3, _, rfl, rfl, SqT.of h, rfl, (show 1 ≤ sizeLine by decide), q⟩
  · refine ⟨_, qb_cons (qs_if (qt_cmpR op_eq (qe_ix ix_tup (qv 0) qe_int (fun _ _ => rfl)) qe_str (nomark _)) (qb_one (qs_ret (qe_lst (qa_sub (qe_ix ix_tup (qv 0) qe_int (fun _ _ => rfl)) (qa_sub (qe_ix ix_tup (qv 0) qe_int (fun _ _ => rfl)) qa_nil))))) qb_nil)
    (qb_one (qs_ret (qe_ifExp (qt_cmpR op_eq (qe_ix ix_tup (qv 0) qe_int (fun _ _ => rfl)) qe_str (nomark _)) (qe_lst (qa_sub (qe_ix ix_tup (qv 0) qe_int (fun _ _ => rfl)) qa_nil)) (qe_lst qa_nil)))), ?_⟩
    refine ⟨_, rfl, t, _, 0, _, rfl, rfl, SqT.of h, at0, rfl, _, rfl, iteB (fun c => absurd (V.str.inj (of_decide_eq_true c)) n1) (fun _ => ?_)⟩
    refine ⟨_, rfl, t, _, 0, _, rfl, rfl, SqT.of h, at0, rfl, _, rfl, iteB (fun c => absurd (V.str.inj (of_decide_eq_true c)) n2) (fun _ => ?_)⟩
    exact ⟨Nat.zero_le _, q⟩
theorem scAll : FnScope ["deeds", "found", "deed", "inner"] ["deeds"] (defScope sAll) := ⟨rfl, rfl, rfl, by decide +kernel, rfl, by decide +kernel, by decide +kernel⟩
theorem ok_all0 : FnOk P w K mg base CX0 1 f fd ["deeds"] (spAll K []) :=
  ⟨fun vs H Q E h => by obtain ⟨G, l, ds, _, _, h1, _⟩ := h; exact h1.elim, fun A outer s H args us vs Q E _ _ _ _ h => by obtain ⟨G, l, ds, _, _, h1, _⟩ := h; exact h1.elim⟩
theorem ok_allS {n b : Nat} {bs : List Nat} (C : Con K mg w) (F : Fun K "all_deeds" "all_deeds" sAll f fd) (GS : FnOk P w K mg base CX0 1 gS dS ["deed"] spLists) (cS : Cal K mg "lists_in" gS dS ["deed"]) (GR : FnOk P w K mg base CX0 (n + 1) f fd ["deeds"] (spAll K bs)) (cR : Cal K mg "all_deeds" f fd ["deeds"]) : FnOk P w K mg base CX0 (n + 1 + 1) f fd ["deeds"] (spAll K (b :: bs)) := by
  refine F.okQ scAll (fun vs H Q E h => ?_) (fun cdv A outer s0 H vs Q E hr h => ?_)
  · obtain ⟨G, l, ds, rfl, _⟩ := h; rfl
  obtain ⟨G, l, ds, rfl, eG, hLX, hcnt, q⟩ := h
  obtain ⟨ts, hl', hp, htl⟩ := hLX
  have hl := eG _ _ hl'
  have nd := scAll.nd
  have hr1 := hr.mono (j := 1) (by omega)
  refine ⟨_, qb_cons (qs_set (i := 1) nd rfl (Or.inl rfl) (qe_lst qa_nil))
    (qb_cons (qs_for PassesOwn.never rfl (qi_list (qv 0)) (qg_name (i := 2) nd rfl (Or.inl rfl)) (qb_cons (qs_expr (qe_bmK (K := K) rfl PySem.F.plainAttrs_list PySem.F.slot_list_append PySem.F.type_list_append mt_append (qv 1) (qa_nm (qv 2) qa_nil)))
    (qb_one (qs_for PassesOwn.never rfl (qi_list (qe_call GS hr1 rfl cS.name cS.keep cS.bind .nil pass0 (qa_nm (qv 2) qa_nil))) (qg_name (i := 3) nd rfl (Or.inl rfl)) (qb_one (qs_expr (qe_bmK (K := K) rfl PySem.F.plainAttrs_list PySem.F.slot_list_extend PySem.F.type_list_extend mt_extend (qv 1) (qa_call (qe_call GR hr rfl cR.name cR.keep cR.bind .nil pass0 (qa_nm (qv 3) qa_nil)) qa_nil))))))))
    (qb_one (qs_ret (qv 1)))), ?_⟩
  have hpl := Paired.length hp
  have hcnt' : (ds.flatMap (allD (allL bs))).length ≤ 100 := hcnt
  refine ⟨Nat.zero_le _, fun fo hfo => ?_⟩
  have s1 := same_new hfo (.lst [])
  have k1 : (upd H fo (.lst [])) fo = some (.lst []) := upd_same
  generalize upd H fo (.lst []) = H1 at s1 k1 ⊢
  dsimp only [gName]
  refine seq_hide (a := tFor _ _ _) fun D1 hN1 hR1 hC1 => ?_
  refine ⟨_, rfl, l, rfl, ⟨_, SqL.of (s1 _ _ hl)⟩, ?_⟩
  refine for_list (xs := ts.map V.ref) (AI K bs G H l fo ds) ⟨[], none, none, s1, k1, .nil, rfl⟩ (fun i σ H' _ z => by obtain ⟨us, _, _, e, _⟩ := z; exact SqL.of (e _ _ hl)) ?_ ?_
  · rintro i x σ H2 hx ⟨us, z2, z3, e, hf, hpp, rfl⟩
    rw [List.getElem?_map] at hx
    obtain ⟨t, ht, rfl⟩ := Option.map_eq_some_iff.mp hx
    obtain ⟨d, hd, hX⟩ := Paired.nth hp ht
    have hsz := fl_mem (g := allD (allL bs)) hd
    have htk := fl_take (g := allD (allL bs)) hd
    have hdF : allD (allL bs) d = d :: (innL d).flatMap (allL bs) := rfl
    rw [hdF, List.length_cons] at hsz
    have hul := Paired.length hpp
    refine ⟨_, rfl, (.inl ⟨rfl, _, SqL.of hf⟩), _, rfl, fo, _, _, rfl, rfl, hf, lt_line (by rw [List.length_map, hul]; omega), ?_⟩
    have k3 : (upd H2 fo (.lst (us.map V.ref ++ [.ref t]))) fo = some (.lst ((us ++ [t]).map V.ref)) := by rw [upd_same, List.map_append]; rfl
    have e3 : Same H (upd H2 fo (.lst (us.map V.ref ++ [.ref t]))) := fun b o z => by rw [upd_ne (ne_of_none z hfo)]; exact e _ _ z
    have hp3 : Paired (DeedS K G) (us ++ [t]) ((ds.take i).flatMap (allD (allL bs)) ++ [d]) := Paired.snocP hpp (DeedX.same hX (Same.refl _) fun _ _ _ => trivial)
    generalize upd H2 fo (.lst (us.map V.ref ++ [.ref t])) = H3 at k3 e3 ⊢
    generalize us ++ [t] = us3 at k3 hp3
    dsimp only [gName]
    refine ⟨_, rfl, lists_of hX (eG.trans e3) rfl fun ll as hll hin => ?_⟩
    have s4 := same_new hll (.lst (as.map V.ref))
    have k4 : (upd H3 ll (.lst (as.map V.ref))) ll = some (.lst (as.map V.ref)) := upd_same
    have nll : ll ≠ fo := (ne_of_none k3 hll).symm
    generalize upd H3 ll (.lst (as.map V.ref)) = H4 at s4 k4 ⊢
    refine ⟨ll, rfl, ⟨_, SqL.of k4⟩, ?_⟩
    refine for_list (xs := as.map V.ref) (AJ K bs G H l fo ll as ((ds.take i).flatMap (allD (allL bs)) ++ [d]) (innL d) (.ref t)) ⟨us3, z3, e3.trans s4, k4, s4 _ _ k3, (by simpa using hp3), rfl⟩ (fun j σ H' _ z => by obtain ⟨_, _, _, h, _⟩ := z; exact SqL.of h) ?_ ?_
    · rintro j x σ H5 hx5 ⟨us5, y3, e5, hl5, hf5, hp5, rfl⟩
      rw [List.getElem?_map] at hx5
      obtain ⟨c, hc, rfl⟩ := Option.map_eq_some_iff.mp hx5
      obtain ⟨a, ha, hLa⟩ := Paired.nth hin hc
      have hszj := fl_mem (g := allL bs) ha
      have hul5 := Paired.length hp5
      rw [List.length_append, List.length_append] at hul5
      have h1 : [d].length = 1 := rfl
      refine ⟨_, rfl, (.inl ⟨rfl, _, SqL.of hf5⟩), _, rfl, G, c, a, rfl, eG.trans e5, hLa, (by omega), fun fo' us' H6 e6 _ k6 hp6 => ?_⟩
      have hul6 := Paired.length hp6
      have hf6 := e6 _ _ hf5
      refine ⟨fo, fo', _, _, rfl, rfl, hf6, k6, le_line (by rw [List.length_map, List.length_map, hul5, hul6]; omega), ?_⟩
      refine ⟨us5 ++ us', _, fun b o z => by rw [upd_ne (ne_of_none z hfo)]; exact e6 _ _ (e5 _ _ z), by rw [upd_ne nll]; exact e6 _ _ hl5, by rw [upd_same, List.map_append], ?_, rfl⟩
      rw [fl_take (g := allL bs) ha, ← List.append_assoc]
      exact Paired.app hp5 hp6
    · rintro σ H5 ⟨us5, y3, e5, hl5, hf5, hp5, rfl⟩
      refine ⟨us5, _, _, e5, hf5, ?_, rfl⟩
      have : (innL d).take (as.map V.ref).length = innL d := List.take_of_length_le (by rw [List.length_map, Paired.length hin]; exact Nat.le_refl _)
      rw [this] at hp5
      rw [htk, hdF, ← List.singleton_append, ← List.append_assoc]
      exact hp5
  rintro σ H2 ⟨us, z2, z3, e, hf, hpp, rfl⟩
  have : ds.take (ts.map V.ref).length = ds := List.take_of_length_le (by rw [List.length_map, hpl]; exact Nat.le_refl _)
  rw [this] at hpp
  exact hN1 _ _ ⟨_, rfl, q fo us H2 e hfo hf hpp⟩
end
end K60
namespace K60
open PySem PySem.Spec L2 Mir
noncomputable abbrev sNamesIn : Stmt := top 12
noncomputable abbrev sByNames : Stmt := top 13
noncomputable def notField (x : Str) : Bool := !decide (V.str x = V.str "field")
noncomputable def keepW (h : Str) (r : List Str) : List Str := match forms.lookup h with
  | some fs => zipF notField fs r
  | none => []
noncomputable def wrdP : Pl → List Str
  | .row (h :: r) => keepW h r
  | .row [] => []
  | .call x _ vs => x :: vs
noncomputable def wrd : Deed → List Str
  | .plain p => wrdP p
  | .cond r _ _ => r.drop 1
  | .loop r F P _ => r.drop 1 ++ words (F ++ P)
structure TOk (xs : List Str) (F P : List (List Str)) : Prop where
  f : ShortRows F
  p : ShortRows P
  ne : ∀ r ∈ F ++ P, r ≠ []
  sub : ∀ y ∈ words (F ++ P), y ∈ xs
structure ROk (r : List Str) : Prop where
  len : r.length = 3
  sh : ∀ y ∈ r, Short y
noncomputable def DOk (xs : List Str) : Deed → Prop
  | .plain (.row r) => ∀ y ∈ r, Short y
  | .plain (.call x c vs) => Short x ∧ vs.length ≤ 8 ∧ ∀ y ∈ vs, Short y
  | .cond r _ _ => ROk r
  | .loop r F P _ => ROk r ∧ TOk xs F P
theorem TOk.few {xs : List Str} {F P : List (List Str)} (h : TOk xs F P) (hx : xs.length ≤ 20) {ss : List Str} (hn : ss.Nodup) (hs : ∀ y ∈ ss, y ∈ words (F ++ P)) : ss.length ≤ 20 := Nat.le_trans (List.Nodup.length_le_of_subset hn fun y hy => h.sub y (hs y hy)) hx
theorem short_words : ∀ {rs : List (List Str)} {y : Str}, (∀ r ∈ rs, ∀ x ∈ r, Short x) → y ∈ words rs → Short y := fun {rs y} h hy => by
  unfold words at hy
  obtain ⟨l, hl, hy⟩ := List.mem_flatten.mp hy
  obtain ⟨r, hr, rfl⟩ := List.mem_map.mp hl
  exact h r hr y (List.mem_of_mem_drop (List.mem_filter.mp hy).1)
inductive spWords (K : PySem.W.Frag) (vs : List V) (H : Hp) (Q : VK) (E : XK) : Prop
  | mk (t : Addr) (d : Deed) (xs : List Str) (h0 : vs = [.ref t]) (h1 : DeedS K H t d) (h2 : DOk xs d) (h3 : xs.length ≤ 20)
      (q : ∀ (l : Addr) (ws : List Str) (H' : Hp), Same H H' → H' l = some (.lst (ws.map V.str)) → (∀ y, y ∈ ws ↔ y ∈ wrd d) → ws.length ≤ 30 → Q (.ref l) H') : spWords K vs H Q E
theorem forms_nd : (forms.map (·.1)).Nodup := by decide +kernel
theorem forms_len : ∀ x ∈ forms, x.2.length ≤ 3 := by decide +kernel
theorem look_mem {β : Type} : ∀ {l : List (Str × β)} {h : Str} {b : β}, (l.map (·.1)).Nodup → (h, b) ∈ l → l.lookup h = some b
  | [], _, _, _, hm => by cases hm
  | (k, c) :: l, h, b, hn, hm => by
    rw [List.map_cons, List.nodup_cons] at hn
    by_cases e : h = k
    · subst e
      rcases List.mem_cons.mp hm with z | z
      · cases z; rw [List.lookup_cons_self]
      · exact absurd (List.mem_map.mpr ⟨_, z, rfl⟩) hn.1
    · rcases List.mem_cons.mp hm with z | z
      · cases z; exact absurd rfl e
      · rw [List.lookup_cons]
        have : (h == k) = false := beq_false_of_ne e
        rw [this]; exact look_mem hn.2 z
theorem zipF_len (p : Str → Bool) (as bs : List Str) : (zipF p as bs).length ≤ as.length := by
  unfold zipF
  rw [List.length_map]
  have := List.length_filter_le (fun x : Str × Str => p x.1) (as.zip bs)
  rw [List.length_zip] at this
  omega
section
variable {P : Program} {w : World} {K : PySem.W.Frag} {mg : Str → Option Value} {base : Heap} {f gN gA gW gI : Addr} {fd dN dA dW dI : FuncData}
theorem scWords : FnScope ["deed"] ["deed"] (defScope sWords) := ⟨rfl, rfl, rfl, by decide +kernel, rfl, by decide +kernel, by decide +kernel⟩
theorem ok_words_of (C : Con K mg w) (F : Fun K "words_of" "words_of" sWords f fd) (GN : FnOk P w K mg base CX0 1 gN dN ["telling"] (spNames K)) (cN : Cal K mg "names_of" gN dN ["telling"]) : FnOk P w K mg base CX0 2 f fd ["deed"] (spWords K) := by
  refine F.okQ scWords (fun vs H Q E h => ?_) (fun cdv A outer s0 H vs Q E hr h => ?_)
  · obtain ⟨t, d, xs, rfl, _⟩ := h; rfl
  obtain ⟨t, d, xs, rfl, hX, hok, hxs, q⟩ := h
  have nd := scWords.nd
  obtain ⟨aF, tsF, gF, kF, nF, rF⟩ := C.forms
  refine ⟨_, qb_cons (qs_if (qt_cmpR op_eq (qe_ix ix_tup (qv 0) qe_int (fun _ _ => rfl)) qe_str (nomark _)) (qb_one (qs_ret (qe_op op_cat (qe_lst (qa_sub (qe_ix ix_tup (qv 0) qe_int (fun _ _ => rfl)) qa_nil)) (qe_callTy call_list_of rfl C.list PyProof.Rows.boot_list (qa_sub (qe_ix ix_tup (qv 0) qe_int (fun _ _ => rfl)) qa_nil))))) qb_nil)
    (qb_cons (qs_if (qt_cmpR op_eq (qe_ix ix_tup (qv 0) qe_int (fun _ _ => rfl)) qe_str (nomark _)) (qb_one (qs_ret (qe_callTy call_list_of rfl C.list PyProof.Rows.boot_list (qa_sub (qe_slice sl_tupU (qe_ix ix_tup (qv 0) qe_int (fun _ _ => rfl)) (qo_some qe_int) qo_none) qa_nil)))) qb_nil)
    (qb_cons (qs_if (qt_cmpR op_eq (qe_ix ix_tup (qv 0) qe_int (fun _ _ => rfl)) qe_str (nomark _)) (qb_one (qs_ret (qe_op op_cat (qe_callTy call_list_of rfl C.list PyProof.Rows.boot_list (qa_sub (qe_slice sl_tupU (qe_ix ix_tup (qv 0) qe_int (fun _ _ => rfl)) (qo_some qe_int) qo_none) qa_nil)) (qe_call GN hr rfl cN.name cN.keep cN.bind .nil pass0 (qa_sub (qe_ix ix_tup (qv 0) qe_int (fun _ _ => rfl)) qa_nil))))) qb_nil)
    (qb_one (qs_ret (qe_comp2G (K := K) rfl ["sort", "word"] [] (qi_zipT rfl C.zip (qa_sub (qe_ksub (K := K) (w := w) rfl rfl (qe_g gF) (qe_ix ix_tup (qv 0) qe_int (fun _ _ => rfl)) (fun _ _ => rfl)) (qa_sub (qe_slice sl_tupU (qv 0) (qo_some qe_int) qo_none) qa_nil))) (fun _ _ _ _ => (qts_one (qt_cmpR op_ne (qv 0) qe_str (nomark _)))) (fun _ _ _ _ => (qv 1))))))), ?_⟩
  cases hX with
  | plain p h1 h2 =>
    cases p with
    | call x c vs =>
      obtain ⟨v, hv1, hv2⟩ := h1
      obtain ⟨ox, ol, ov⟩ := hok
      refine ⟨_, rfl, t, _, 0, _, rfl, rfl, SqT.of hv1, rfl, rfl, _, rfl, iteB (fun _ => ?_) (fun c => absurd c (by decide +kernel))⟩
      refine ⟨_, rfl, t, _, 1, _, rfl, rfl, SqT.of hv1, rfl, (show 1 ≤ sizeLine by decide), fun l1 hl1 => ?_⟩
      have s1 := same_new hl1 (.lst [.str x])
      have k1 : (upd H l1 (.lst [.str x])) l1 = some (.lst [.str x]) := upd_same
      generalize upd H l1 (.lst [.str x]) = H1 at s1 k1 ⊢
      refine ⟨_, rfl, t, _, 3, _, rfl, rfl, SqT.of (s1 _ _ hv1), rfl, v, _, rfl, .inr (SqT.of (s1 _ _ hv2)), fun l2 hl2 => ?_⟩
      have s2 := same_new hl2 (.lst (vs.map V.str))
      refine ⟨l1, l2, _, _, rfl, rfl, s2 _ _ k1, upd_same, le_line (by rw [List.length_map]; show 1 + _ ≤ 1000; omega), fun l3 hl3 => ?_⟩
      have s3 := same_new hl3 (.lst ([V.str x] ++ vs.map V.str))
      exact q l3 (x :: vs) _ ((s1.trans s2).trans s3) upd_same (fun y => Iff.rfl) (by rw [List.length_cons]; omega)
    | row r =>
      obtain ⟨⟨h, r', fs, rfl, hf, hl⟩, okr⟩ := h2
      have h1' : H t = some (.tup (.str h :: r'.map V.str)) := h1
      obtain ⟨n1, n2, n3⟩ := forms_no _ hf
      have hf3 : fs.length ≤ 3 := forms_len _ hf
      refine ⟨_, rfl, t, _, 0, _, rfl, rfl, SqT.of h1', at0, rfl, _, rfl, iteB (fun c => absurd (V.str.inj (of_decide_eq_true c)) n3) (fun _ => ?_)⟩
      refine ⟨_, rfl, t, _, 0, _, rfl, rfl, SqT.of h1', at0, rfl, _, rfl, iteB (fun c => absurd (V.str.inj (of_decide_eq_true c)) n1) (fun _ => ?_)⟩
      refine ⟨_, rfl, t, _, 0, _, rfl, rfl, SqT.of h1', at0, rfl, _, rfl, iteB (fun c => absurd (V.str.inj (of_decide_eq_true c)) n2) (fun _ => ?_)⟩
      obtain ⟨tf, htf, hsq⟩ : ∃ tf, (tsF.map fun x => (x.1, V.ref x.2)).lookup h = some (.ref tf) ∧ ∀ H', SqT K H' tf (fs.map V.str) := by
        have hm : h ∈ tsF.map (·.1) := by rw [nF]; exact List.mem_map.mpr ⟨_, hf, rfl⟩
        obtain ⟨⟨h', tf⟩, hin, rfl⟩ := List.mem_map.mp hm
        refine ⟨tf, look_mem ?_ (List.mem_map.mpr ⟨_, hin, rfl⟩), rF _ _ _ hin hf⟩
        rw [List.map_map]
        show (tsF.map (·.1)).Nodup
        rw [nF]; exact forms_nd
      refine ⟨_, rfl, t, _, 0, _, rfl, rfl, SqT.of h1', at0, aF, _, h, _, rfl, rfl, kF, htf, ?_⟩
      refine ⟨_, rfl, _, rfl, t, _, rfl, SqT.of h1', fun p1 H1 e1 k1 => ?_⟩
      have hc : cutV (V.str h :: r'.map V.str) (some 1) none = r'.map V.str := by
        have := cut_row (r := h :: r') (k := 1); simpa using this
      rw [show cutV (V.str h :: r'.map V.str) (some (1 : Int)) none = r'.map V.str from hc] at k1
      refine ⟨tf, p1, _, _, rfl, hsq _, k1, ?_⟩
      refine comp_zipS fs r' notField (hsq _) k1 hl (by omega) (fun a b H2 Q' q' => ⟨_, rfl, rfl, _, rfl, q'⟩) (fun a b H2 Q' q' => ⟨_, rfl, q'⟩) (fun D H' hD e' hD' => ?_)
      refine q D _ H' (e1.trans e') hD' (fun y => ?_) (Nat.le_trans (zipF_len _ _ _) (by omega))
      show _ ↔ y ∈ keepW h r'
      unfold keepW
      rw [look_mem forms_nd hf]
  | cond c i o r a b h hc okr hi ho =>
    refine ⟨_, rfl, t, _, 0, _, rfl, rfl, SqT.of h, rfl, rfl, _, rfl, iteB (fun c => absurd c (by decide +kernel)) (fun _ => ?_)⟩
    refine ⟨_, rfl, t, _, 0, _, rfl, rfl, SqT.of h, rfl, rfl, _, rfl, iteB (fun _ => ?_) (fun c => absurd c (by decide +kernel))⟩
    have hlen : r.length = 3 := ROk.len hok
    refine ⟨_, rfl, t, _, 1, _, rfl, rfl, SqT.of h, rfl, _, rfl, c, _, rfl, SqT.of hc, fun p1 H1 e1 k1 => ?_⟩
    rw [show cutV (r.map V.str) (some (1 : Int)) none = (r.drop 1).map V.str from cut_row (r := r) (k := 1)] at k1
    refine ⟨p1, _, rfl, .inr k1, fun l hl => ?_⟩
    exact q l (r.drop 1) _ (e1.trans (same_new hl _)) upd_same (fun y => Iff.rfl) (by rw [List.length_drop]; omega)
  | loop c td i fa pa r F' P' a h hc okr htd hF hP okF okP lF lP hi =>
    obtain ⟨hr', hT⟩ := hok
    have hlen : r.length = 3 := ROk.len hr'
    refine ⟨_, rfl, t, _, 0, _, rfl, rfl, SqT.of h, rfl, rfl, _, rfl, iteB (fun c => absurd c (by decide +kernel)) (fun _ => ?_)⟩
    refine ⟨_, rfl, t, _, 0, _, rfl, rfl, SqT.of h, rfl, rfl, _, rfl, iteB (fun c => absurd c (by decide +kernel)) (fun _ => ?_)⟩
    refine ⟨_, rfl, t, _, 0, _, rfl, rfl, SqT.of h, rfl, rfl, _, rfl, iteB (fun _ => ?_) (fun c => absurd c (by decide +kernel))⟩
    refine ⟨_, rfl, t, _, 1, _, rfl, rfl, SqT.of h, rfl, _, rfl, c, _, rfl, SqT.of hc, fun p1 H1 e1 k1 => ?_⟩
    rw [show cutV (r.map V.str) (some (1 : Int)) none = (r.drop 1).map V.str from cut_row (r := r) (k := 1)] at k1
    refine ⟨p1, _, rfl, .inr k1, fun l hl => ?_⟩
    have s2 := same_new hl (.lst ((r.drop 1).map V.str))
    have k2 : (upd H1 l (.lst ((r.drop 1).map V.str))) l = some (.lst ((r.drop 1).map V.str)) := upd_same
    generalize upd H1 l (.lst ((r.drop 1).map V.str)) = H2 at s2 k2 ⊢
    have e2 := e1.trans s2
    refine ⟨_, rfl, t, _, 2, _, rfl, rfl, SqT.of (e2 _ _ h), rfl, td, F', P', rfl, ⟨[fa, pa], SqT.of (e2 _ _ htd), .cons (hF.same e2) (.cons (hP.same e2) .nil)⟩, hT.f, hT.p, hT.ne, fun ss hn hs => Nat.lt_of_le_of_lt (hT.few hxs hn hs) (by decide), fun p zs H3 hp e3 k3 hzn hzm hzs => ?_⟩
    have hzl := hT.few hxs hzn fun y hy => (hzm y).mp hy
    refine ⟨l, p, _, _, rfl, rfl, e3 _ _ k2, k3, le_line (by rw [List.length_map, List.length_map, List.length_drop]; omega), fun l4 hl4 => ?_⟩
    have s4 := same_new hl4 (.lst ((r.drop 1).map V.str ++ zs.map V.str))
    refine q l4 (r.drop 1 ++ zs) _ ((e2.trans e3).trans s4) (by rw [upd_same, List.map_append]) (fun y => ?_) (by rw [List.length_append, List.length_drop]; omega)
    show _ ↔ y ∈ r.drop 1 ++ words (F' ++ P')
    rw [List.mem_append, List.mem_append, hzm y]
noncomputable def allW (bs : List Nat) (p : Prc) : List Str := p.ps ++ [p.res] ++ words (p.F1 ++ p.P1) ++ words (p.F2 ++ p.P2) ++ (allL bs p.body).flatMap wrd
structure PrcOk (bs : List Nat) (xs : List Str) (p : Prc) : Prop where
  ps : p.ps.length ≤ 8 ∧ ∀ y ∈ p.ps, Short y
  res : Short p.res
  t1 : TOk xs p.F1 p.P1
  t2 : TOk xs p.F2 p.P2
  ds : ∀ d ∈ allL bs p.body, DOk xs d
  few : (allL bs p.body).length ≤ 30
  len : xs.length ≤ 20
  names : ∀ y ∈ allW bs p, isName y = true → y ∈ xs
theorem mem_keep {h : Str} {r : List Str} {y : Str} (hy : y ∈ keepW h r) : y ∈ r := by
  unfold keepW at hy
  cases e : forms.lookup h with
  | none => rw [e] at hy; cases hy
  | some fs =>
    rw [e] at hy
    obtain ⟨⟨a, b⟩, h1, rfl⟩ := List.mem_map.mp hy
    exact (List.of_mem_zip (List.mem_filter.mp h1).1).2
theorem DOk.short {xs : List Str} {d : Deed} (h : DOk xs d) {y : Str} (hy : y ∈ wrd d) : Short y := by
  cases d with
  | plain p =>
    cases p with
    | row r =>
      cases r with
      | nil => cases hy
      | cons h' r => exact h y (List.mem_cons_of_mem _ (mem_keep hy))
    | call x c vs =>
      obtain ⟨h1, _, h3⟩ := h
      rcases List.mem_cons.mp hy with rfl | z
      · exact h1
      · exact h3 y z
  | cond r a b => exact ROk.sh h y (List.mem_of_mem_drop hy)
  | loop r F P a =>
    obtain ⟨h1, h2⟩ := h
    rcases List.mem_append.mp hy with z | z
    · exact h1.sh y (List.mem_of_mem_drop z)
    · refine short_words (fun r hr => ?_) z
      rcases List.mem_append.mp hr with z | z
      · exact (h2.f.2 r z).2
      · exact (h2.p.2 r z).2
theorem TOk.short {xs : List Str} {F P : List (List Str)} (h2 : TOk xs F P) {y : Str} (hy : y ∈ words (F ++ P)) : Short y := by
  refine short_words (fun r hr => ?_) hy
  rcases List.mem_append.mp hr with z | z
  · exact (h2.f.2 r z).2
  · exact (h2.p.2 r z).2
theorem allW_short {bs : List Nat} {xs : List Str} {p : Prc} (h : PrcOk bs xs p) {y : Str} (hy : y ∈ allW bs p) : Short y := by
  unfold allW at hy
  simp only [List.mem_append, List.mem_singleton] at hy
  rcases hy with (((z | z) | z) | z) | z
  · exact h.ps.2 y z
  · rw [z]; exact h.res
  · exact h.t1.short z
  · exact h.t2.short z
  · obtain ⟨d, hd, hy⟩ := List.mem_flatMap.mp z
    exact (h.ds d hd).short hy
inductive spNamesIn (K : PySem.W.Frag) (bs : List Nat) (vs : List V) (H : Hp) (Q : VK) (E : XK) : Prop
  | mk (G : Hp) (t : Addr) (p : Prc) (xs : List Str) (h0 : vs = [.ref t]) (e : Same G H) (h1 : PrcAt K G bs t p) (h2 : PrcOk bs xs p)
      (q : ∀ (l : Addr) (zs : List Str) (H' : Hp), Same H H' → H l = none → H' l = some (.lst (zs.map V.str)) → zs.Nodup → PyProof.Rows.sortedS zs = true → (∀ y, y ∈ zs ↔ isName y = true ∧ y ∈ allW bs p) → Q (.ref l) H') : spNamesIn K bs vs H Q E
inductive NI (H : Hp) (t lo fo : Addr) (us : List Addr) (ds : List Deed) (pre : List Str) (i : Nat) (σ : St) (H2 : Hp) : Prop
  | mk (ws : List Str) (z2 : Option V) (e : Same H H2) (hl : H2 lo = some (.lst (us.map V.ref))) (hf : H2 fo = some (.lst (ws.map V.str))) (hm : ∀ y, y ∈ ws ↔ y ∈ pre ++ (ds.take i).flatMap wrd) (hw : ws.length ≤ 60 + 30 * i) (hσ : σ = [some (.ref t), some (.ref fo), z2])
theorem scNamesIn : FnScope ["procedure", "words", "deed"] ["procedure"] (defScope sNamesIn) := ⟨rfl, rfl, rfl, by decide +kernel, rfl, by decide +kernel, by decide +kernel⟩
theorem ok_namesIn {n : Nat} {bs : List Nat} (hn1 : 1 ≤ n) (C : Con K mg w) (F : Fun K "names_in" "names_in" sNamesIn f fd) (GN : FnOk P w K mg base CX0 1 gN dN ["telling"] (spNames K)) (cN : Cal K mg "names_of" gN dN ["telling"]) (GA : FnOk P w K mg base CX0 (n + 1) gA dA ["deeds"] (spAll K bs)) (cA : Cal K mg "all_deeds" gA dA ["deeds"]) (GW : FnOk P w K mg base CX0 2 gW dW ["deed"] (spWords K)) (cW : Cal K mg "words_of" gW dW ["deed"]) (GI : FnOk P w K mg base CX0 1 gI dI ["text"] (spB1 isName)) (cI : Cal K mg "is_name" gI dI ["text"]) : FnOk P w K mg base CX0 (n + 1 + 1) f fd ["procedure"] (spNamesIn K bs) := by
  refine F.okQ scNamesIn (fun vs H Q E h => ?_) (fun cdv A outer s0 H vs Q E hr h => ?_)
  · obtain ⟨G, t, p, xs, rfl, _⟩ := h; rfl
  obtain ⟨G, t, p, xs, rfl, eG, ⟨pt, t1, t2, f1, p1, f2, p2, bd, x⟩, ok, q⟩ := h
  have nd := scNamesIn.nd
  have hr1 := hr.mono (j := 1) (by omega)
  have hr2 := hr.mono (j := 2) (by omega)
  refine ⟨_, qb_cons (qs_set (i := 1) nd rfl (Or.inl rfl) (qe_op op_cat (qe_op op_cat (qe_op op_cat (qe_callTy call_list_of rfl C.list PyProof.Rows.boot_list (qa_sub (qe_ix ix_tup (qv 0) qe_int (fun _ _ => rfl)) qa_nil)) (qe_lst (qa_sub (qe_ix ix_tup (qv 0) qe_int (fun _ _ => rfl)) qa_nil))) (qe_call GN hr1 rfl cN.name cN.keep cN.bind .nil pass0 (qa_sub (qe_ix ix_tup (qv 0) qe_int (fun _ _ => rfl)) qa_nil))) (qe_call GN hr1 rfl cN.name cN.keep cN.bind .nil pass0 (qa_sub (qe_ix ix_tup (qv 0) qe_int (fun _ _ => rfl)) qa_nil))))
    (qb_cons (qs_for PassesOwn.never rfl (qi_list (qe_call GA hr rfl cA.name cA.keep cA.bind .nil pass0 (qa_sub (qe_ix ix_tup (qv 0) qe_int (fun _ _ => rfl)) qa_nil))) (qg_name (i := 2) nd rfl (Or.inl rfl)) (qb_one (qs_expr (qe_bmK (K := K) rfl PySem.F.plainAttrs_list PySem.F.slot_list_extend PySem.F.type_list_extend mt_extend (qv 1) (qa_call (qe_call GW hr2 rfl cW.name cW.keep cW.bind .nil pass0 (qa_nm (qv 2) qa_nil)) qa_nil)))))
    (qb_one (qs_ret (qe_callB (call_sorted_set rfl) rfl C.sorted PyProof.Rows.boot_sorted (qa_call (qe_callTy (call_set rfl) rfl C.set PyProof.Rows.boot_set (qa_cons (qe_comp0 (qi_list (qv 1)) (fun _ _ _ _ => (qts_one (qt_val (qe_call GI hr1 rfl cI.name cI.keep cI.bind .nil pass0 (qa_nm (qv 0) qa_nil))))) (fun _ _ _ _ => (qv 0))) qa_nil)) qa_nil))))), ?_⟩
  have tp := eG _ _ x.tup
  refine ⟨_, rfl, t, _, 1, _, rfl, rfl, SqT.of tp, rfl, pt, _, rfl, .inr (SqT.of (eG _ _ x.pt)), fun l1 hl1 => ?_⟩
  have s1 := same_new hl1 (.lst (p.ps.map V.str))
  have k1 : (upd H l1 (.lst (p.ps.map V.str))) l1 = some (.lst (p.ps.map V.str)) := upd_same
  generalize upd H l1 (.lst (p.ps.map V.str)) = H1 at s1 k1 ⊢
  refine ⟨_, rfl, t, _, 2, _, rfl, rfl, SqT.of (s1 _ _ tp), rfl, (show 1 ≤ sizeLine by decide), fun l2 hl2 => ?_⟩
  have s2' := same_new hl2 (.lst [.str p.res])
  have k2 : (upd H1 l2 (.lst [.str p.res])) l2 = some (.lst [.str p.res]) := upd_same
  generalize upd H1 l2 (.lst [.str p.res]) = H2 at s2' k2 ⊢
  have s2 := s1.trans s2'
  have hps := ok.ps.1
  refine ⟨l1, l2, _, _, rfl, rfl, s2' _ _ k1, k2, le_line (by rw [List.length_map]; show _ + 1 ≤ 1000; omega), fun l3 hl3 => ?_⟩
  have s3' := same_new hl3 (.lst (p.ps.map V.str ++ [.str p.res]))
  have k3 : (upd H2 l3 (.lst (p.ps.map V.str ++ [.str p.res]))) l3 = some (.lst ((p.ps ++ [p.res]).map V.str)) := by rw [upd_same, List.map_append]; rfl
  generalize upd H2 l3 (.lst (p.ps.map V.str ++ [.str p.res])) = H3 at s3' k3 ⊢
  have s3 := s2.trans s3'
  have g3 := eG.trans s3
  refine ⟨_, rfl, t, _, 3, _, rfl, rfl, SqT.of (s3 _ _ tp), rfl, t1, p.F1, p.P1, rfl, ⟨[f1, p1], SqT.of (g3 _ _ x.t1), .cons (x.f1.same g3) (.cons (x.p1.same g3) .nil)⟩, ok.t1.f, ok.t1.p, ok.t1.ne, fun ss hn hs => Nat.lt_of_le_of_lt (ok.t1.few ok.len hn hs) (by decide), fun q4 z4 H4 hq4 e4' k4 hzn hzm _ => ?_⟩
  have hz4 := ok.t1.few ok.len hzn fun y hy => (hzm y).mp hy
  have e4 := s3.trans e4'
  refine ⟨l3, q4, _, _, rfl, rfl, e4' _ _ k3, k4, le_line (by rw [List.length_map, List.length_map, List.length_append]; show _ + 1 + _ ≤ 1000; omega), fun l5 hl5 => ?_⟩
  have s5' := same_new hl5 (.lst ((p.ps ++ [p.res]).map V.str ++ z4.map V.str))
  have k5 : (upd H4 l5 (.lst ((p.ps ++ [p.res]).map V.str ++ z4.map V.str))) l5 = some (.lst ((p.ps ++ [p.res] ++ z4).map V.str)) := by rw [upd_same, List.map_append (l₁ := p.ps ++ [p.res])]
  generalize upd H4 l5 (.lst ((p.ps ++ [p.res]).map V.str ++ z4.map V.str)) = H5 at s5' k5 ⊢
  have s5 := e4.trans s5'
  have g5 := eG.trans s5
  refine ⟨_, rfl, t, _, 4, _, rfl, rfl, SqT.of (s5 _ _ tp), rfl, t2, p.F2, p.P2, rfl, ⟨[f2, p2], SqT.of (g5 _ _ x.t2), .cons (x.f2.same g5) (.cons (x.p2.same g5) .nil)⟩, ok.t2.f, ok.t2.p, ok.t2.ne, fun ss hn hs => Nat.lt_of_le_of_lt (ok.t2.few ok.len hn hs) (by decide), fun q6 z6 H6 hq6 e6' k6 hyn hym _ => ?_⟩
  have hz6 := ok.t2.few ok.len hyn fun y hy => (hym y).mp hy
  have e6 := s5.trans e6'
  refine ⟨l5, q6, _, _, rfl, rfl, e6' _ _ k5, k6, le_line (by rw [List.length_map, List.length_map, List.length_append, List.length_append]; show _ + 1 + _ + _ ≤ 1000; omega), fun fo hfo => ?_⟩
  have s7' := same_new hfo (.lst ((p.ps ++ [p.res] ++ z4).map V.str ++ z6.map V.str))
  have k7 : (upd H6 fo (.lst ((p.ps ++ [p.res] ++ z4).map V.str ++ z6.map V.str))) fo = some (.lst ((p.ps ++ [p.res] ++ z4 ++ z6).map V.str)) := by rw [upd_same, List.map_append (l₁ := p.ps ++ [p.res] ++ z4)]
  have fo0 : H fo = none := e6.free hfo
  generalize upd H6 fo (.lst ((p.ps ++ [p.res] ++ z4).map V.str ++ z6.map V.str)) = H7 at s7' k7 ⊢
  have s7 := e6.trans s7'
  have hpre : ∀ y, y ∈ p.ps ++ [p.res] ++ z4 ++ z6 ↔ y ∈ p.ps ++ [p.res] ++ words (p.F1 ++ p.P1) ++ words (p.F2 ++ p.P2) := fun y => by
    simp only [List.mem_append, hzm y, hym y]
  have hprl : (p.ps ++ [p.res] ++ z4 ++ z6).length ≤ 60 := by
    rw [List.length_append, List.length_append, List.length_append]; show _ + 1 + _ + _ ≤ 60; omega
  generalize p.ps ++ [p.res] ++ z4 ++ z6 = w0 at k7 hpre hprl
  clear hzm hym hzn hyn hz4 hz6 k6 k5 k4 k3 k2 k1 s7' s5' s3' s2' s2 s3 s5 e4 e6 g3 g5 e4' e6' hl1 hl2 hl3 hl5 hq4 hq6 s1
  dsimp only [gName]
  refine seq_hide (a := tFor _ _ _) fun D1 hN1 hR1 hC1 => ?_
  refine ⟨_, rfl, t, _, 5, _, rfl, rfl, SqT.of (s7 _ _ tp), rfl, G, bd, p.body, rfl, eG.trans s7, x.body, Nat.le_trans ok.few (by decide), fun lo us H8 e8 hlo k8 hus => ?_⟩
  have hlf : lo ≠ fo := (ne_of_none k7 hlo).symm
  have hul := Paired.length hus
  have hfew := ok.few
  refine ⟨lo, rfl, ⟨_, SqL.of k8⟩, ?_⟩
  refine for_list (xs := us.map V.ref) (NI H t lo fo us (allL bs p.body) (p.ps ++ [p.res] ++ words (p.F1 ++ p.P1) ++ words (p.F2 ++ p.P2))) ⟨w0, none, s7.trans e8, k8, e8 _ _ k7, fun y => by rw [hpre y]; simp, by omega, rfl⟩ (fun i σ H' _ z => by obtain ⟨_, _, _, h, _⟩ := z; exact SqL.of h) ?_ ?_
  · rintro i y σ H9 hy ⟨ws, z2, e9, hl9, hf9, hm9, hw9, rfl⟩
    rw [List.getElem?_map] at hy
    obtain ⟨u, hu, rfl⟩ := Option.map_eq_some_iff.mp hy
    obtain ⟨d, hd, hX⟩ := Paired.nth hus hu
    have hi30 : i < 30 := by have := (List.getElem?_eq_some_iff.mp hd).1; omega
    refine ⟨_, rfl, (.inl ⟨rfl, _, SqL.of hf9⟩), _, rfl, u, d, xs, rfl, DeedS.same hX (eG.trans e9), ok.ds d (List.mem_of_getElem? hd), ok.len, fun lw vs Ha ea ka hva hla => ?_⟩
    have hfa := ea _ _ hf9
    refine ⟨fo, lw, _, _, rfl, rfl, hfa, ka, le_line (by rw [List.length_map, List.length_map]; omega), ?_⟩
    refine ⟨ws ++ vs, _, fun b o z => by rw [upd_ne (ne_of_none z fo0)]; exact ea _ _ (e9 _ _ z), by rw [upd_ne hlf]; exact ea _ _ hl9, by rw [upd_same, List.map_append], fun y => ?_, by rw [List.length_append]; omega, rfl⟩
    rw [fl_take (g := wrd) hd, List.mem_append, ← List.append_assoc, List.mem_append, hm9 y, hva y]
  rintro σ H9 ⟨ws, z2, e9, hl9, hf9, hm9, hw9, rfl⟩
  rw [List.length_map, hul, List.take_length] at hm9
  rw [List.length_map, hul] at hw9
  have hall : ∀ y, y ∈ ws ↔ y ∈ allW bs p := hm9
  refine hN1 _ _ ?_
  clear hN1 hR1 hC1
  refine ⟨_, rfl, fo, rfl, ⟨_, SqL.of hf9⟩, ?_⟩
  refine comp_words ws isName jseq_list (SqL.of hf9) (by omega) (fun y hy H2 e2 Q' q' => ⟨_, rfl, y, rfl, allW_short ok ((hall y).mp hy), fun H3 e3 => ⟨_, rfl, q' H3 e3⟩⟩) (fun y H2 Q' q' => ⟨_, rfl, q'⟩) (fun D Ha hD ea kD => ?_)
  have hfl := List.length_filter_le isName ws
  have hwl : ws.length ≤ 1000 := by omega
  refine ⟨D, _, rfl, SqL.of kD, ?_, fun ps ss hps' hdd => ?_⟩
  · exact Nat.lt_of_le_of_lt (Nat.succ_le_succ (Nat.le_trans hfl hwl)) (by decide)
  have ssub : ∀ y ∈ ss, y ∈ xs := fun y hy => by
    obtain ⟨h1, h2⟩ := List.mem_filter.mp ((hdd.mem y).mp hy)
    exact ok.names y ((hall y).mp h1) h2
  have hsl : ss.length ≤ 20 := Nat.le_trans (List.Nodup.length_le_of_subset hdd.nodup ssub) ok.len
  refine ⟨ps, ss, rfl, upd_same, (by omega), fun l zs hl hperm hs => ?_⟩
  have hl0 := (same_new hps' _).free hl
  refine q l zs _ (((e9.trans ea).trans (same_new hps' _)).trans (same_new hl _)) ((e9.trans ea).free hl0) upd_same (hperm.nodup_iff.mpr hdd.nodup) hs fun y => ?_
  rw [hperm.mem_iff, hdd.mem y, List.mem_filter, hall y]
  exact And.comm
end
end K60
namespace L2
open PySem PySem.Spec
theorem cut_neg (ys zs : List V) {m : Nat} (hz : zs.length = m) (hm : 0 < m) : cutV (ys ++ zs) none (some (-(m : Int))) = ys := by
  unfold cutV
  rw [HT.sIx_none, List.drop_zero, Nat.sub_zero]
  have : HT.sIx (ys ++ zs).length (ys ++ zs).length (some (-(m : Int))) = ys.length := by
    show (if -(m : Int) < 0 then (-(m : Int) + ((ys ++ zs).length : Int)).toNat else _) = _
    rw [if_pos (by omega), List.length_append]
    omega
  rw [this, List.take_left]
end L2
namespace K60
open PySem PySem.Spec L2 Mir
noncomputable abbrev sListOf : Stmt := top 15
noncomputable abbrev sFound : Stmt := top 16
noncomputable abbrev sWith : Stmt := top 19
noncomputable abbrev sToldIn : Stmt := top 20
noncomputable abbrev sToldAt : Stmt := top 21
theorem pick {l : List Addr} {k : Nat} (h : k < l.length) : ∃ b, l[k]? = some b ∧ atI (l.map V.ref) (k : Int) = some (.ref b) ∧ b ∈ l :=
  ⟨l[k], List.getElem?_eq_getElem h, atI_nat (by rw [List.getElem?_map, List.getElem?_eq_getElem h]; rfl), List.getElem_mem _⟩
abbrev Pre := List (Nat × Nat)
noncomputable def flat : Pre → List Int
  | [] => []
  | (a, b) :: p => (a : Int) :: (b : Int) :: flat p
theorem flat_len : ∀ p : Pre, (flat p).length = 2 * p.length
  | [] => rfl
  | (a, b) :: p => by show (flat p).length + 1 + 1 = _; rw [flat_len p, List.length_cons]; omega
theorem flat_app : ∀ p q : Pre, flat (p ++ q) = flat p ++ flat q
  | [], _ => rfl
  | (a, b) :: p, q => by show _ :: _ :: flat (p ++ q) = _; rw [flat_app p q]; rfl
theorem flat_at : ∀ {p : Pre} {z : List Int} {i a b : Nat}, p[i]? = some (a, b) → (flat p ++ z)[2 * i]? = some (a : Int) ∧ (flat p ++ z)[2 * i + 1]? = some (b : Int)
  | [], _, _, _, _, h => by cases h
  | (x, y) :: p, z, 0, a, b, h => by cases h; exact ⟨rfl, rfl⟩
  | (x, y) :: p, z, i + 1, a, b, h => flat_at (p := p) (i := i) h
inductive Side (H : Hp) (t : Addr) (s : Nat) (m : Addr) : Prop
  | cond (i o : Addr) (c : V) (h : H t = some (.tup [.str "if", c, .ref i, .ref o])) (hs : (s = 0 ∧ m = i) ∨ (s = 1 ∧ m = o))
  | loop (c d : V) (h : H t = some (.tup [.str "while", c, d, .ref m])) (hs : s = 0)
noncomputable def LFrom (H : Hp) : Addr → Pre → Addr → Prop
  | l, [], l' => l = l'
  | l, (k, s) :: p, l' => ∃ (ts : List Addr) (t m : Addr), H l = some (.lst (ts.map V.ref)) ∧ ts[k]? = some t ∧ Side H t s m ∧ LFrom H m p l'
theorem Side.same {H H' : Hp} {t m : Addr} {s : Nat} (h : Side H t s m) (e : Same H H') : Side H' t s m := by
  rcases h with ⟨i, o, c, h, hs⟩ | ⟨c, d, h, hs⟩
  · exact .cond i o c (e _ _ h) hs
  · exact .loop c d (e _ _ h) hs
theorem LFrom.same {H H' : Hp} (e : Same H H') : ∀ {p : Pre} {l l' : Addr}, LFrom H l p l' → LFrom H' l p l'
  | [], _, _, h => h
  | (k, s) :: p, l, l', h => by
    obtain ⟨ts, t, m, h1, h2, h3, h4⟩ := h
    exact ⟨ts, t, m, e _ _ h1, h2, h3.same e, LFrom.same e h4⟩
theorem LFrom.app {H : Hp} : ∀ {p q : Pre} {l m l' : Addr}, LFrom H l p m → LFrom H m q l' → LFrom H l (p ++ q) l'
  | [], _, _, _, _, h, g => by cases h; exact g
  | (k, s) :: p, q, l, m, l', h, g => by
    obtain ⟨ts, t, x, h1, h2, h3, h4⟩ := h
    exact ⟨ts, t, x, h1, h2, h3, LFrom.app h4 g⟩
inductive spListOf (K : PySem.W.Frag) (vs : List V) (H : Hp) (Q : VK) (E : XK) : Prop
  | mk (bd pt l : Addr) (p : Pre) (k : Int) (h0 : vs = [.ref bd, .ref pt]) (h1 : SqT K H pt ((flat p ++ [k]).map V.int)) (h2 : LFrom H bd p l) (h3 : p.length ≤ 100) (q : ∀ H', Same H H' → Q (.ref l) H') : spListOf K vs H Q E
inductive spFound (K : PySem.W.Frag) (vs : List V) (H : Hp) (Q : VK) (E : XK) : Prop
  | mk (bd pt l : Addr) (p : Pre) (k : Nat) (ts : List Addr) (h0 : vs = [.ref bd, .ref pt]) (h1 : SqT K H pt ((flat p ++ [(k : Int)]).map V.int)) (h2 : LFrom H bd p l) (h3 : p.length ≤ 100) (h4 : H l = some (.lst (ts.map V.ref))) (q1 : ∀ t H', ts[k]? = some t → Same H H' → Q (.ref t) H') (q2 : ∀ H', ts[k]? = none → Same H H' → Q .non H') : spFound K vs H Q E
section
variable {P : Program} {w : World} {K : PySem.W.Frag} {mg : Str → Option Value} {base : Heap} {f gI gL gF gO gW gT gB : Addr} {fd dI dL dF dO dW dT dB : FuncData}
theorem scListOf : FnScope ["body", "path", "deeds", "place"] ["body", "path"] (defScope sListOf) := ⟨rfl, rfl, rfl, by decide +kernel, rfl, by decide +kernel, by decide +kernel⟩
theorem ok_listOf (C : Con K mg w) (F : Fun K "list_of" "list_of" sListOf f fd) (GI : FnOk P w K mg base CX0 1 gI dI ["deed"] spLists) (cI : Cal K mg "lists_in" gI dI ["deed"]) : FnOk P w K mg base CX0 2 f fd ["body", "path"] (spListOf K) := by
  refine F.okQ scListOf (fun vs H Q E h => ?_) (fun cdv A outer s0 H vs Q E hr h => ?_)
  · obtain ⟨bd, pt, l, p, k, rfl, _⟩ := h; rfl
  obtain ⟨bd, pt, l, p, k, rfl, hpt, hl, hp, q⟩ := h
  have nd := scListOf.nd
  refine ⟨_, qb_cons (qs_set (i := 2) nd rfl (Or.inl rfl) (qv 0))
    (qb_cons (qs_for PassesOwn.never rfl (qi_range3 rfl C.range (qa_int (qa_bop (qe_op op_sub (qe_callB call_len_seq rfl C.len PySem.boot_len (qa_nm (qv 1) qa_nil)) qe_int) (qa_int qa_nil)))) (qg_name (i := 3) nd rfl (Or.inl rfl)) (qb_one (qs_set (i := 2) nd rfl (Or.inl rfl) (qe_ix ix_list (qe_call GI hr rfl cI.name cI.keep cI.bind .nil pass0 (qa_sub (qe_ix ix_list (qv 2) (qe_ix ix_tup (qv 1) (qv 3) (fun _ _ => rfl)) (fun _ _ => rfl)) qa_nil)) (qe_ix ix_tup (qv 1) (qe_op op_add (qv 3) qe_int) (fun _ _ => rfl)) (fun _ _ => rfl)))))
    (qb_one (qs_ret (qv 2)))), ?_⟩
  have hlen : (((flat p ++ [k]).map V.int).length : Int) = 2 * (p.length : Int) + 1 := by rw [List.length_map, List.length_append, flat_len]; simp
  refine ⟨_, rfl, ?_⟩
  dsimp only [gName]
  refine seq_hide (a := tFor _ _ _) fun D1 hN1 hR1 hC1 => ?_
  refine ⟨_, rfl, pt, _, rfl, .inr hpt, _, _, rfl, rfl, 0, _, rfl, ⟨by decide, by decide, by omega, by omega⟩, ?_⟩
  rw [show (((((flat p ++ [k]).map V.int).length : Int) - 1 - 0 + 1) / 2).toNat = p.length by omega]
  refine for_range2 (fun i σ H1 => Same H H1 ∧ ∃ (m : Addr) (z3 : Option V), LFrom H1 m (p.drop i) l ∧ σ = [some (.ref bd), some (.ref pt), some (.ref m), z3]) ⟨Same.refl _, bd, none, hl, rfl⟩ ?_ ?_
  · rintro i σ H1 hi ⟨e1, m, z3, hm, rfl⟩
    obtain ⟨⟨a, b⟩, hab⟩ : ∃ x, p[i]? = some x := ⟨_, List.getElem?_eq_getElem hi⟩
    rw [List.drop_eq_getElem_cons hi, (List.getElem?_eq_some_iff.mp hab).2] at hm
    obtain ⟨ts, t, x, hm1, hm2, hm3, hm4⟩ := hm
    obtain ⟨ha, hb⟩ := flat_at (z := [k]) hab
    have i1 : (0 : Int) + (i : Int) * 2 = ((2 * i : Nat) : Int) := by omega
    have i2 : ((2 * i : Nat) : Int) + 1 = ((2 * i + 1 : Nat) : Int) := by omega
    rw [i1]
    have at1 : atI ((flat p ++ [k]).map V.int) ((2 * i : Nat) : Int) = some (.int (a : Int)) := atI_nat (by rw [List.getElem?_map, ha]; rfl)
    have at2 : atI (ts.map V.ref) (a : Int) = some (.ref t) := atI_nat (by rw [List.getElem?_map, hm2]; rfl)
    have at3 : atI ((flat p ++ [k]).map V.int) (((2 * i : Nat) : Int) + 1) = some (.int (b : Int)) := by rw [i2]; exact atI_nat (by rw [List.getElem?_map, hb]; rfl)
    have hpt1 := e1.seqT hpt
    have fin : ∀ {nl : Addr} {us : List V}, H1 nl = none → atI us (b : Int) = some (.ref x) → Same H1 (upd H1 nl (.lst us)) ∧ LFrom (upd H1 nl (.lst us)) x (p.drop (i + 1)) l := fun hnl _ => ⟨same_new hnl _, hm4.same (same_new hnl _)⟩
    rcases hm3 with ⟨i', o, c, h, hs⟩ | ⟨c, d, h, hs⟩
    · have at4 : atI [V.ref i', V.ref o] (b : Int) = some (.ref x) := by rcases hs with ⟨rfl, rfl⟩ | ⟨rfl, rfl⟩ <;> rfl
      refine ⟨_, rfl, _, rfl, _, rfl, pt, _, _, _, rfl, rfl, hpt1, at1, m, _, _, _, rfl, rfl, SqL.of hm1, at2, .cond t i' o c rfl h fun nl hnl => ?_⟩
      obtain ⟨s, g⟩ := fin hnl at4
      exact ⟨_, rfl, _, rfl, _, _, rfl, rfl, pt, _, _, _, rfl, rfl, s.seqT hpt1, at3, nl, _, _, _, rfl, rfl, SqL.of upd_same, at4, e1.trans s, x, _, g, rfl⟩
    · have at4 : atI [V.ref x] (b : Int) = some (.ref x) := by subst hs; rfl
      refine ⟨_, rfl, _, rfl, _, rfl, pt, _, _, _, rfl, rfl, hpt1, at1, m, _, _, _, rfl, rfl, SqL.of hm1, at2, .loop t x c d rfl h fun nl hnl => ?_⟩
      obtain ⟨s, g⟩ := fin hnl at4
      exact ⟨_, rfl, _, rfl, _, _, rfl, rfl, pt, _, _, _, rfl, rfl, s.seqT hpt1, at3, nl, _, _, _, rfl, rfl, SqL.of upd_same, at4, e1.trans s, x, _, g, rfl⟩
  rintro σ H1 ⟨e1, m, z3, hm, rfl⟩
  rw [List.drop_length] at hm
  cases hm
  exact hN1 _ _ ⟨_, rfl, q H1 e1⟩
theorem scFound : FnScope ["body", "path", "deeds"] ["body", "path"] (defScope sFound) := ⟨rfl, rfl, rfl, by decide +kernel, rfl, by decide +kernel, by decide +kernel⟩
theorem ok_found (C : Con K mg w) (F : Fun K "found_at" "found_at" sFound f fd) (GL : FnOk P w K mg base CX0 2 gL dL ["body", "path"] (spListOf K)) (cL : Cal K mg "list_of" gL dL ["body", "path"]) : FnOk P w K mg base CX0 3 f fd ["body", "path"] (spFound K) := by
  refine F.okQ scFound (fun vs H Q E h => ?_) (fun cdv A outer s0 H vs Q E hr h => ?_)
  · obtain ⟨bd, pt, l, p, k, ts, rfl, _⟩ := h; rfl
  obtain ⟨bd, pt, l, p, k, ts, rfl, hpt, hl, hp, hts, q1, q2⟩ := h
  have nd := scFound.nd
  refine ⟨_, qb_cons (qs_set (i := 2) nd rfl (Or.inl rfl) (qe_call GL hr rfl cL.name cL.keep cL.bind .nil pass0 (qa_nm (qv 0) (qa_nm (qv 1) qa_nil))))
    (qb_one (qs_ret (qe_ifExp (qt_cmpR op_lt (qe_ix ix_tup (qv 1) (qe_un un_neg qe_int) (fun _ _ => rfl)) (qe_callB call_len_seq rfl C.len PySem.boot_len (qa_nm (qv 2) qa_nil)) (nomark _)) (qe_ix ix_list (qv 2) (qe_ix ix_tup (qv 1) (qe_un un_neg qe_int) (fun _ _ => rfl)) (fun _ _ => rfl)) qe_non))), ?_⟩
  refine ⟨_, rfl, _, rfl, bd, pt, l, p, k, rfl, hpt, hl, hp, fun H1 e1 => ?_⟩
  have hpt1 := e1.seqT hpt
  rw [List.map_append] at hpt1
  have hts1 := e1 _ _ hts
  refine ⟨_, rfl, _, rfl, pt, _, _, _, rfl, rfl, hpt1, atI_last, _, rfl, l, _, rfl, .inl (SqL.of hts1), _, _, rfl, rfl, _, rfl, iteB (fun c => ?_) (fun c => ?_)⟩
  · have c' : (k : Int) < ((ts.map V.ref).length : Int) := of_decide_eq_true c
    have hk : k < ts.length := by rw [List.length_map] at c'; omega
    obtain ⟨t, ht1, ht2, _⟩ := pick hk
    exact ⟨_, rfl, _, rfl, _, rfl, pt, _, _, _, rfl, rfl, hpt1, atI_last, l, _, _, _, rfl, rfl, SqL.of hts1, ht2, q1 t H1 ht1 e1⟩
  · have c' : ¬ (k : Int) < ((ts.map V.ref).length : Int) := of_decide_eq_false c
    have hk : ts.length ≤ k := by rw [List.length_map] at c'; omega
    exact q2 H1 (List.getElem?_eq_none hk) e1
noncomputable def contr (w : Str) : Str := if w = "is" then "not" else "is"
inductive spWith (K : PySem.W.Frag) (vs : List V) (H : Hp) (Q : VK) (E : XK) : Prop
  | mk (t : Addr) (b : Bool) (w u v : Str) (F P : List (List Str)) (a : List Deed) (h0 : vs = [.ref t, .bl b]) (h1 : DeedS K H t (.loop [w, u, v] F P a)) (hw : w = "is" ∨ w = "not")
      (q : ∀ tt fa pa H', Same H H' → H fa = none → H pa = none → fa ≠ pa → H' tt = some (.tup [.ref fa, .ref pa]) → RowsAt K H' fa (F ++ [[if b = true then w else contr w, u, v]]) → RowsAt K H' pa P → Q (.ref tt) H') : spWith K vs H Q E
theorem scWith : FnScope ["loop", "holding", "condition", "word"] ["loop", "holding"] (defScope sWith) := ⟨rfl, rfl, rfl, by decide +kernel, rfl, by decide +kernel, by decide +kernel⟩
theorem ok_with (C : Con K mg w) (F : Fun K "with_condition" "with_condition" sWith f fd) : FnOk P w K mg base CX0 1 f fd ["loop", "holding"] (spWith K) := by
  refine F.okQ scWith (fun vs H Q E h => ?_) (fun cdv A outer s0 H vs Q E hr h => ?_)
  · obtain ⟨t, b, w, u, v, F', P', a, rfl, _⟩ := h; rfl
  obtain ⟨t, b, wd, u, v, F', P', a, rfl, hX, hw, q⟩ := h
  have nd := scWith.nd
  obtain ⟨aC, gC, kC⟩ := C.contr
  refine ⟨_, qb_cons (qs_set (i := 2) nd rfl (Or.inl rfl) (qe_ix ix_tup (qv 0) qe_int (fun _ _ => rfl)))
    (qb_cons (qs_set (i := 3) nd rfl (Or.inl rfl) (qe_ifExp (qt_val (qv 1)) (qe_ix ix_tup (qv 2) qe_int (fun _ _ => rfl)) (qe_ksub (K := K) (w := w) rfl rfl (qe_g gC) (qe_ix ix_tup (qv 2) qe_int (fun _ _ => rfl)) (fun _ _ => rfl))))
    (qb_one (qs_ret (qe_tup (qa_bop (qe_op op_cat (qe_ix ix_tup (qe_ix ix_tup (qv 0) qe_int (fun _ _ => rfl)) qe_int (fun _ _ => rfl)) (qe_lst (qa_tp (qa_nm (qv 3) (qa_sub (qe_ix ix_tup (qv 2) qe_int (fun _ _ => rfl)) (qa_sub (qe_ix ix_tup (qv 2) qe_int (fun _ _ => rfl)) qa_nil))) qa_nil))) (qa_call (qe_callTy call_list_of rfl C.list PyProof.Rows.boot_list (qa_sub (qe_ix ix_tup (qe_ix ix_tup (qv 0) qe_int (fun _ _ => rfl)) qe_int (fun _ _ => rfl)) qa_nil)) qa_nil)))))), ?_⟩
  cases hX with
  | loop c td i fa pa r F P a h hc okr htd hF hP okF okP lF lP hi =>
  have hc' : H c = some (.tup [.str wd, .str u, .str v]) := hc
  refine ⟨_, rfl, t, _, 1, _, rfl, rfl, SqT.of h, rfl, ?_⟩
  dsimp only [gName]
  refine seq_hide (a := tAsg _ _) fun D1 hN1 hR1 hC1 => ?_
  have rest : D1.nx [some (.ref t), some (.bl b), some (.ref c), some (.str (if b = true then wd else contr wd))] H := by
    refine hN1 _ _ ?_
    refine ⟨_, rfl, t, _, 2, _, rfl, rfl, SqT.of h, rfl, td, _, 0, _, rfl, rfl, SqT.of htd, rfl, _, rfl, _, rfl, c, _, 1, _, rfl, rfl, SqT.of hc', rfl, _, rfl, c, _, 2, _, rfl, rfl, SqT.of hc', rfl, (show 3 ≤ sizeLine by decide), fun p1 hp1 => ?_⟩
    have s1 := same_new hp1 (.tup [.str (if b = true then wd else contr wd), .str u, .str v])
    have k1 : (upd H p1 (.tup [.str (if b = true then wd else contr wd), .str u, .str v])) p1 = some (.tup ([if b = true then wd else contr wd, u, v].map V.str)) := upd_same
    generalize upd H p1 (.tup [.str (if b = true then wd else contr wd), .str u, .str v]) = H1 at s1 k1 ⊢
    refine ⟨(show 1 ≤ sizeLine by decide), fun p2 hp2 => ?_⟩
    have s2' := same_new hp2 (.lst [.ref p1])
    have k2 : (upd H1 p2 (.lst [.ref p1])) p2 = some (.lst [.ref p1]) := upd_same
    generalize upd H1 p2 (.lst [.ref p1]) = H2 at s2' k2 ⊢
    have s2 := s1.trans s2'
    obtain ⟨as1, hF1, hF2⟩ := hF
    obtain ⟨as2, hP1, hP2⟩ := hP
    have la := Paired.length hF2
    refine ⟨fa, p2, _, _, rfl, rfl, s2 _ _ hF1, k2, le_line (by rw [List.length_map]; show _ + 1 ≤ 1000; omega), fun na hna => ?_⟩
    have s3' := same_new hna (.lst (as1.map V.ref ++ [.ref p1]))
    have k3 : (upd H2 na (.lst (as1.map V.ref ++ [.ref p1]))) na = some (.lst ((as1 ++ [p1]).map V.ref)) := by rw [upd_same, List.map_append]; rfl
    have hna0 : H na = none := s2.free hna
    generalize upd H2 na (.lst (as1.map V.ref ++ [.ref p1])) = H3 at s3' k3 ⊢
    have s3 := s2.trans s3'
    refine ⟨_, rfl, t, _, 2, _, rfl, rfl, SqT.of (s3 _ _ h), rfl, td, _, 1, _, rfl, rfl, SqT.of (s3 _ _ htd), rfl, pa, _, rfl, .inl (SqL.of (s3 _ _ hP1)), fun nb hnb => ?_⟩
    have s4' := same_new hnb (.lst (as2.map V.ref))
    have k4 : (upd H3 nb (.lst (as2.map V.ref))) nb = some (.lst (as2.map V.ref)) := upd_same
    have hnb0 : H nb = none := s3.free hnb
    have nab : na ≠ nb := ne_of_none k3 hnb
    generalize upd H3 nb (.lst (as2.map V.ref)) = H4 at s4' k4 ⊢
    have s4 := s3.trans s4'
    refine ⟨(show 2 ≤ sizeLine by decide), fun tt htt => ?_⟩
    have s5 := same_new htt (.tup [.ref na, .ref nb])
    have e5 := s4.trans s5
    refine q tt na nb _ e5 hna0 hnb0 nab upd_same ⟨as1 ++ [p1], s5 _ _ (s4' _ _ k3), Paired.snocP (Paired.mapP hF2 fun _ _ z => RowAt.same z e5) (SqT.of (s5 _ _ (s4' _ _ (s3' _ _ (s2' _ _ k1)))))⟩ ⟨as2, s5 _ _ k4, Paired.mapP hP2 fun _ _ z => RowAt.same z e5⟩
  cases b with
  | true => exact ⟨_, rfl, _, rfl, (if_pos rfl).mpr ⟨_, rfl, c, _, 0, _, rfl, rfl, SqT.of hc', rfl, rest⟩⟩
  | false =>
    refine ⟨_, rfl, _, rfl, (if_neg Bool.false_ne_true).mpr ⟨_, rfl, c, _, 0, _, rfl, rfl, SqT.of hc', rfl, aC, _, wd, _, rfl, rfl, kC, ?_, rest⟩⟩
    rcases hw with rfl | rfl
    · decide +kernel
    · decide +kernel
end
end K60
namespace L2
open PySem PySem.Spec
theorem comp_posN {α β : Type} {J : It} {H1 : Hp} {σ : St} {ix : List Nat} {te : TE} {Q : VK} {I0 : Hp → Prop} (xs : List V) (rs : List α) (R : Addr → Hp → V → β → Prop) (f : α → β) (hJ : JSeq J I0 xs) (h0 : I0 H1) (hz : xs.length ≤ 1000) (hl : rs.length = xs.length)
    (hR : ∀ D H H' y r, R D H y r → SameX D H H' → R D H' y r)
    (he : ∀ (D : Addr), H1 D = none → ∀ (i : Nat) (x : V) (r : α), xs[i]? = some x → rs[i]? = some r → ∀ H2, Same H1 H2 → H2 D ≠ none → ∀ Q' : VK, (∀ y H3, Same H2 H3 → R D H3 y (f r) → Q' y H3) → te (some x :: frees σ ix) H2 Q')
    (hQ : ∀ D H' ys, H1 D = none → Same H1 H' → H' D = some (.lst ys) → Paired (fun y r => R D H' y r) ys (rs.map f) → Q (.ref D) H') : CompGo J H1 σ ix tYes te Q := by
  intro D hD
  have put : ∀ H ys, Same H1 H → Same H1 (upd H D (.lst ys)) := fun H ys e b u q => by rw [upd_ne (ne_of_none q hD)]; exact e b u q
  refine ⟨fun i m H => i ≤ xs.length ∧ m = xs.length - i ∧ Same H1 H ∧ ∃ ys : List V, H D = some (.lst ys) ∧ Paired (fun y r => R D H y r) ys ((rs.take i).map f), ⟨xs.length, Nat.zero_le _, rfl, put _ _ (Same.refl _), [], upd_same, by simpa using Paired.nil⟩, ?_⟩
  rintro i m H ⟨hi, rfl, e, ys, hy, hp⟩
  have hI := hJ.stay _ _ h0 e
  by_cases hlt : i < xs.length
  · refine .inr ⟨hJ.go i H hI hlt, fun x H' hy' => ?_⟩
    obtain ⟨rfl, hx⟩ := hJ.yld i H x H' hlt hI hy'
    have hri : i < rs.length := by omega
    have hr : rs[i]? = some rs[i] := List.getElem?_eq_getElem hri
    have ht : rs.take (i + 1) = rs.take i ++ [rs[i]] := by rw [List.take_add_one, hr]; rfl
    have hlen : ys.length = i := by
      have h1 := Paired.length hp
      rw [List.length_map, List.length_take] at h1
      omega
    dsimp only [tYes]
    rw [if_pos rfl]
    refine he D hD i x rs[i] hx hr _ e (by rw [hy]; simp) _ fun y H4 e4 hR4 => ?_
    have hput : SameX D H4 (upd H4 D (.lst (ys ++ [y]))) := fun b u q hn => by rw [upd_ne hn]; exact q
    refine ⟨ys, e4 _ _ hy, by rw [hlen]; exact Nat.lt_of_lt_of_le hlt (Nat.le_trans hz (by decide)), xs.length - (i + 1), by omega, hlt, rfl, put _ _ (e.trans e4), ys ++ [y], upd_same, ?_⟩
    rw [ht, List.map_append]
    exact Paired.snocP (Paired.mapP hp fun a r z => hR _ _ _ _ _ (hR _ _ _ _ _ z (e4.x D)) hput) (hR _ _ _ _ _ hR4 hput)
  · have hi' : i = xs.length := by omega
    subst hi'
    refine .inl ⟨hJ.stop _ H hI (Nat.le_refl _), ?_⟩
    rw [← hl, List.take_length] at hp
    exact hQ D H ys hD e hy hp
end L2
namespace K60
open PySem PySem.Spec L2 Mir
theorem Dn.int {n : Nat} {i : Int} : Dn n (.int i) := ⟨by simp only [PyData.canLay0], by simp only [PyData.depth]; exact Nat.zero_le _⟩
noncomputable def dInts (ns : List Int) : PyData := .tuple (ns.map PyData.int)
theorem dp_intsX {K : PySem.W.Frag} {H : Hp} : ∀ ns : List Int, DpAll K H (ns.map V.int) (ns.map PyData.int)
  | [] => .nil
  | n :: ns => .cons (.int n) (dp_intsX ns)
theorem ints_dp {K : PySem.W.Frag} {H : Hp} {t : Addr} {ns : List Int} (h : SqT K H t (ns.map V.int)) : Dp K H (.ref t) (dInts ns) := .tup h (dp_intsX ns)
theorem ints_dn {ns : List Int} : Dn 1 (dInts ns) := Dn.tup fun d hd => by
  obtain ⟨i, _, rfl⟩ := List.mem_map.mp hd; exact Dn.int
theorem paired_refs {α : Type} {R : Addr → α → Prop} : ∀ {ys : List V} {rs : List α}, Paired (fun y r => ∃ b, y = V.ref b ∧ R b r) ys rs → ∃ bs : List Addr, ys = bs.map V.ref ∧ Paired R bs rs
  | _, _, .nil => ⟨[], rfl, .nil⟩
  | _, _, .cons h t => by
    obtain ⟨b, rfl, hb⟩ := h
    obtain ⟨bs, rfl, hp⟩ := paired_refs t
    exact ⟨b :: bs, rfl, .cons hb hp⟩
theorem eqv_dInts (a b : List Int) : PyData.eqv (dInts a) (dInts b) = decide (a = b) := by
  unfold dInts
  simp only [PyData.eqv]
  exact PySem.W.ked_eqvAll a b
noncomputable def byK (ns : List Str) (ts : List Addr) : List (Str × V) := (ns.zip ts).map fun x => (x.1, V.ref x.2)
inductive spBy (K : PySem.W.Frag) (vs : List V) (H : Hp) (Q : VK) (E : XK) : Prop
  | mk (l : Addr) (ts : List Addr) (ns : List Str) (h0 : vs = [.ref l]) (h1 : H l = some (.lst (ts.map V.ref))) (h2 : Paired (fun t n => ∃ us, H t = some (.tup (.str n :: us))) ts ns) (h3 : ns.Nodup) (h4 : ts.length ≤ 10)
      (q : ∀ d H', Same H H' → H' d = some (.dK ((byK ns ts).map kk)) → Q (.ref d) H') : spBy K vs H Q E
theorem by_pairs {K : PySem.W.Frag} {D : Addr} {H : Hp} : ∀ {us : List Addr} {zs : List (Str × Addr)}, Paired (fun b (x : Str × Addr) => b ≠ D ∧ H b = some (.tup [.str x.1, .ref x.2])) us zs → Paired (fun t (kv : Str × V) => SqT K H t [.str kv.1, kv.2]) us (zs.map fun x => (x.1, V.ref x.2))
  | _, _, .nil => .nil
  | _, _, .cons h r => .cons (SqT.of h.2) (by_pairs r)
structure TRes (K : PySem.W.Frag) (H H' : Hp) (r tt fa pa zl : Addr) (F P : List (List Str)) (zs : List Str) : Prop where
  e : Same H H'
  at_ : H' r = some (.tup [.ref tt, .ref zl])
  tt : H' tt = some (.tup [.ref fa, .ref pa])
  f : RowsAt K H' fa F
  p : RowsAt K H' pa P
  z : H' zl = some (.lst (zs.map V.str))
  nf : H fa = none
  np : H pa = none
  nz : H zl = none
  fp : fa ≠ pa
  fz : fa ≠ zl
  pz : pa ≠ zl
inductive spToldIn (K : PySem.W.Frag) (bs : List Nat) (vs : List V) (H : Hp) (Q : VK) (E : XK) : Prop
  | start (G : Hp) (t pt : Addr) (p : Prc) (xs : List Str) (h0 : vs = [.ref t, .ref pt]) (e : Same G H) (h1 : PrcAt K G bs t p) (h2 : PrcOk bs xs p) (hp : SqT K H pt [.int 0])
      (q : ∀ r tt fa pa zl zs H', TRes K H H' r tt fa pa zl p.F1 p.P1 (zs.filter fun y => !decide (y ∈ p.ps)) → zs.Nodup → PyProof.Rows.sortedS zs = true → (∀ y, y ∈ zs ↔ isName y = true ∧ y ∈ allW bs p) → Q (.ref r) H') : spToldIn K bs vs H Q E
  | inner (G : Hp) (t pt : Addr) (v0 v1 v2 v3 v4 : V) (bd l : Addr) (pr : Pre) (k : Nat) (ts : List Addr) (u : Addr) (w x y : Str) (F P : List (List Str)) (a : List Deed) (h0 : vs = [.ref t, .ref pt]) (e : Same G H) (h1 : G t = some (.tup [v0, v1, v2, v3, v4, .ref bd])) (hp : SqT K H pt ((flat pr ++ [(k : Int), 0, 0]).map V.int)) (hl : LFrom G bd pr l) (h3 : pr.length ≤ 100) (hts : G l = some (.lst (ts.map V.ref))) (hu : ts[k]? = some u) (hX : DeedS K G u (.loop [w, x, y] F P a)) (hw : w = "is" ∨ w = "not")
      (q : ∀ r tt fa pa zl H', TRes K H H' r tt fa pa zl (F ++ [[w, x, y]]) P [] → Q (.ref r) H') : spToldIn K bs vs H Q E
  | behind (G : Hp) (t pt : Addr) (v0 v1 v2 v3 v4 : V) (bd l : Addr) (pr : Pre) (k : Nat) (ts : List Addr) (u : Addr) (w x y : Str) (F P : List (List Str)) (a : List Deed) (h0 : vs = [.ref t, .ref pt]) (e : Same G H) (h1 : G t = some (.tup [v0, v1, v2, v3, v4, .ref bd])) (hp : SqT K H pt ((flat pr ++ [(k : Int) + 1]).map V.int)) (hl : LFrom G bd pr l) (h3 : pr.length ≤ 100) (hts : G l = some (.lst (ts.map V.ref))) (hu : ts[k]? = some u) (hX : DeedS K G u (.loop [w, x, y] F P a)) (hw : w = "is" ∨ w = "not")
      (q : ∀ r tt fa pa zl H', TRes K H H' r tt fa pa zl (F ++ [[contr w, x, y]]) P [] → Q (.ref r) H') : spToldIn K bs vs H Q E
theorem TRes.mk0 {K : PySem.W.Frag} {H H1 : Hp} {tt fa pa : Addr} {F P : List (List Str)} {Q : VK} (e1 : Same H H1) (nf : H fa = none) (np : H pa = none) (fp : fa ≠ pa) (htt : H1 tt = some (.tup [.ref fa, .ref pa])) (hF : RowsAt K H1 fa F) (hP : RowsAt K H1 pa P) {zl r : Addr} (hz : H1 zl = none) (hr : (upd H1 zl (.lst [])) r = none) : TRes K H (upd (upd H1 zl (.lst [])) r (.tup [.ref tt, .ref zl])) r tt fa pa zl F P [] := by
  have s2 := same_new hz (.lst [])
  have k2 : (upd H1 zl (.lst [])) zl = some (.lst []) := upd_same
  have s3 := same_new hr (.tup [.ref tt, .ref zl])
  have s23 := s2.trans s3
  obtain ⟨a1, hF1, _⟩ := id hF
  obtain ⟨a2, hP1, _⟩ := id hP
  exact ⟨e1.trans s23, upd_same, s23 _ _ htt, hF.same s23, hP.same s23, s3 _ _ k2, nf, np, e1.free hz, fp, ne_of_none hF1 hz, ne_of_none hP1 hz⟩
section
variable {P : Program} {w : World} {K : PySem.W.Frag} {mg : Str → Option Value} {base : Heap} {f gN gF gW gT gB : Addr} {fd dN dF dW dT dB : FuncData}
theorem scByNames : FnScope ["program"] ["program"] (defScope sByNames) := ⟨rfl, rfl, rfl, by decide +kernel, rfl, by decide +kernel, by decide +kernel⟩
theorem ok_byNames (C : Con K mg w) (F : Fun K "by_names" "by_names" sByNames f fd) : FnOk P w K mg base CX0 1 f fd ["program"] (spBy K) := by
  refine F.okQ scByNames (fun vs H Q E h => ?_) (fun cdv A outer s0 H vs Q E hr h => ?_)
  · obtain ⟨l, ts, ns, rfl, _⟩ := h; rfl
  obtain ⟨l, ts, ns, rfl, hl, hts, hnd, h10, q⟩ := h
  have nd := scByNames.nd
  refine ⟨_, (qb_one (qs_ret (qe_callTy (call_dictP (K := K) rfl rfl) rfl C.dict PyProof.Rows.boot_dict (qa_cons (qe_comp0 (qi_list (qv 0)) (fun _ _ _ _ => qts_nil) (fun _ _ _ _ => (qe_tup (qa_sub (qe_ix (ixTK (K := K) rfl) (qv 0) qe_int (fun _ _ => rfl)) (qa_nm (qv 0) qa_nil))))) qa_nil)))), ?_⟩
  have hlen := Paired.length hts
  refine ⟨_, rfl, l, rfl, ⟨_, SqL.of hl⟩, ?_⟩
  refine comp_posN (ts.map V.ref) (ns.zip ts) (fun D G y (x : Str × Addr) => ∃ b, y = V.ref b ∧ b ≠ D ∧ G b = some (.tup [.str x.1, .ref x.2])) id jseq_list (SqL.of hl) (by rw [List.length_map]; omega) (by rw [List.length_map, List.length_zip]; omega) (fun D G G' y x z e => ?_) (fun D hD j x r hx hr' H2 e2 hD2 Q' q' => ?_) (fun D H2 ys hD e2 hD2 hpt => ?_)
  · obtain ⟨b, rfl, nb, hb⟩ := z
    exact ⟨b, rfl, nb, e _ _ hb nb⟩
  · rw [List.getElem?_map] at hx
    obtain ⟨t, ht, rfl⟩ := Option.map_eq_some_iff.mp hx
    obtain ⟨n, hn, us, hu⟩ := Paired.nth hts ht
    have hr2 : r = (n, t) := by
      have : (ns.zip ts)[j]? = some (n, t) := List.getElem?_zip_eq_some.mpr ⟨hn, ht⟩
      rw [hr'] at this; exact Option.some.inj this
    subst hr2
    refine ⟨_, rfl, t, _, 0, _, rfl, rfl, SqT.of (e2 _ _ hu), at0, _, rfl, (show 2 ≤ sizeLine by decide), fun b hb => q' (.ref b) _ (same_new hb _) ⟨b, rfl, fun z => ?_, upd_same⟩⟩
    rw [z] at hb; exact hD2 hb
  rw [List.map_id] at hpt
  obtain ⟨us, rfl, hpp⟩ := paired_refs (R := fun b (x : Str × Addr) => b ≠ D ∧ H2 b = some (.tup [.str x.1, .ref x.2])) hpt
  have hlz : (ns.zip ts).length = ns.length := by rw [List.length_zip]; omega
  have hul := Paired.length hpp
  refine ⟨D, us, byK ns ts, rfl, SqL.of hD2, ?_, ?_, (by omega), fun d hd => q d _ (e2.trans (same_new hd _)) upd_same⟩
  · exact by_pairs hpp
  · unfold byK
    rw [List.map_map]
    show ((ns.zip ts).map (·.1)).Nodup
    rw [List.map_fst_zip (by omega)]
    exact hnd
theorem scToldIn : FnScope ["procedure", "path", "zeros"] ["procedure", "path"] (defScope sToldIn) := ⟨rfl, rfl, rfl, by decide +kernel, rfl, by decide +kernel, by decide +kernel⟩
theorem ok_toldIn {n : Nat} {bs : List Nat} (hn3 : 3 ≤ n) (C : Con K mg w) (F : Fun K "told_in" "told_in" sToldIn f fd) (GN : FnOk P w K mg base CX0 n gN dN ["procedure"] (spNamesIn K bs)) (cN : Cal K mg "names_in" gN dN ["procedure"]) (GW : FnOk P w K mg base CX0 1 gW dW ["loop", "holding"] (spWith K)) (cW : Cal K mg "with_condition" gW dW ["loop", "holding"]) (GF : FnOk P w K mg base CX0 3 gF dF ["body", "path"] (spFound K)) (cF : Cal K mg "found_at" gF dF ["body", "path"]) : FnOk P w K mg base CX0 (n + 1) f fd ["procedure", "path"] (spToldIn K bs) := by
  refine F.okQ scToldIn (fun vs H Q E h => ?_) (fun cdv A outer s0 H vs Q E hr h => ?_)
  · rcases h with ⟨_, _, _, _, _, rfl, _⟩ | ⟨_, _, _, _, _, _, _, _, _, _, _, _, _, _, _, _, _, _, _, _, rfl, _⟩ | ⟨_, _, _, _, _, _, _, _, _, _, _, _, _, _, _, _, _, _, _, _, rfl, _⟩ <;> rfl
  have nd := scToldIn.nd
  have hr1 := hr.mono (j := 1) (by omega)
  have hr3 := hr.mono (j := 3) (by omega)
  have hu := Nat.lt_of_le_of_lt (Nat.add_le_add_left (show 32 ≤ 64 by decide) _) hr.units
  refine ⟨_, qb_cons (qs_if (qt_cmpR (op_eqD hu) (qv 1) (qe_tup (qa_int qa_nil)) (nomark _)) (qb_cons (qs_setCG ["name", "procedure"] [0] (i := 2) nd rfl (Or.inl rfl) (qi_list (qe_call GN hr rfl cN.name cN.keep cN.bind .nil pass0 (qa_nm (qv 0) qa_nil))) (fun _ _ _ _ => (qts_one (qt_cmpR (show OpR _ _ (rIn K true) from op_notIn_seq) (qv 0) (qe_ix (ixTK (K := K) rfl) (qv 1) qe_int (fun _ _ => rfl)) (by with_unfolding_all rfl)))) (fun _ _ _ _ => (qv 0)))
    (qb_one (qs_ret (qe_tup (qa_tp (qa_call (qe_callTy call_list_of rfl C.list PyProof.Rows.boot_list (qa_sub (qe_ix ix_tup (qe_ix ix_tup (qv 0) qe_int (fun _ _ => rfl)) qe_int (fun _ _ => rfl)) qa_nil)) (qa_call (qe_callTy call_list_of rfl C.list PyProof.Rows.boot_list (qa_sub (qe_ix ix_tup (qe_ix ix_tup (qv 0) qe_int (fun _ _ => rfl)) qe_int (fun _ _ => rfl)) qa_nil)) qa_nil)) (qa_nm (qv 2) qa_nil)))))) qb_nil)
    (qb_cons (qs_if (qt_cmpR op_eq (qe_ix ix_tup (qv 1) (qe_un un_neg qe_int) (fun _ _ => rfl)) qe_int (nomark _)) (qb_one (qs_ret (qe_tup (qa_call (qe_call GW hr1 rfl cW.name cW.keep cW.bind .nil pass0 (qa_call (qe_call GF hr3 rfl cF.name cF.keep cF.bind .nil pass0 (qa_sub (qe_ix ix_tup (qv 0) qe_int (fun _ _ => rfl)) (qa_sub (qe_slice sl_tupU (qv 1) qo_none (qo_some (qe_un un_neg qe_int))) qa_nil))) (qa_bl qa_nil))) (qa_ls qa_nil qa_nil))))) qb_nil)
    (qb_one (qs_ret (qe_tup (qa_call (qe_call GW hr1 rfl cW.name cW.keep cW.bind .nil pass0 (qa_call (qe_call GF hr3 rfl cF.name cF.keep cF.bind .nil pass0 (qa_sub (qe_ix ix_tup (qv 0) qe_int (fun _ _ => rfl)) (qa_bop (qe_op op_catTU (qe_slice sl_tupU (qv 1) qo_none (qo_some (qe_un un_neg qe_int))) (qe_tup (qa_bop (qe_op op_sub (qe_ix ix_tup (qv 1) (qe_un un_neg qe_int) (fun _ _ => rfl)) qe_int) qa_nil))) qa_nil))) (qa_bl qa_nil))) (qa_ls qa_nil qa_nil)))))), ?_⟩
  have cmp : ∀ {pt : Addr} {ns : List Int} {H : Hp} {Q' : VK} (x : V), SqT K H pt (ns.map V.int) → (∀ H', Same H H' → Q' (.bl (decide (ns = [0]))) H') → tTup (tCons (tC (.int 0)) tNil) [] H fun y H2 => rEqD K (.ref pt) y H2 Q' := fun {pt ns H Q'} x hp q' => by
    refine ⟨(show 1 ≤ sizeLine by decide), fun z hz => ?_⟩
    have s1 := same_new hz (.tup [.int 0])
    refine ⟨dInts ns, dInts [0], ints_dp (s1.seqT hp), ints_dp (ns := [0]) (SqT.of upd_same), ints_dn.ok (by decide), ints_dn.ok (by decide), ?_⟩
    rw [eqv_dInts]
    exact q' _ s1
  rcases h with ⟨G, t, pt, p, xs, rfl, eG, h1, ok, hp, q⟩ | ⟨G, t, pt, v0, v1, v2, v3, v4, bd, l, pr, k, ts, u, wd, x, y, F', P', a, rfl, eG, h1, hp, hl, h3, hts, hu', hX, hw, q⟩ | ⟨G, t, pt, v0, v1, v2, v3, v4, bd, l, pr, k, ts, u, wd, x, y, F', P', a, rfl, eG, h1, hp, hl, h3, hts, hu', hX, hw, q⟩
  · obtain ⟨pt', t1, t2, f1, p1, f2, p2, bd, x⟩ := id h1
    refine ⟨_, rfl, cmp (ns := [0]) .non hp fun H1 e1 => ⟨_, rfl, iteB (fun _ => ?_) (fun c => absurd c (by decide))⟩⟩
    refine ⟨_, rfl, G, t, p, xs, rfl, eG.trans e1, h1, ok, fun zl0 zs H2 e2' hz0 k2 hzn hzs hzm => ?_⟩
    have e2 := e1.trans e2'
    have hzl : zs.length ≤ 20 := Nat.le_trans (List.Nodup.length_le_of_subset hzn fun y hy => ok.names y ((hzm y).mp hy).2 ((hzm y).mp hy).1) ok.len
    refine ⟨zl0, rfl, ⟨_, SqL.of k2⟩, ?_⟩
    refine comp_words zs (fun y => !decide (y ∈ p.ps)) jseq_list (SqL.of k2) (by omega) (fun y hy H3 e3 Q' q' => ?_) (fun y H3 Q' q' => ⟨_, rfl, q'⟩) (fun D H3 hD e3' kD => ?_)
    · have e := (eG.trans e2).trans e3
      refine ⟨_, rfl, _, rfl, t, _, 1, _, rfl, rfl, SqT.of (e _ _ x.tup), rfl, pt', _, rfl, .inr (SqT.of (e _ _ x.pt)), rfl, flat_strs _, _, rfl, ?_⟩
      rw [inV_strs]
      exact q' _ (Same.refl _)
    have e3 := e2.trans e3'
    have g3 := eG.trans e3
    obtain ⟨as1, hF1, hF2⟩ := x.f1
    obtain ⟨as2, hP1, hP2⟩ := x.p1
    refine ⟨_, rfl, t, _, 3, _, rfl, rfl, SqT.of (g3 _ _ x.tup), rfl, t1, _, 0, _, rfl, rfl, SqT.of (g3 _ _ x.t1), rfl, f1, _, rfl, .inl (SqL.of (g3 _ _ hF1)), fun na hna => ?_⟩
    have s4' := same_new hna (.lst (as1.map V.ref))
    have k4 : (upd H3 na (.lst (as1.map V.ref))) na = some (.lst (as1.map V.ref)) := upd_same
    have nz1 : na ≠ D := (ne_of_none kD hna).symm
    have hna0 : H na = none := e3.free hna
    generalize upd H3 na (.lst (as1.map V.ref)) = H4 at s4' k4 ⊢
    have s4 := e3.trans s4'
    have g4 := eG.trans s4
    refine ⟨_, rfl, t, _, 3, _, rfl, rfl, SqT.of (g4 _ _ x.tup), rfl, t1, _, 1, _, rfl, rfl, SqT.of (g4 _ _ x.t1), rfl, p1, _, rfl, .inl (SqL.of (g4 _ _ hP1)), fun nb hnb => ?_⟩
    have s5' := same_new hnb (.lst (as2.map V.ref))
    have k5 : (upd H4 nb (.lst (as2.map V.ref))) nb = some (.lst (as2.map V.ref)) := upd_same
    have nz2 : nb ≠ D := (ne_of_none (s4' _ _ kD) hnb).symm
    have nab : na ≠ nb := ne_of_none k4 hnb
    have hnb0 : H nb = none := s4.free hnb
    generalize upd H4 nb (.lst (as2.map V.ref)) = H5 at s5' k5 ⊢
    have s5 := s4.trans s5'
    refine ⟨(show 2 ≤ sizeLine by decide), fun tt htt => ?_⟩
    have s6' := same_new htt (.tup [.ref na, .ref nb])
    have k6 : (upd H5 tt (.tup [.ref na, .ref nb])) tt = some (.tup [.ref na, .ref nb]) := upd_same
    generalize upd H5 tt (.tup [.ref na, .ref nb]) = H6 at s6' k6 ⊢
    have s6 := s5.trans s6'
    refine ⟨_, rfl, (show 2 ≤ sizeLine by decide), fun r hr' => ?_⟩
    have s7' := same_new hr' (.tup [.ref tt, .ref D])
    have s7 := s6.trans s7'
    have g7 := eG.trans s7
    exact q r tt na nb D zs _ ⟨s7, upd_same, s7' _ _ k6, ⟨as1, s7' _ _ (s6' _ _ (s5' _ _ k4)), Paired.mapP hF2 fun _ _ z => RowAt.same z g7⟩, ⟨as2, s7' _ _ (s6' _ _ k5), Paired.mapP hP2 fun _ _ z => RowAt.same z g7⟩, s7' _ _ (s6' _ _ (s5' _ _ (s4' _ _ kD))), hna0, hnb0, e2.free hD, nab, nz1, nz2⟩ hzn hzs hzm
  · have hne : ¬ flat pr ++ [(k : Int), 0, 0] = [0] := fun z => by
      have := congrArg List.length z
      rw [List.length_append] at this
      have h1 : [(k : Int), 0, 0].length = 3 := rfl
      have h2 : [(0 : Int)].length = 1 := rfl
      omega
    have hlen : (flat pr ++ [(k : Int), 0, 0]).length ≤ 300 := by rw [List.length_append, flat_len]; show _ + 3 ≤ 300; omega
    refine ⟨_, rfl, cmp .non hp fun H1 e1 => ⟨_, rfl, iteB (fun c => absurd (of_decide_eq_true c) hne) (fun _ => ?_)⟩⟩
    have g1 := eG.trans e1
    have hp1 := e1.seqT hp
    have ha : (flat pr ++ [(k : Int), 0, 0]).map V.int = ((flat pr ++ [(k : Int), 0]).map V.int) ++ [V.int 0] := by simp
    have hb : (flat pr ++ [(k : Int), 0, 0]).map V.int = ((flat pr ++ [(k : Int)]).map V.int) ++ [V.int 0, V.int 0] := by simp
    refine ⟨_, rfl, _, rfl, pt, _, _, _, rfl, rfl, (by rw [ha] at hp1; exact hp1), atI_last, rfl, _, rfl, iteB (fun _ => ?_) (fun c => absurd c (by decide))⟩
    refine ⟨_, rfl, t, _, 5, _, rfl, rfl, SqT.of (g1 _ _ h1), rfl, _, rfl, _, rfl, _, rfl, pt, _, rfl, (by rw [hb] at hp1; exact hp1), fun p2 H2 e2' k2 => ?_⟩
    rw [show cutV ((flat pr ++ [(k : Int)]).map V.int ++ [V.int 0, V.int 0]) none (some (-(2 : Int))) = (flat pr ++ [(k : Int)]).map V.int from cut_neg _ _ (m := 2) rfl (by decide)] at k2
    have g2 := g1.trans e2'
    refine ⟨bd, p2, l, pr, k, ts, rfl, k2, hl.same g2, h3, g2 _ _ hts, fun t' H3 ht' e3' => ?_, fun H3 hn' _ => by rw [hu'] at hn'; cases hn'⟩
    rw [hu'] at ht'; cases ht'
    have e3 := (e1.trans e2').trans e3'
    refine ⟨u, true, wd, x, y, F', P', a, rfl, DeedS.same hX (eG.trans e3), hw, fun tt fa pa H4 e4 nf np fp ktt hF hP => ?_⟩
    refine ⟨Nat.zero_le _, fun zl hzl => ⟨(show 2 ≤ sizeLine by decide), fun r hr' => ?_⟩⟩
    exact q r tt fa pa zl _ (TRes.mk0 (Q := Q) (e3.trans e4) (e3.free nf) (e3.free np) fp ktt hF hP hzl hr')
  · have hne : ¬ flat pr ++ [(k : Int) + 1] = [0] := fun z => by
      have := congrArg (fun l => l.getLastD 0) z
      simp only [List.getLastD_concat] at this
      have h0 : ([0] : List Int).getLastD 0 = 0 := rfl
      rw [h0] at this
      omega
    refine ⟨_, rfl, cmp .non hp fun H1 e1 => ⟨_, rfl, iteB (fun c => absurd (of_decide_eq_true c) hne) (fun _ => ?_)⟩⟩
    have g1 := eG.trans e1
    have hp1 := e1.seqT hp
    rw [List.map_append] at hp1
    refine ⟨_, rfl, _, rfl, pt, _, _, _, rfl, rfl, hp1, atI_last, rfl, _, rfl, iteB (fun c => ?_) (fun _ => ?_)⟩
    · have := V.int.inj (of_decide_eq_true c)
      omega
    refine ⟨_, rfl, t, _, 5, _, rfl, rfl, SqT.of (g1 _ _ h1), rfl, _, rfl, _, rfl, _, rfl, pt, _, rfl, hp1, fun p2 H2 e2' k2 => ?_⟩
    rw [show cutV ((flat pr).map V.int ++ [(k : Int) + 1].map V.int) none (some (-(1 : Int))) = (flat pr).map V.int from cut_neg _ _ (m := 1) rfl (by decide)] at k2
    have g2 := g1.trans e2'
    refine ⟨_, rfl, _, rfl, pt, _, _, _, rfl, rfl, e2'.seqT hp1, atI_last, _, _, rfl, rfl, (show 1 ≤ sizeLine by decide), fun p3 hp3 => ?_⟩
    have s3 := same_new hp3 (.tup [.int ((k : Int) + 1 - 1)])
    have hfl := flat_len pr
    refine ⟨p2, p3, _, _, rfl, rfl, s3.seqT k2, SqT.of upd_same, le_line (by rw [List.length_map]; show _ + 1 ≤ 1000; omega), fun p4 H4 e4' k4 => ?_⟩
    have k4' : SqT K H4 p4 ((flat pr ++ [(k : Int)]).map V.int) := by
      have k4'' : SqT K H4 p4 ((flat pr).map V.int ++ [V.int ((k : Int) + 1 - 1)]) := k4
      rw [show (k : Int) + 1 - 1 = (k : Int) by omega] at k4''
      rw [List.map_append]; exact k4''
    have e4 := ((e1.trans e2').trans s3).trans e4'
    have g4 := eG.trans e4
    refine ⟨bd, p4, l, pr, k, ts, rfl, k4', hl.same g4, h3, g4 _ _ hts, fun t' H5 ht' e5' => ?_, fun H3 hn' _ => by rw [hu'] at hn'; cases hn'⟩
    rw [hu'] at ht'; cases ht'
    have e5 := e4.trans e5'
    refine ⟨u, false, wd, x, y, F', P', a, rfl, DeedS.same hX (eG.trans e5), hw, fun tt fa pa H6 e6 nf np fp ktt hF hP => ?_⟩
    refine ⟨Nat.zero_le _, fun zl hzl => ⟨(show 2 ≤ sizeLine by decide), fun r hr' => ?_⟩⟩
    exact q r tt fa pa zl _ (TRes.mk0 (Q := Q) (e5.trans e6) (e5.free nf) (e5.free np) fp ktt hF hP hzl hr')
end
end K60
namespace L2
open PySem PySem.Spec
theorem for_strI {z : Str} {g : TG} {tb : TS} {D : Ends} {σ : St} {H : Hp} (Pv : Nat → St → Hp → Prop) (h0 : Pv 0 σ H)
    (hs : ∀ i c σ H, i < z.cps.size → z.cps.toList[i]? = some c → Pv i σ H → g (.str ⟨#[c]⟩) σ H fun σ2 H2 => tb { D with nx := Pv (i + 1), ct := Pv (i + 1), bk := D.nx } σ2 H2) (hd : ∀ σ H, Pv z.cps.size σ H → D.nx σ H) :
    ∃ W : Nat → Nat → St → Hp → Prop, (∃ m, W 0 m σ H) ∧ ∀ i m σ H, W i m σ H →
      ((Its z).stop i H ∧ D.nx σ H) ∨ ((Its z).go i H ∧ ∃ N : St → Hp → Prop, (∀ σ' H', N σ' H' → ∃ m', m' < m ∧ W (i + 1) m' σ' H') ∧ ∀ x H', (Its z).yld i H x H' → g x σ H' fun σ2 H2 => tb { D with nx := N, ct := N, bk := D.nx } σ2 H2) := by
  refine ⟨fun i m σ H => m = z.cps.size - i ∧ i ≤ z.cps.size ∧ Pv i σ H, ⟨z.cps.size, by simp, Nat.zero_le _, h0⟩, ?_⟩
  rintro i m σ H ⟨rfl, hi, p⟩
  by_cases hlt : i < z.cps.size
  · refine .inr ⟨hlt, Pv (i + 1), fun σ' H' p' => ⟨z.cps.size - (i + 1), by omega, rfl, hlt, p'⟩, fun x H' y => ?_⟩
    obtain ⟨e, c, hc, y⟩ := y
    subst e y
    exact hs i c σ _ hlt (by rw [Array.getElem?_toList]; exact hc) p
  · have e : i = z.cps.size := by omega
    subst e
    exact .inl ⟨Nat.le_refl _, hd σ H p⟩
end L2
namespace K60
open PySem PySem.Spec L2 Mir
noncomputable abbrev sMixed : Stmt := top 24
noncomputable abbrev sFree : Stmt := top 25
noncomputable abbrev sNames : Stmt := top 26
noncomputable def itD : Nat → Int → Int
  | 0, c => c
  | n + 1, c => itD n c / 1000003
noncomputable def mixA (c : Int) (k : Nat) : Int := (c % 2147483647 * 48271 + 69621 * (k : Int) + 11) % 2147483629
noncomputable def mixB (c : Int) (k : Nat) : Int := (mixA c k * mixA c k + (k : Int)) % 2147483587
noncomputable def mixF (c : Int) (k : Nat) : Int := if c % 2 = 1 then itD (k + 1) c % 1000003 else mixB c k * (mixB c k + 69621) % 2147483563
noncomputable def spMixed : Sp := fun vs H Q _ => ∃ (c : Int) (k : Nat), vs = [.int c, .int (k : Int)] ∧ k ≤ 500 ∧ Q (.int (mixF c k)) H
noncomputable def others : List Str := ["nil", "any", "is", "not", "cell", "stretch", "tree", "nothing", "then", "with", "set", "read", "write", "new", "free", "if", "while", "call", "first", "second", "third"]
noncomputable def signsT : Str := "abcdefghijklmnopqrstuvwxyz0123456789"
theorem at_in {α : Type} {xs : List α} {i : Int} (h0 : 0 ≤ i) (h1 : i < xs.length) : ∃ v, atI xs i = some v ∧ v ∈ xs := by
  obtain ⟨j, rfl⟩ : ∃ j : Nat, i = (j : Int) := ⟨i.toNat, by omega⟩
  have hj : j < xs.length := by omega
  exact ⟨xs[j], atI_nat (by rw [List.getElem?_eq_getElem hj]), List.getElem_mem hj⟩
theorem at_mod' {α : Type} {xs : List α} {m : Nat} {i : Int} (h : xs.length = m) (hm : 0 < m) : ∃ v, atI xs (i % (m : Int)) = some v ∧ v ∈ xs := at_in (Int.emod_nonneg _ (by omega)) (by rw [h]; exact Int.emod_lt_of_pos _ (by omega))
noncomputable def spN8 : Sp := fun vs H Q _ => ∃ (c : Int), vs = [.int c] ∧ ∀ l xs H', Same H H' → H' l = some (.lst ((xs : List Str).map V.str)) → xs.length = 8 → xs.Nodup → (∀ x ∈ xs, isName x = true ∧ ¬ x ∈ others) → Q (.ref l) H'
theorem cut_last {x : Str} {pre : List Nat} {c : Nat} (h : x.cps.toList = pre ++ [c]) (d : Nat) : cutS x none (some (-1)) ++ (⟨#[d]⟩ : Str) = ⟨(pre ++ [d]).toArray⟩ := by
  have hl : x.length = pre.length + 1 := by
    have : x.cps.toList.length = pre.length + 1 := by rw [h, List.length_append]; rfl
    rw [Array.length_toList] at this
    exact this
  have h1 : (cutS x none (some (-1))).cps = pre.toArray := by
    show (List.take (HT.sIx x.length x.length (some (-1)) - HT.sIx x.length 0 none) (List.drop (HT.sIx x.length 0 none) x.cps.toList)).toArray = _
    have e1 : HT.sIx x.length x.length (some (-1)) = pre.length := by
      unfold HT.sIx
      simp only [hl]
      rw [if_pos (by decide)]
      omega
    have e2 : HT.sIx x.length 0 none = 0 := rfl
    rw [e1, e2, List.drop_zero, Nat.sub_zero, h, List.take_left']
    rfl
  have h2 : (cutS x none (some (-1)) ++ (⟨#[d]⟩ : Str)).cps = (cutS x none (some (-1))).cps ++ #[d] := Str.cps_append _ _
  have h3 : ∀ a b : Str, a.cps = b.cps → a = b := fun a b e => by cases a; cases b; cases e; rfl
  refine h3 _ _ ?_
  rw [h2, h1]
  show pre.toArray ++ #[d] = (pre ++ [d]).toArray
  simp
noncomputable def sgs : List Nat := signsT.cps.toList
noncomputable def lts : List Nat := sgs.take 26
structure PreOk (pre : List Nat) : Prop where
  len : pre.length ≤ 7
  sg : ∀ c ∈ pre, c ∈ sgs
  hd : ∀ c r, pre = c :: r → c ∈ lts
noncomputable def LastOk (pre : List Nat) (c : Nat) : Prop := c ∈ sgs ∧ (pre = [] → c ∈ lts)
theorem sgs_ok : ∀ c ∈ sgs, okSign c = true := by decide +kernel
theorem lts_ok : ∀ c ∈ lts, headOk [c] = true := by decide +kernel
theorem headOk_cons (c : Nat) (r : List Nat) : headOk (c :: r) = headOk [c] := rfl
theorem name_of {pre : List Nat} {c : Nat} (hp : PreOk pre) (hc : LastOk pre c) (hn : ¬ (⟨(pre ++ [c]).toArray⟩ : Str) ∈ Mir.noNames) : isName ⟨(pre ++ [c]).toArray⟩ = true := by
  unfold isName
  have hl : (⟨(pre ++ [c]).toArray⟩ : Str).length = pre.length + 1 := by show (pre ++ [c]).toArray.size = _; simp
  have h1 := hp.len
  rw [if_neg ?_]
  · rw [Bool.and_eq_true]
    constructor
    · show headOk (pre ++ [c]) = true
      cases hpre : pre with
      | nil => exact lts_ok c (hc.2 hpre)
      | cons d r => rw [List.cons_append, headOk_cons]; exact lts_ok d (hp.hd d r hpre)
    · show (pre ++ [c]).all okSign = true
      refine List.all_eq_true.mpr fun d hd => ?_
      rcases List.mem_append.mp hd with z | z
      · exact sgs_ok d (hp.sg d z)
      · rw [List.mem_singleton.mp z]; exact sgs_ok c hc.1
  · rintro (z | z | z)
    · have := congrArg Str.length z
      rw [hl] at this
      have h0 : ("" : Str).length = 0 := by decide +kernel
      omega
    · omega
    · exact hn z
theorem few2 : ∀ x ∈ others, (others.filter fun y => decide (y.cps.toList.dropLast = x.cps.toList.dropLast)).length ≤ 2 := by decide +kernel
theorem no_sub : ∀ x ∈ Mir.noNames, x ∈ others := by decide +kernel
theorem free26 {pre : List Nat} {ns : List Str} (hn : ns.length ≤ 7) : ¬ ∀ k c, k < 26 → lts[k]? = some c → (⟨(pre ++ [c]).toArray⟩ : Str) ∈ others ++ ns := by
  intro h
  have hnd : lts.Nodup := by decide +kernel
  have hlen : lts.length = 26 := by decide +kernel
  have h1 : (lts.map fun c => (⟨(pre ++ [c]).toArray⟩ : Str)).Nodup := List.pairwise_map.mpr (List.Pairwise.imp (fun {a b} hab e => hab (by
    have e2 := congrArg (fun s : Str => s.cps.toList) e
    simpa using e2)) hnd)
  have h2 := List.Nodup.length_le_of_subset h1 (l₂ := (others.filter fun y => decide (y.cps.toList.dropLast = pre)) ++ ns) fun x hx => by
    obtain ⟨c, hc, rfl⟩ := List.mem_map.mp hx
    obtain ⟨k, hk, e⟩ := List.getElem_of_mem hc
    rcases List.mem_append.mp (h k c (by omega) (List.getElem?_eq_some_iff.mpr ⟨hk, e⟩)) with z | z
    · exact List.mem_append_left _ (List.mem_filter.mpr ⟨z, by simp⟩)
    · exact List.mem_append_right _ z
  rw [List.length_map, hlen, List.length_append] at h2
  have h3 : (others.filter fun y => decide (y.cps.toList.dropLast = pre)).length ≤ 2 := by
    by_cases e : (others.filter fun y => decide (y.cps.toList.dropLast = pre)) = []
    · rw [e]; exact Nat.zero_le _
    · obtain ⟨x, hx⟩ := List.exists_mem_of_ne_nil _ e
      obtain ⟨hx1, hx2⟩ := List.mem_filter.mp hx
      have hx3 : x.cps.toList.dropLast = pre := by simpa using hx2
      rw [← hx3]; exact few2 x hx1
  omega
section
variable {P : Program} {w : World} {K : PySem.W.Frag} {mg : Str → Option Value} {base : Heap} {f gF : Addr} {fd dF : FuncData}
theorem scMixed : FnScope ["_law_cell", "_law_k", "_law_turn", "_law_number"] ["_law_cell", "_law_k"] (defScope sMixed) := ⟨rfl, rfl, rfl, by decide +kernel, rfl, by decide +kernel, by decide +kernel⟩
theorem ok_mixed (C : Con K mg w) (F : Fun K "_law_mixed" "_law_mixed" sMixed f fd) : FnOk P w K mg base CX0 1 f fd ["_law_cell", "_law_k"] spMixed := by
  refine F.okQ scMixed (fun vs H Q E h => ?_) (fun cdv A outer s0 H vs Q E hr h => ?_)
  · obtain ⟨c, k, rfl, _⟩ := h; rfl
  obtain ⟨c, k, rfl, hk, q⟩ := h
  have nd := scMixed.nd
  refine ⟨_, qb_cons (qs_if (qt_cmpR op_eq (qe_op op_mod (qv 0) qe_int) qe_int (nomark _)) (qb_cons (qs_for PassesOwn.never rfl (qi_range1 rfl C.range (qa_bop (qe_op op_add (qv 1) qe_int) qa_nil)) (qg_name (i := 2) nd rfl (Or.inl rfl)) (qb_one (qs_set (i := 0) nd rfl (Or.inl rfl) (qe_op op_fdivB (qv 0) qe_int))))
    (qb_one (qs_ret (qe_op op_mod (qv 0) qe_int)))) qb_nil)
    (qb_cons (qs_set (i := 3) nd rfl (Or.inl rfl) (qe_op op_mod (qe_op op_add (qe_op op_add (qe_op op_mul (qe_op op_mod (qv 0) qe_int) qe_int) (qe_op op_mul qe_int (qv 1))) qe_int) qe_int))
    (qb_cons (qs_set (i := 3) nd rfl (Or.inl rfl) (qe_op op_mod (qe_op op_add (qe_op op_mul (qv 3) (qv 3)) (qv 1)) qe_int))
    (qb_one (qs_ret (qe_op op_mod (qe_op op_mul (qv 3) (qe_op op_add (qv 3) qe_int)) qe_int))))), ?_⟩
  refine ⟨_, rfl, _, _, rfl, rfl, (show (0 : Int) < 2 by decide), rfl, _, rfl, iteB (fun hc => ?_) (fun hc => ?_)⟩
  · have hc1 : c % 2 = 1 := V.int.inj (of_decide_eq_true hc)
    unfold mixF at q
    rw [if_pos hc1] at q
    refine ⟨_, rfl, _, _, rfl, rfl, _, rfl, by omega, by omega, ?_⟩
    refine for_range (lo := 0) (n := ((k : Int) + 1).toNat) (fun i σ H' => ∃ (z2 : Option V), H' = H ∧ σ = [some (.int (itD i c)), some (.int (k : Int)), z2, none]) ⟨none, rfl, rfl⟩ ?_ ?_
    · rintro i σ H' hi ⟨z2, rfl, rfl⟩
      exact ⟨_, rfl, _, _, rfl, rfl, (show CDivB _ 1000003 from ⟨by decide, by decide⟩), _, rfl, rfl⟩
    · rintro σ H' ⟨z2, rfl, rfl⟩
      exact ⟨_, rfl, _, _, rfl, rfl, (show (0 : Int) < 1000003 by decide), q⟩
  · have hc1 : ¬ c % 2 = 1 := fun z => by rw [decide_eq_true (congrArg V.int z)] at hc; cases hc
    unfold mixF at q
    rw [if_neg hc1] at q
    refine ⟨_, rfl, _, _, rfl, rfl, (show (0 : Int) < 2147483647 by decide), _, _, rfl, rfl, .inr ⟨by decide, by decide⟩, _, rfl, _, _, rfl, rfl, .inl ⟨by decide, by decide⟩, _, _, rfl, rfl, _, _, rfl, rfl, _, _, rfl, rfl, (show (0 : Int) < 2147483629 by decide), ?_⟩
    have m1 : 0 ≤ mixA c k := Int.emod_nonneg _ (show (2147483629 : Int) ≠ 0 by decide)
    have m2 : mixA c k < 2147483629 := Int.emod_lt_of_pos _ (show (0 : Int) < 2147483629 by decide)
    change gName 3 (.int (mixA c k)) _ _ _
    have m3 : 0 ≤ mixB c k := Int.emod_nonneg _ (show (2147483587 : Int) ≠ 0 by decide)
    have m4 : mixB c k < 2147483587 := Int.emod_lt_of_pos _ (show (0 : Int) < 2147483587 by decide)
    refine ⟨_, rfl, _, rfl, _, _, rfl, rfl, .inl ⟨by omega, by omega⟩, _, rfl, _, _, rfl, rfl, _, _, rfl, rfl, (show (0 : Int) < 2147483587 by decide), ?_⟩
    change gName 3 (.int (mixB c k)) _ _ _
    exact ⟨_, rfl, _, rfl, _, _, rfl, rfl, _, _, rfl, rfl, .inl ⟨by omega, by omega⟩, _, _, rfl, rfl, (show (0 : Int) < 2147483563 by decide), q⟩
theorem scFree : FnScope ["_law_cell", "_law_signs", "_law_others", "_law_names_here", "_law_k", "_law_name", "_law_left", "_law_j", "_law_sign"] ["_law_cell"] (defScope sFree) := ⟨rfl, rfl, rfl, by decide +kernel, rfl, by decide +kernel, by decide +kernel⟩
theorem ok_free (C : Con K mg w) (F : Fun K "_law_free_names" "_law_free_names" sFree f fd) : FnOk P w K mg base CX0 1 f fd ["_law_cell"] spN8 := by
  refine F.okQ scFree (fun vs H Q E h => ?_) (fun cdv A outer s0 H vs Q E hr h => ?_)
  · obtain ⟨c, rfl, _⟩ := h; rfl
  obtain ⟨c, rfl, q⟩ := h
  have nd := scFree.nd
  refine ⟨_, qb_cons (qs_set (i := 1) nd rfl (Or.inl rfl) qe_str)
    (qb_cons (qs_set (i := 2) nd rfl (Or.inl rfl) (qe_lst (qa_str (qa_str (qa_str (qa_str (qa_str (qa_str (qa_str (qa_str (qa_str (qa_str (qa_str (qa_str (qa_str qa_nil)))))))))))))))
    (qb_cons (qs_set (i := 3) nd rfl (Or.inl rfl) (qe_op op_cat (qv 2) (qe_lst (qa_str (qa_str (qa_str (qa_str (qa_str (qa_str (qa_str (qa_str qa_nil)))))))))))
    (qb_cons (qs_for PassesOwn.never rfl (qi_range1 rfl C.range (qa_int qa_nil)) (qg_name (i := 4) nd rfl (Or.inl rfl)) (qb_cons (qs_set (i := 5) nd rfl (Or.inl rfl) (qe_ix ix_str (qv 1) (qe_op op_mod (qe_op op_fdiv (qv 0) qe_int) qe_int) (fun _ _ => rfl)))
    (qb_cons (qs_set (i := 6) nd rfl (Or.inl rfl) (qe_op op_fdiv (qv 0) qe_int))
    (qb_cons (qs_for PassesOwn.never rfl (qi_range1 rfl C.range (qa_bop (qe_op op_mod (qv 0) qe_int) qa_nil)) (qg_name (i := 7) nd rfl (Or.inl rfl)) (qb_cons (qs_set (i := 5) nd rfl (Or.inl rfl) (qe_op op_add_str (qv 5) (qe_ix ix_str (qv 1) (qe_op op_mod (qv 6) qe_int) (fun _ _ => rfl))))
    (qb_one (qs_set (i := 6) nd rfl (Or.inl rfl) (qe_op op_fdiv (qv 6) qe_int)))))
    (qb_cons (qs_for PassesOwn.never rfl (qi_str (qe_slice sl_str (qv 1) qo_none (qo_some qe_int))) (qg_name (i := 8) nd rfl (Or.inl rfl)) (qb_one (qs_if (qt_cmpR op_in_seq (qv 5) (qv 3) (by with_unfolding_all rfl)) (qb_one (qs_set (i := 5) nd rfl (Or.inl rfl) (qe_op op_add_str (qe_slice sl_str (qv 5) qo_none (qo_some (qe_un un_neg qe_int))) (qv 8)))) qb_nil)))
    (qb_cons (qs_expr (qe_bmK (K := K) rfl PySem.F.plainAttrs_list PySem.F.slot_list_append PySem.F.type_list_append mt_append (qv 3) (qa_nm (qv 5) qa_nil)))
    (qb_one (qs_set (i := 0) nd rfl (Or.inl rfl) (qe_op op_fdivB (qv 0) (qe_op op_mul qe_int (qe_op op_pow qe_int qe_int)))))))))))
    (qb_one (qs_ret (qe_slice sl_list (qv 3) (qo_some qe_int) qo_none)))))), ?_⟩
  refine ⟨(by decide), fun l0 hl0 => ?_⟩
  have s0' := same_new hl0 (.lst ((others.take 13).map V.str))
  have k0 : (upd H l0 (.lst ((others.take 13).map V.str))) l0 = some (.lst ((others.take 13).map V.str)) := upd_same
  show tSeq _ _ _ _ (upd H l0 (.lst ((others.take 13).map V.str)))
  generalize upd H l0 (.lst ((others.take 13).map V.str)) = H0 at s0' k0 ⊢
  refine ⟨_, rfl, (by decide), fun l9 hl9 => ?_⟩
  have s9' := same_new hl9 (.lst ((others.drop 13).map V.str))
  have k9 : (upd H0 l9 (.lst ((others.drop 13).map V.str))) l9 = some (.lst ((others.drop 13).map V.str)) := upd_same
  change rCat _ _ (upd H0 l9 (.lst ((others.drop 13).map V.str))) _
  generalize upd H0 l9 (.lst ((others.drop 13).map V.str)) = H9 at s9' k9 ⊢
  refine ⟨l0, l9, _, _, rfl, rfl, s9' _ _ k0, k9, (by decide), fun l1 hl1' => ?_⟩
  have hl1 : H l1 = none := (s0'.trans s9').free hl1'
  have e0 : Same H (upd H9 l1 (.lst (others.map V.str))) := (s0'.trans s9').trans (same_new hl1' _)
  have hL0 : (upd H9 l1 (.lst (others.map V.str))) l1 = some (.lst ((others ++ []).map V.str)) := by rw [upd_same, List.append_nil]
  change tSeq _ _ _ _ (upd H9 l1 (.lst (others.map V.str)))
  generalize upd H9 l1 (.lst (others.map V.str)) = H1 at e0 hL0 ⊢
  clear k0 k9 s0' s9' hl0 hl9 hl1'
  refine ⟨8, rfl, by decide, by decide, ?_⟩
  refine for_range (lo := 0) (n := (8 : Int).toNat) (fun i σ H2 => ∃ (c : Int) (ns : List Str) (z4 z5 z6 z7 z8 : Option V), σ = [some (.int c), some (.str signsT), some (.ref l0), some (.ref l1), z4, z5, z6, z7, z8] ∧ Same H H2 ∧ H2 l1 = some (.lst ((others ++ ns).map V.str)) ∧ ns.length = i ∧ ns.Nodup ∧ ∀ x ∈ ns, isName x = true ∧ ¬ x ∈ others) ⟨c, [], none, none, none, none, none, rfl, e0, hL0, rfl, .nil, fun x hx => by cases hx⟩ ?_ ?_
  · rintro i σ H2 hi ⟨c, ns, z4, z5, z6, z7, z8, rfl, e2, hL2, hl2, hn2, hx2⟩
    have hi10 : i < 8 := hi
    have hsl : signsT.length ≤ sizeLine := by decide +kernel
    have hs36 : signsT.cps.toList.length = 36 := by decide +kernel
    have m26 := Int.emod_nonneg (c / 8) (show (26 : Int) ≠ 0 by decide)
    have m26' := Int.emod_lt_of_pos (c / 8) (show (0 : Int) < 26 by decide)
    obtain ⟨c1, hc1, hm1⟩ : ∃ c1, atI signsT.cps.toList (c / 8 % 26) = some c1 ∧ c1 ∈ lts := by
      obtain ⟨j, hj⟩ : ∃ j : Nat, c / 8 % 26 = (j : Int) := ⟨(c / 8 % 26).toNat, by omega⟩
      have hj26 : j < 26 := by omega
      have hjl : j < lts.length := by rw [show lts.length = 26 by decide +kernel]; exact hj26
      refine ⟨lts[j], ?_, List.getElem_mem _⟩
      rw [hj]
      refine atI_nat ?_
      have : lts[j]? = signsT.cps.toList[j]? := by show (sgs.take 26)[j]? = _; rw [List.getElem?_take_of_lt hj26]; rfl
      rw [← this]; exact List.getElem?_eq_getElem hjl
    have hlt_sg : ∀ d ∈ lts, d ∈ sgs := fun d hd => List.mem_of_mem_take hd
    refine ⟨_, rfl, _, rfl, _, _, rfl, rfl, (show CDiv _ 8 from ⟨by decide, by decide⟩), _, _, rfl, rfl, (show (0 : Int) < 26 by decide), signsT, _, c1, rfl, rfl, hsl, hc1, ?_⟩
    refine ⟨_, rfl, _, _, rfl, rfl, (show CDiv _ 208 from ⟨by decide, by decide⟩), ?_⟩
    have m8 := Int.emod_nonneg c (show (8 : Int) ≠ 0 by decide)
    have m8' := Int.emod_lt_of_pos c (show (0 : Int) < 8 by decide)
    refine ⟨_, rfl, _, _, rfl, rfl, (show (0 : Int) < 8 by decide), _, rfl, by omega, by omega, ?_⟩
    refine for_range (lo := 0) (n := (c % 8).toNat) (fun j σ H3 => H3 = H2 ∧ ∃ (nm : Str) (l : Int) (z7 : Option V), σ = [some (.int c), some (.str signsT), some (.ref l0), some (.ref l1), some (.int (0 + (i : Int))), some (.str nm), some (.int l), z7, z8] ∧ ∃ pre c, nm.cps.toList = pre ++ [c] ∧ pre.length = j ∧ (∀ d ∈ pre, d ∈ sgs) ∧ (∀ d r, pre = d :: r → d ∈ lts) ∧ LastOk pre c) ⟨rfl, _, _, _, rfl, [], c1, rfl, rfl, (fun d hd => by cases hd), (fun d r h => by cases h), hlt_sg _ hm1, fun _ => hm1⟩ ?_ ?_
    · rintro j σ H3 hj ⟨rfl, nm, l, z7, rfl, pre, c0, hpre, hpl, hps, hph, hlast⟩
      obtain ⟨c2, hc2, hm2⟩ := at_mod' (xs := signsT.cps.toList) (m := 36) (i := l) (by rw [hs36]) (by decide)
      have hlen : nm.length = j + 1 := by
        have : nm.cps.toList.length = j + 1 := by rw [hpre, List.length_append, hpl]; rfl
        rw [Array.length_toList] at this; exact this
      refine ⟨_, rfl, _, rfl, _, rfl, _, _, rfl, rfl, (show (0 : Int) < 36 by decide), signsT, _, c2, rfl, rfl, hsl, hc2, nm, _, rfl, rfl, le_line (by show nm.length + 1 ≤ 1000; omega), ?_⟩
      refine ⟨_, rfl, _, _, rfl, rfl, (show CDiv _ 36 from ⟨by decide, by decide⟩), rfl, _, _, _, rfl, pre ++ [c0], c2, by rw [Str.cps_append, Array.toList_append, hpre], by rw [List.length_append, hpl]; rfl, fun d hd => ?_, fun d r h => ?_, hm2, fun z => by simp at z⟩
      · rcases List.mem_append.mp hd with z | z
        · exact hps d z
        · rw [List.mem_singleton.mp z]; exact hlast.1
      · cases hpr : pre with
        | nil => rw [hpr] at h; cases h; exact hlast.2 hpr
        | cons d' r' => rw [hpr] at h; rw [← (List.cons.inj h).1]; exact hph d' r' hpr
    rintro σ H3 ⟨rfl, nm, l, z7, rfl, pre, c0, hpre, hpl, hps, hph, hlast⟩
    have hP : PreOk pre := ⟨by omega, hps, hph⟩
    clear hps hph hpl
    have hcz : (cutS signsT none (some 26)).cps.size = 26 := by decide +kernel
    have hcl : (cutS signsT none (some 26)).cps.toList = lts := by decide +kernel
    refine ⟨_, rfl, _, rfl, signsT, rfl, hsl, _, rfl, ?_⟩
    refine for_strI (fun j σ H4 => H4 = H3 ∧ ∃ (nm : Str) (z8 : Option V), σ = [some (.int c), some (.str signsT), some (.ref l0), some (.ref l1), some (.int (0 + (i : Int))), some (.str nm), some (.int l), z7, z8] ∧ (∃ c, nm.cps.toList = pre ++ [c] ∧ LastOk pre c) ∧ (nm ∈ others ++ ns → ∀ k c, k < j → lts[k]? = some c → (⟨(pre ++ [c]).toArray⟩ : Str) ∈ others ++ ns)) ⟨rfl, _, _, rfl, ⟨c0, hpre, hlast⟩, fun _ k c hk => absurd hk (Nat.not_lt_zero k)⟩ ?_ ?_
    · rintro j d σ H4 hj hdj ⟨rfl, nm, z8, rfl, ⟨c9, hc9, hl9⟩, hall⟩
      rw [hcl] at hdj
      have hd := List.mem_of_getElem? hdj
      rw [hcz] at hj
      have hlen : nm.length ≤ 8 := by
        have : nm.cps.toList.length = pre.length + 1 := by rw [hc9, List.length_append]; rfl
        rw [Array.length_toList] at this
        have h2 := hP.len
        have : nm.length = pre.length + 1 := this
        omega
      refine ⟨_, rfl, _, rfl, l1, _, rfl, .inl (SqL.of hL2), rfl, (by rw [List.all_map]; exact List.all_eq_true.mpr fun _ _ => rfl), _, rfl, iteB (fun cin => ?_) (fun cin => ⟨rfl, _, _, rfl, ⟨c9, hc9, hl9⟩, fun z => by
        have z' : inV (.str nm) ((others ++ ns).map V.str) = true := (inV_strs nm _).trans (decide_eq_true z)
        exact absurd (z'.symm.trans cin) (by decide)⟩)⟩
      have hin : nm ∈ others ++ ns := of_decide_eq_true ((inV_strs nm _).symm.trans cin)
      have hcutl : (cutS nm none (some (-1))).length ≤ 8 := by
        have e : (cutS nm none (some (-1))).length ≤ nm.length := by
          show ((nm.cps.toList.drop (HT.sIx nm.length 0 none)).take _).toArray.size ≤ nm.cps.size
          rw [List.size_toArray, List.length_take, List.length_drop, Array.length_toList]
          omega
        omega
      exact ⟨_, rfl, _, rfl, _, rfl, nm, rfl, le_line (by omega), _, rfl, _, _, rfl, rfl, le_line (by show _ + 1 ≤ 1000; omega), rfl, _, _, rfl, ⟨d, by rw [cut_last hc9 d], hlt_sg d hd, fun _ => hd⟩, fun z k c hk hkc => by
        by_cases e : k = j
        · subst e
          rw [hdj] at hkc
          cases hkc
          rw [cut_last hc9 d] at z
          exact z
        · exact hall hin k c (by omega) hkc⟩
    rintro σ H4 ⟨rfl, nm, z8, rfl, ⟨c9, hc9, hl9⟩, hall⟩
    rw [hcz] at hall
    have hfree : ¬ nm ∈ others ++ ns := fun z => free26 (pre := pre) (ns := ns) (by omega) (hall z)
    have hnm : nm = ⟨(pre ++ [c9]).toArray⟩ := by
      obtain ⟨a⟩ := nm
      have : a.toList = pre ++ [c9] := hc9
      rw [← this]
    have hok : isName nm = true := by
      rw [hnm]; refine name_of hP hl9 fun z => ?_
      rw [← hnm] at z
      exact hfree (List.mem_append_left _ (no_sub _ z))
    refine ⟨_, rfl, (.inl ⟨rfl, _, SqL.of hL2⟩), _, rfl, l1, (others ++ ns).map V.str, _, rfl, rfl, hL2, lt_line (by rw [List.length_map, List.length_append]; show 21 + _ ≤ 1000; omega), ?_⟩
    refine ⟨_, rfl, _, _, rfl, rfl, (show CPow 36 7 from ⟨by decide, by decide, by decide⟩), _, _, rfl, rfl, .inl ⟨by decide, by decide⟩, _, _, rfl, rfl, (show CDivB _ _ from ⟨by decide +kernel, by decide +kernel⟩), ?_⟩
    refine ⟨_, ns ++ [nm], _, _, _, _, _, rfl, ?_, ?_, ?_, ?_, ?_⟩
    · exact fun b o hb => by rw [upd_ne (ne_of_none hb hl1)]; exact e2 b o hb
    · rw [upd_same, ← List.append_assoc, List.map_append (l₁ := others ++ ns)]; rfl
    · rw [List.length_append, List.length_singleton]; omega
    · exact List.nodup_append.mpr ⟨hn2, List.pairwise_singleton _ _, fun a ha b hb e => hfree (List.mem_append_right _ (by rw [← List.mem_singleton.mp hb, ← e]; exact ha))⟩
    · intro x hx
      rcases List.mem_append.mp hx with hx | hx
      · exact hx2 x hx
      · rw [List.mem_singleton.mp hx]; exact ⟨hok, fun z => hfree (List.mem_append_left _ z)⟩
  rintro σ H2 ⟨c, ns, z4, z5, z6, z7, z8, rfl, e2, hL2, hl2, hn2, hx2⟩
  refine ⟨_, rfl, _, rfl, l1, _, rfl, SqL.of hL2, fun p hp => ?_⟩
  have hcv : cutV ((others ++ ns).map V.str) (some 21) none = ns.map V.str := by
    have := cut_row (r := others ++ ns) (k := 21)
    have e : (others ++ ns).drop 21 = ns := List.drop_left' (by decide)
    rw [e] at this
    exact this
  rw [hcv]
  exact q p ns _ (e2.trans (same_new hp _)) upd_same hl2 hn2 hx2
theorem scNames : FnScope ["_law_cell", "_law_letters", "_law_head", "_law_number", "_law_k"] ["_law_cell"] (defScope sNames) := ⟨rfl, rfl, rfl, by decide +kernel, rfl, by decide +kernel, by decide +kernel⟩
noncomputable def let8 : Str := "bcdfghjk"
noncomputable def las8 : Str := "pqxyrzms"
theorem let8_lts : ∀ c ∈ let8.cps.toList, c ∈ lts := by decide +kernel
theorem las8_lts : ∀ c ∈ las8.cps.toList, c ∈ lts := by decide +kernel
theorem even_no : ∀ x ∈ others, ¬ ((∀ c ∈ x.cps.toList.dropLast, c ∈ let8.cps.toList) ∧ ∀ c, x.cps.toList.getLast? = some c → c ∈ las8.cps.toList) := by
  intro x hx
  have h : others.all (fun x => !(x.cps.toList.dropLast.all (fun c => decide (c ∈ let8.cps.toList)) && match x.cps.toList.getLast? with | some c => decide (c ∈ las8.cps.toList) | none => true)) = true := by decide +kernel
  have h1 := List.all_eq_true.mp h x hx
  rintro ⟨g1, g2⟩
  have e1 : x.cps.toList.dropLast.all (fun c => decide (c ∈ let8.cps.toList)) = true := List.all_eq_true.mpr fun c hc => decide_eq_true (g1 c hc)
  have e2 : (match x.cps.toList.getLast? with | some c => decide (c ∈ las8.cps.toList) | none => true) = true := by
    cases e : x.cps.toList.getLast? with
    | none => rfl
    | some c => exact decide_eq_true (g2 c e)
  rw [e1, e2] at h1
  cases h1
theorem ok_names (C : Con K mg w) (F : Fun K "_law_names" "_law_names" sNames f fd) (GF : FnOk P w K mg base CX0 1 gF dF ["_law_cell"] spN8) (cF : Cal K mg "_law_free_names" gF dF ["_law_cell"]) : FnOk P w K mg base CX0 2 f fd ["_law_cell"] spN8 := by
  refine F.okQ scNames (fun vs H Q E h => ?_) (fun cdv A outer s0 H vs Q E hr h => ?_)
  · obtain ⟨c, rfl, _⟩ := h; rfl
  obtain ⟨c, rfl, q⟩ := h
  have nd := scNames.nd
  refine ⟨_, qb_cons (qs_set (i := 1) nd rfl (Or.inl rfl) qe_str)
    (qb_cons (qs_if (qt_cmpR op_eq (qe_op op_mod (qv 0) qe_int) qe_int (nomark _)) (qb_one (qs_ret (qe_call GF hr rfl cF.name cF.keep cF.bind .nil pass0 (qa_bop (qe_op op_fdiv (qv 0) qe_int) qa_nil)))) qb_nil)
    (qb_cons (qs_set (i := 2) nd rfl (Or.inr rfl) qe_str)
    (qb_cons (qs_set (i := 3) nd rfl (Or.inl rfl) (qe_op op_fdiv (qv 0) qe_int))
    (qb_cons (qs_for PassesOwn.never rfl (qi_range1 rfl C.range (qa_bop (qe_op op_mod (qe_op op_fdiv (qv 0) qe_int) qe_int) qa_nil)) (qg_name (i := 4) nd rfl (Or.inl rfl)) (qb_cons (qs_set (i := 2) nd rfl (Or.inr rfl) (qe_op op_add_str (qv 2) (qe_ix ix_str (qv 1) (qe_op op_mod (qv 3) qe_int) (fun _ _ => rfl))))
    (qb_one (qs_set (i := 3) nd rfl (Or.inl rfl) (qe_op op_fdiv (qv 3) qe_int)))))
    (qb_one (qs_ret (qe_compG ["_law_sign", "_law_head"] [2] (qi_str qe_str) (fun _ _ _ _ => qts_nil) (fun _ _ _ _ => (qe_op op_add_str (qv 1) (qv 0)))))))))), ?_⟩
  refine ⟨_, rfl, _, _, rfl, rfl, (show (0 : Int) < 2 by decide), rfl, _, rfl, iteB (fun _ => ?_) (fun _ => ?_)⟩
  · exact ⟨_, rfl, _, _, rfl, rfl, (show CDiv _ 2 from ⟨by decide, by decide⟩), c / 2, rfl, q⟩
  refine ⟨_, rfl, _, _, rfl, rfl, (show CDiv _ 2 from ⟨by decide, by decide⟩), ?_⟩
  have m8 := Int.emod_nonneg (c / 2) (show (8 : Int) ≠ 0 by decide)
  have m8' := Int.emod_lt_of_pos (c / 2) (show (0 : Int) < 8 by decide)
  dsimp only [gName]
  refine seq_hide (a := tFor _ _ _) fun D1 hN1 hR1 hC1 => ?_
  refine ⟨_, rfl, _, _, rfl, rfl, (show CDiv _ 2 from ⟨by decide, by decide⟩), _, _, rfl, rfl, (show (0 : Int) < 8 by decide), _, rfl, by omega, by omega, ?_⟩
  have hll : let8.length ≤ sizeLine := by decide +kernel
  have hl8 : let8.cps.toList.length = 8 := by decide +kernel
  refine for_range (lo := 0) (n := (c / 2 % 8).toNat) (fun j σ H3 => H3 = H ∧ ∃ (nm : Str) (l : Int) (z4 : Option V), σ = [some (.int c), some (.str let8), some (.str nm), some (.int l), z4] ∧ nm.length = j ∧ ∀ d ∈ nm.cps.toList, d ∈ let8.cps.toList) ⟨rfl, "", _, none, rfl, by decide +kernel, fun d hd => by
    have : ("" : Str).cps.toList = [] := by decide +kernel
    rw [this] at hd; cases hd⟩ ?_ ?_
  · rintro j σ H3 hj ⟨rfl, nm, l, z4, rfl, hlen, hsg⟩
    obtain ⟨c2, hc2, hm2⟩ := at_mod' (xs := let8.cps.toList) (m := 8) (i := l) hl8 (by decide)
    refine ⟨_, rfl, _, rfl, _, rfl, _, _, rfl, rfl, (show (0 : Int) < 8 by decide), let8, _, c2, rfl, rfl, hll, hc2, nm, _, rfl, rfl, le_line (by show nm.length + 1 ≤ 1000; omega), ?_⟩
    refine ⟨_, rfl, _, _, rfl, rfl, (show CDiv _ 8 from ⟨by decide, by decide⟩), rfl, _, _, _, rfl, ?_, fun d hd => ?_⟩
    · rw [Str.length_append, hlen]; rfl
    · rw [Str.cps_append, Array.toList_append] at hd
      rcases List.mem_append.mp hd with z | z
      · exact hsg d z
      · rw [List.mem_singleton.mp z]; exact hm2
  rintro σ H3 ⟨rfl, nm, l, z4, rfl, hlen, hsg⟩
  refine hN1 _ _ ?_
  have hP : PreOk nm.cps.toList := ⟨by rw [Array.length_toList]; have : nm.cps.size = nm.length := rfl; omega, fun d hd => List.mem_of_mem_take (let8_lts d (hsg d hd)), fun d r h => let8_lts d (hsg d (by rw [h]; exact List.mem_cons_self ..))⟩
  have hnl := hP.len
  have e : ∀ c, nm ++ (⟨#[c]⟩ : Str) = ⟨(nm.cps.toList ++ [c]).toArray⟩ := fun c => by
    have h3 : ∀ a b : Str, a.cps = b.cps → a = b := fun a b e => by cases a; cases b; cases e; rfl
    refine h3 _ _ ?_
    rw [Str.cps_append]
    show nm.cps ++ #[c] = (nm.cps.toList ++ [c]).toArray
    apply Array.toList_inj.mp
    rw [Array.toList_append]
  refine ⟨las8, rfl, ?_⟩
  refine comp_str (signs las8) las8.cps.toList (fun c => nm ++ (⟨#[c]⟩ : Str)) jseq_str trivial (by decide +kernel) (by decide +kernel) (fun i x r hx hr H2 e2 Q' q' => ?_) (fun D H' hD e' hD' => ?_)
  · have hx' : x = .str ⟨#[r]⟩ := by
      unfold signs at hx
      rw [List.getElem?_map, hr] at hx
      exact (Option.some.inj hx).symm
    subst hx'
    refine ⟨_, rfl, _, rfl, nm, _, rfl, rfl, le_line (by show nm.length + 1 ≤ 1000; rw [Array.length_toList] at hnl; have : nm.cps.size = nm.length := rfl; omega), q' H2 (Same.refl _)⟩
  refine q D _ H' e' hD' (by rw [List.length_map]; decide +kernel) ?_ fun x hx => ?_
  · refine List.pairwise_map.mpr (List.Pairwise.imp (fun {a b} hab z => hab ?_) (show las8.cps.toList.Nodup by decide +kernel))
    rw [e, e] at z
    have e2 := congrArg (fun s : Str => s.cps.toList) z
    simpa using e2
  · obtain ⟨c, hc, rfl⟩ := List.mem_map.mp hx
    rw [e c]
    have no : ¬ (⟨(nm.cps.toList ++ [c]).toArray⟩ : Str) ∈ others := fun z => by
      refine even_no _ z ⟨fun d hd => ?_, fun d hd => ?_⟩
      · have hd' : d ∈ (nm.cps.toList ++ [c]).dropLast := hd
        rw [List.dropLast_concat] at hd'
        exact hsg d hd'
      · have hd' : (nm.cps.toList ++ [c]).getLast? = some d := hd
        rw [List.getLast?_concat] at hd'
        cases hd'; exact hc
    exact ⟨name_of hP ⟨List.mem_of_mem_take (las8_lts c hc), fun _ => las8_lts c hc⟩ fun z => no (no_sub _ z), no⟩
end
end K60
namespace K60
open PySem PySem.Spec L2 Mir
noncomputable abbrev sTelling : Stmt := top 29
noncomputable abbrev sCond : Stmt := top 30
noncomputable def wl (xs : List Str) (m : Nat) : List Str := xs.take m ++ [("nil" : Str)]
noncomputable def pk (ws : List Str) (i : Int) : Str := ws.getD (i % (ws.length : Int)).toNat ""
theorem pk_at {ws : List Str} (h : 0 < ws.length) (i : Int) : atI (ws.map V.str) (i % (ws.length : Int)) = some (.str (pk ws i)) := by
  have h1 := Int.emod_nonneg i (show (ws.length : Int) ≠ 0 by omega)
  have h2 := Int.emod_lt_of_pos i (show (0 : Int) < (ws.length : Int) by omega)
  obtain ⟨j, hj⟩ : ∃ j : Nat, i % (ws.length : Int) = (j : Int) := ⟨(i % (ws.length : Int)).toNat, by omega⟩
  unfold pk
  rw [hj, Int.toNat_natCast]
  exact getD_at (by omega)
theorem pk_in {ws : List Str} (h : 0 < ws.length) (i : Int) : pk ws i ∈ ws := by
  have h1 := Int.emod_nonneg i (show (ws.length : Int) ≠ 0 by omega)
  have h2 := Int.emod_lt_of_pos i (show (0 : Int) < (ws.length : Int) by omega)
  have hj : (i % (ws.length : Int)).toNat < ws.length := by omega
  unfold pk
  rw [List.getD_eq_getElem?_getD, List.getElem?_eq_getElem hj]; exact List.getElem_mem hj
noncomputable def isNot (n : Int) : Str := pk ["is", "not"] n
theorem isNot_or (n : Int) : isNot n = "is" ∨ isNot n = "not" := by
  have := pk_in (ws := ["is", "not"]) (by decide) n
  simpa [isNot] using this
noncomputable def factF (c : Int) (ws : List Str) (k : Nat) : List Str := [isNot (mixF c k), pk ws (mixF c k / 2), pk ws (mixF c k / 20)]
noncomputable def partF (c : Int) (ws : List Str) (k : Nat) : List Str :=
  ([["cell", pk ws (mixF c (5 + k) / 3), "any", pk ws (mixF c (5 + k) / 30)], ["stretch", pk ws (mixF c (5 + k) / 3), pk ws (mixF c (5 + k) / 30)], ["tree", pk ws (mixF c (5 + k) / 3)]] : List (List Str)).getD (mixF c (5 + k) % 3).toNat []
noncomputable def factsF (c : Int) (ws : List Str) : List (List Str) := (List.range (c % 3).toNat).map (factF c ws)
noncomputable def partsF (c : Int) (ws : List Str) : List (List Str) := (List.range (c / 3 % 3).toNat).map (partF c ws)
noncomputable def condF (c : Int) (xs : List Str) : List Str := [isNot (mixF c 9), pk (wl xs 6) (mixF c 9 / 2), pk (wl xs 6) (mixF c 9 / 14)]
inductive spTelling (K : PySem.W.Frag) (vs : List V) (H : Hp) (Q : VK) (E : XK) : Prop
  | mk (c : Int) (l : Addr) (xs : List Str) (m : Nat) (h0 : vs = [.int c, .ref l, .int (m : Int)]) (h1 : H l = some (.lst (xs.map V.str))) (h2 : xs.length = 8) (h3 : m ≤ 6)
      (q : ∀ tt fa pa H', Same H H' → H fa = none → H pa = none → H' tt = some (.tup [.ref fa, .ref pa]) → RowsAt K H' fa (factsF c (wl xs m)) → RowsAt K H' pa (partsF c (wl xs m)) → Q (.ref tt) H') : spTelling K vs H Q E
inductive spCond (K : PySem.W.Frag) (vs : List V) (H : Hp) (Q : VK) (E : XK) : Prop
  | mk (c : Int) (l : Addr) (xs : List Str) (h0 : vs = [.int c, .ref l]) (h1 : H l = some (.lst (xs.map V.str))) (h2 : xs.length = 8)
      (q : ∀ t H', Same H H' → H' t = some (.tup ((condF c xs).map V.str)) → Q (.ref t) H') : spCond K vs H Q E
theorem cut_takeS (xs : List Str) (n : Nat) : cutV (xs.map V.str) none (some (n : Int)) = (xs.take n).map V.str := by
  unfold cutV
  rw [HT.sIx_nat, show HT.sIx (xs.map V.str).length 0 none = 0 from rfl, List.drop_zero, Nat.sub_zero, List.length_map, ← List.map_take]
  by_cases h : n ≤ xs.length
  · rw [Nat.min_eq_left h]
  · rw [Nat.min_eq_right (by omega), List.take_length, List.take_of_length_le (by omega)]
section
variable {P : Program} {w : World} {K : PySem.W.Frag} {mg : Str → Option Value} {base : Heap} {f gM : Addr} {fd dM : FuncData}
theorem scCond : FnScope ["_law_cell", "_law_n", "_law_words", "_law_number"] ["_law_cell", "_law_n"] (defScope sCond) := ⟨rfl, rfl, rfl, by decide +kernel, rfl, by decide +kernel, by decide +kernel⟩
theorem ok_cond (C : Con K mg w) (F : Fun K "_law_condition" "_law_condition" sCond f fd) (GM : FnOk P w K mg base CX0 1 gM dM ["_law_cell", "_law_k"] spMixed) (cM : Cal K mg "_law_mixed" gM dM ["_law_cell", "_law_k"]) : FnOk P w K mg base CX0 2 f fd ["_law_cell", "_law_n"] (spCond K) := by
  refine F.okQ scCond (fun vs H Q E h => ?_) (fun cdv A outer s0 H vs Q E hr h => ?_)
  · obtain ⟨c, l, xs, rfl, _⟩ := h; rfl
  obtain ⟨c, l, xs, rfl, hl, h8, q⟩ := h
  have nd := scCond.nd
  refine ⟨_, qb_cons (qs_set (i := 2) nd rfl (Or.inl rfl) (qe_op op_cat (qe_slice sl_list (qv 1) qo_none (qo_some qe_int)) (qe_lst (qa_str qa_nil))))
    (qb_cons (qs_set (i := 3) nd rfl (Or.inl rfl) (qe_call GM hr rfl cM.name cM.keep cM.bind .nil pass0 (qa_nm (qv 0) (qa_int qa_nil))))
    (qb_one (qs_ret (qe_tup (qa_sub (qe_ix ix_list (qe_lst (qa_str (qa_str qa_nil))) (qe_op op_mod (qv 3) qe_int) (fun _ _ => rfl)) (qa_sub (qe_ix ix_list (qv 2) (qe_op op_mod (qe_op op_fdiv (qv 3) qe_int) qe_int) (fun _ _ => rfl)) (qa_sub (qe_ix ix_list (qv 2) (qe_op op_mod (qe_op op_fdiv (qv 3) qe_int) qe_int) (fun _ _ => rfl)) qa_nil))))))), ?_⟩
  refine ⟨_, rfl, _, rfl, l, _, rfl, SqL.of hl, fun l1 hl1 => ?_⟩
  rw [show cutV (xs.map V.str) none (some (6 : Int)) = (xs.take 6).map V.str from cut_takeS xs 6]
  have s1 := same_new hl1 (.lst ((xs.take 6).map V.str))
  have k1 : (upd H l1 (.lst ((xs.take 6).map V.str))) l1 = some (.lst ((xs.take 6).map V.str)) := upd_same
  generalize upd H l1 (.lst ((xs.take 6).map V.str)) = H1 at s1 k1 ⊢
  refine ⟨(show 1 ≤ sizeLine by decide), fun l2 hl2 => ?_⟩
  have s2 := same_new hl2 (.lst [.str "nil"])
  have hws : (wl xs 6).length = 7 := by unfold wl; rw [List.length_append, List.length_take, h8]; rfl
  refine ⟨l1, l2, _, _, rfl, rfl, s2 _ _ k1, upd_same, le_line (by rw [List.length_map, List.length_take]; show _ + 1 ≤ 1000; omega), fun l3 hl3 => ?_⟩
  have s3' := same_new hl3 (.lst ((xs.take 6).map V.str ++ [.str "nil"]))
  have k3 : (upd (upd H1 l2 (.lst [.str "nil"])) l3 (.lst ((xs.take 6).map V.str ++ [.str "nil"]))) l3 = some (.lst ((wl xs 6).map V.str)) := by unfold wl; rw [upd_same, List.map_append]; rfl
  have s3 := (s1.trans s2).trans s3'
  generalize upd (upd H1 l2 (.lst [.str "nil"])) l3 (.lst ((xs.take 6).map V.str ++ [.str "nil"])) = H3 at s3 k3 ⊢
  have hc : condF c xs = [isNot (mixF c 9), pk (wl xs 6) (mixF c 9 / 2), pk (wl xs 6) (mixF c 9 / 14)] := rfl
  rw [hc] at q
  generalize wl xs 6 = ws at k3 hws q
  refine ⟨_, rfl, c, 9, rfl, by decide, ?_⟩
  generalize mixF c 9 = m at q
  have at7 : ∀ i : Int, atI (ws.map V.str) (i % 7) = some (.str (pk ws i)) := fun i => by
    have := pk_at (ws := ws) (by omega) i
    rw [hws] at this; exact this
  refine ⟨(show 2 ≤ sizeLine by decide), fun l4 hl4 => ?_⟩
  have s4 := same_new hl4 (.lst [.str "is", .str "not"])
  have k4 : (upd H3 l4 (.lst [.str "is", .str "not"])) l4 = some (.lst (([("is" : Str), "not"] : List Str).map V.str)) := upd_same
  generalize upd H3 l4 (.lst [.str "is", .str "not"]) = H4 at s4 k4 ⊢
  have k34 := s4 _ _ k3
  refine ⟨_, rfl, _, _, rfl, rfl, (show (0 : Int) < 2 by decide), l4, _, _, _, rfl, rfl, SqL.of k4, pk_at (ws := [("is" : Str), "not"]) (by decide) m, ?_⟩
  refine ⟨_, rfl, _, rfl, _, _, rfl, rfl, (show CDiv _ 2 from ⟨by decide, by decide⟩), _, _, rfl, rfl, (show (0 : Int) < 7 by decide), l3, _, _, _, rfl, rfl, SqL.of k34, at7 _, ?_⟩
  refine ⟨_, rfl, _, rfl, _, _, rfl, rfl, (show CDiv _ 14 from ⟨by decide, by decide⟩), _, _, rfl, rfl, (show (0 : Int) < 7 by decide), l3, _, _, _, rfl, rfl, SqL.of k34, at7 _, (show 3 ≤ sizeLine by decide), fun t ht => ?_⟩
  exact q t _ ((s3.trans s4).trans (same_new ht _)) upd_same
theorem scTelling : FnScope ["_law_cell", "_law_n", "_law_many", "_law_words", "_law_facts", "_law_k", "_law_number", "_law_parts", "_law_one", "_law_other"] ["_law_cell", "_law_n", "_law_many"] (defScope sTelling) := ⟨rfl, rfl, rfl, by decide +kernel, rfl, by decide +kernel, by decide +kernel⟩
theorem ok_telling (C : Con K mg w) (F : Fun K "_law_telling" "_law_telling" sTelling f fd) (GM : FnOk P w K mg base CX0 1 gM dM ["_law_cell", "_law_k"] spMixed) (cM : Cal K mg "_law_mixed" gM dM ["_law_cell", "_law_k"]) : FnOk P w K mg base CX0 2 f fd ["_law_cell", "_law_n", "_law_many"] (spTelling K) := by
  refine F.okQ scTelling (fun vs H Q E h => ?_) (fun cdv A outer s0 H vs Q E hr h => ?_)
  · obtain ⟨c, l, xs, m, rfl, _⟩ := h; rfl
  obtain ⟨c, l, xs, m, rfl, hl, h8, hm, q⟩ := h
  have nd := scTelling.nd
  refine ⟨_, qb_cons (qs_set (i := 3) nd rfl (Or.inl rfl) (qe_op op_cat (qe_slice sl_list (qv 1) qo_none (qo_some (qv 2))) (qe_lst (qa_str qa_nil))))
    (qb_cons (qs_set (i := 4) nd rfl (Or.inl rfl) (qe_lst qa_nil))
    (qb_cons (qs_for PassesOwn.never rfl (qi_range1 rfl C.range (qa_bop (qe_op op_mod (qv 0) qe_int) qa_nil)) (qg_name (i := 5) nd rfl (Or.inl rfl)) (qb_cons (qs_set (i := 6) nd rfl (Or.inl rfl) (qe_call GM hr rfl cM.name cM.keep cM.bind .nil pass0 (qa_nm (qv 0) (qa_nm (qv 5) qa_nil))))
    (qb_one (qs_expr (qe_bmK (K := K) rfl PySem.F.plainAttrs_list PySem.F.slot_list_append PySem.F.type_list_append mt_append (qv 4) (qa_tp (qa_sub (qe_ix ix_list (qe_lst (qa_str (qa_str qa_nil))) (qe_op op_mod (qv 6) qe_int) (fun _ _ => rfl)) (qa_sub (qe_ix ix_list (qv 3) (qe_op op_mod (qe_op op_fdiv (qv 6) qe_int) (qe_callB call_len_seq rfl C.len PySem.boot_len (qa_nm (qv 3) qa_nil))) (fun _ _ => rfl)) (qa_sub (qe_ix ix_list (qv 3) (qe_op op_mod (qe_op op_fdiv (qv 6) qe_int) (qe_callB call_len_seq rfl C.len PySem.boot_len (qa_nm (qv 3) qa_nil))) (fun _ _ => rfl)) qa_nil))) qa_nil))))))
    (qb_cons (qs_set (i := 7) nd rfl (Or.inl rfl) (qe_lst qa_nil))
    (qb_cons (qs_for PassesOwn.never rfl (qi_range1 rfl C.range (qa_bop (qe_op op_mod (qe_op op_fdiv (qv 0) qe_int) qe_int) qa_nil)) (qg_name (i := 5) nd rfl (Or.inl rfl)) (qb_cons (qs_set (i := 6) nd rfl (Or.inl rfl) (qe_call GM hr rfl cM.name cM.keep cM.bind .nil pass0 (qa_nm (qv 0) (qa_bop (qe_op op_add qe_int (qv 5)) qa_nil))))
    (qb_cons (qs_set (i := 8) nd rfl (Or.inl rfl) (qe_ix ix_list (qv 3) (qe_op op_mod (qe_op op_fdiv (qv 6) qe_int) (qe_callB call_len_seq rfl C.len PySem.boot_len (qa_nm (qv 3) qa_nil))) (fun _ _ => rfl)))
    (qb_cons (qs_set (i := 9) nd rfl (Or.inl rfl) (qe_ix ix_list (qv 3) (qe_op op_mod (qe_op op_fdiv (qv 6) qe_int) (qe_callB call_len_seq rfl C.len PySem.boot_len (qa_nm (qv 3) qa_nil))) (fun _ _ => rfl)))
    (qb_one (qs_expr (qe_bmK (K := K) rfl PySem.F.plainAttrs_list PySem.F.slot_list_append PySem.F.type_list_append mt_append (qv 7) (qa_sub (qe_ix ix_list (qe_lst (qa_tp (qa_str (qa_nm (qv 8) (qa_str (qa_nm (qv 9) qa_nil)))) (qa_tp (qa_str (qa_nm (qv 8) (qa_nm (qv 9) qa_nil))) (qa_tp (qa_str (qa_nm (qv 8) qa_nil)) qa_nil)))) (qe_op op_mod (qv 6) qe_int) (fun _ _ => rfl)) qa_nil))))))))
    (qb_one (qs_ret (qe_tup (qa_nm (qv 4) (qa_nm (qv 7) qa_nil))))))))), ?_⟩
  refine ⟨_, rfl, _, rfl, _, rfl, l, _, rfl, SqL.of hl, fun l1 hl1 => ?_⟩
  rw [cut_takeS xs m]
  have s1 := same_new hl1 (.lst ((xs.take m).map V.str))
  have k1 : (upd H l1 (.lst ((xs.take m).map V.str))) l1 = some (.lst ((xs.take m).map V.str)) := upd_same
  generalize upd H l1 (.lst ((xs.take m).map V.str)) = H1 at s1 k1 ⊢
  refine ⟨(show 1 ≤ sizeLine by decide), fun l2 hl2 => ?_⟩
  have s2 := same_new hl2 (.lst [.str "nil"])
  have hws : 0 < (wl xs m).length ∧ (wl xs m).length ≤ 9 := by unfold wl; rw [List.length_append, List.length_take, h8]; show 0 < _ + 1 ∧ _ + 1 ≤ 9; omega
  refine ⟨l1, l2, _, _, rfl, rfl, s2 _ _ k1, upd_same, le_line (by rw [List.length_map, List.length_take]; show _ + 1 ≤ 1000; omega), fun lw hlw => ?_⟩
  have s3' := same_new hlw (.lst ((xs.take m).map V.str ++ [.str "nil"]))
  have k3 : (upd (upd H1 l2 (.lst [.str "nil"])) lw (.lst ((xs.take m).map V.str ++ [.str "nil"]))) lw = some (.lst ((wl xs m).map V.str)) := by unfold wl; rw [upd_same, List.map_append]; rfl
  have s3 := (s1.trans s2).trans s3'
  generalize upd (upd H1 l2 (.lst [.str "nil"])) lw (.lst ((xs.take m).map V.str ++ [.str "nil"])) = H3 at s3 k3 ⊢
  clear s1 s2 s3' k1 hl1 hl2 hlw
  generalize wl xs m = ws at k3 hws q
  have wat : ∀ i : Int, atI (ws.map V.str) (i % ((ws.map V.str).length : Int)) = some (.str (pk ws i)) := fun i => by rw [List.length_map]; exact pk_at hws.1 i
  have wpos : (0 : Int) < ((ws.map V.str).length : Int) := by rw [List.length_map]; omega
  refine ⟨Nat.zero_le _, fun fa hfa => ?_⟩
  have s4' := same_new hfa (.lst [])
  have k4 : (upd H3 fa (.lst [])) fa = some (.lst []) := upd_same
  have hfa0 : H fa = none := s3.free hfa
  have nfw : lw ≠ fa := ne_of_none k3 hfa
  generalize upd H3 fa (.lst []) = H4 at s4' k4 ⊢
  have s4 := s3.trans s4'
  have k34 := s4' _ _ k3
  dsimp only [gName]
  refine seq_hide (a := tFor _ _ _) fun D1 hN1 hR1 hC1 => ?_
  have m3 := Int.emod_nonneg c (show (3 : Int) ≠ 0 by decide)
  have m3' := Int.emod_lt_of_pos c (show (0 : Int) < 3 by decide)
  refine ⟨_, rfl, _, _, rfl, rfl, (show (0 : Int) < 3 by decide), _, rfl, by omega, by omega, ?_⟩
  refine for_range (lo := 0) (n := (c % 3).toNat) (fun i σ H5 => ∃ (as : List Addr) (z5 z6 : Option V), σ = [some (.int c), some (.ref l), some (.int (m : Int)), some (.ref lw), some (.ref fa), z5, z6, none, none, none] ∧ Same H H5 ∧ H5 lw = some (.lst (ws.map V.str)) ∧ H5 fa = some (.lst (as.map V.ref)) ∧ Paired (fun b r => RowAt K H5 b r) as ((List.range i).map (factF c ws)) ∧ as.length = i) ⟨[], none, none, rfl, s4, k34, k4, .nil, rfl⟩ ?_ ?_
  · rintro i σ H5 hi ⟨as, z5, z6, rfl, e5, hw5, hf5, hp5, hl5⟩
    rw [Int.zero_add]
    refine ⟨_, rfl, _, rfl, c, i, rfl, by omega, ?_⟩
    have hfF : factF c ws i = [pk [("is" : Str), "not"] (mixF c i), pk ws (mixF c i / 2), pk ws (mixF c i / 20)] := rfl
    dsimp only [gName]
    generalize mixF c i = n at hfF
    refine ⟨_, rfl, (.inl ⟨rfl, _, SqL.of hf5⟩), (show 2 ≤ sizeLine by decide), fun l6 hl6 => ?_⟩
    have s6 := same_new hl6 (.lst [.str "is", .str "not"])
    have k6 : (upd H5 l6 (.lst [.str "is", .str "not"])) l6 = some (.lst (([("is" : Str), "not"] : List Str).map V.str)) := upd_same
    generalize upd H5 l6 (.lst [.str "is", .str "not"]) = H6 at s6 k6 ⊢
    have hw6 := s6 _ _ hw5
    refine ⟨_, rfl, _, _, rfl, rfl, (show (0 : Int) < 2 by decide), l6, _, _, _, rfl, rfl, SqL.of k6, pk_at (ws := [("is" : Str), "not"]) (by decide) n, ?_⟩
    refine ⟨_, rfl, _, rfl, _, _, rfl, rfl, (show CDiv _ 2 from ⟨by decide, by decide⟩), _, rfl, lw, _, rfl, .inl (SqL.of hw6), _, _, rfl, rfl, wpos, lw, _, _, _, rfl, rfl, SqL.of hw6, wat _, ?_⟩
    refine ⟨_, rfl, _, rfl, _, _, rfl, rfl, (show CDiv _ 20 from ⟨by decide, by decide⟩), _, rfl, lw, _, rfl, .inl (SqL.of hw6), _, _, rfl, rfl, wpos, lw, _, _, _, rfl, rfl, SqL.of hw6, wat _, (show 3 ≤ sizeLine by decide), fun t ht => ?_⟩
    have s7' := same_new ht (.tup [.str (pk [("is" : Str), "not"] n), .str (pk ws (n / 2)), .str (pk ws (n / 20))])
    have k7 : (upd H6 t (.tup [.str (pk [("is" : Str), "not"] n), .str (pk ws (n / 2)), .str (pk ws (n / 20))])) t = some (.tup ((factF c ws i).map V.str)) := by rw [upd_same, hfF]; rfl
    generalize upd H6 t (.tup [.str (pk [("is" : Str), "not"] n), .str (pk ws (n / 2)), .str (pk ws (n / 20))]) = H7 at s7' k7 ⊢
    have s7 := s6.trans s7'
    have hf7 := s7 _ _ hf5
    refine ⟨fa, _, _, rfl, rfl, hf7, lt_line (by rw [List.length_map]; omega), ?_⟩
    refine ⟨as ++ [t], _, _, rfl, fun b o z => by rw [upd_ne (ne_of_none z hfa0)]; exact s7 _ _ (e5 _ _ z), by rw [upd_ne nfw]; exact s7 _ _ hw5, by rw [upd_same, List.map_append]; rfl, ?_, by rw [List.length_append, hl5]; rfl⟩
    rw [List.range_succ, List.map_append]
    exact Paired.snocP (Paired.mapP hp5 fun _ _ z => sq_put hf7 (RowAt.same z s7)) (sq_put hf7 (SqT.of k7))
  rintro σ H5 ⟨as, z5, z6, rfl, e5, hw5, hf5, hp5, hl5⟩
  refine hN1 _ _ ?_
  clear hN1 hR1 hC1
  refine ⟨Nat.zero_le _, fun pa hpa => ?_⟩
  have s8' := same_new hpa (.lst [])
  have k8 : (upd H5 pa (.lst [])) pa = some (.lst []) := upd_same
  have hpa0 : H pa = none := e5.free hpa
  have npw : lw ≠ pa := ne_of_none hw5 hpa
  have npf : fa ≠ pa := ne_of_none hf5 hpa
  generalize upd H5 pa (.lst []) = H8 at s8' k8 ⊢
  have s8 := e5.trans s8'
  dsimp only [gName]
  refine seq_hide (a := tFor _ _ _) fun D1 hN1 hR1 hC1 => ?_
  have n3 := Int.emod_nonneg (c / 3) (show (3 : Int) ≠ 0 by decide)
  have n3' := Int.emod_lt_of_pos (c / 3) (show (0 : Int) < 3 by decide)
  refine ⟨_, rfl, _, _, rfl, rfl, (show CDiv _ 3 from ⟨by decide, by decide⟩), _, _, rfl, rfl, (show (0 : Int) < 3 by decide), _, rfl, by omega, by omega, ?_⟩
  refine for_range (lo := 0) (n := (c / 3 % 3).toNat) (fun i σ H9 => ∃ (bs : List Addr) (z5 z6 z8 z9 : Option V), σ = [some (.int c), some (.ref l), some (.int (m : Int)), some (.ref lw), some (.ref fa), z5, z6, some (.ref pa), z8, z9] ∧ Same H H9 ∧ H9 lw = some (.lst (ws.map V.str)) ∧ RowsAt K H9 fa (factsF c ws) ∧ H9 pa = some (.lst (bs.map V.ref)) ∧ Paired (fun b r => RowAt K H9 b r) bs ((List.range i).map (partF c ws)) ∧ bs.length = i) ⟨[], z5, z6, none, none, rfl, s8, s8' _ _ hw5, ⟨as, s8' _ _ hf5, Paired.mapP hp5 fun _ _ z => RowAt.same z s8'⟩, k8, .nil, rfl⟩ ?_ ?_
  · rintro i σ H9 hi ⟨bs, y5, y6, y8, y9, rfl, e9, hw9, hF9, hf9, hp9, hl9⟩
    rw [Int.zero_add]
    refine ⟨_, rfl, _, rfl, _, _, rfl, rfl, c, 5 + i, (by rw [show ((5 + i : Nat) : Int) = 5 + (i : Int) by omega]; rfl), by omega, ?_⟩
    have hpF : partF c ws i = ([["cell", pk ws (mixF c (5 + i) / 3), "any", pk ws (mixF c (5 + i) / 30)], ["stretch", pk ws (mixF c (5 + i) / 3), pk ws (mixF c (5 + i) / 30)], ["tree", pk ws (mixF c (5 + i) / 3)]] : List (List Str)).getD (mixF c (5 + i) % 3).toNat [] := rfl
    dsimp only [gName]
    generalize mixF c (5 + i) = n at hpF
    refine ⟨_, rfl, _, rfl, _, _, rfl, rfl, (show CDiv _ 3 from ⟨by decide, by decide⟩), _, rfl, lw, _, rfl, .inl (SqL.of hw9), _, _, rfl, rfl, wpos, lw, _, _, _, rfl, rfl, SqL.of hw9, wat _, ?_⟩
    refine ⟨_, rfl, _, rfl, _, _, rfl, rfl, (show CDiv _ 30 from ⟨by decide, by decide⟩), _, rfl, lw, _, rfl, .inl (SqL.of hw9), _, _, rfl, rfl, wpos, lw, _, _, _, rfl, rfl, SqL.of hw9, wat _, ?_⟩
    dsimp only [gName]
    generalize pk ws (n / 3) = one at hpF
    generalize pk ws (n / 30) = oth at hpF
    refine ⟨_, rfl, (.inl ⟨rfl, _, SqL.of hf9⟩), _, rfl, _, rfl, (show 4 ≤ sizeLine by decide), fun t1 ht1 => ?_⟩
    have s1 := same_new ht1 (.tup [.str "cell", .str one, .str "any", .str oth])
    have j1 : (upd H9 t1 (.tup [.str "cell", .str one, .str "any", .str oth])) t1 = some (.tup (([("cell" : Str), one, "any", oth] : List Str).map V.str)) := upd_same
    generalize upd H9 t1 (.tup [.str "cell", .str one, .str "any", .str oth]) = G1 at s1 j1 ⊢
    refine ⟨_, rfl, _, rfl, (show 3 ≤ sizeLine by decide), fun t2 ht2 => ?_⟩
    have s2 := same_new ht2 (.tup [.str "stretch", .str one, .str oth])
    have j2 : (upd G1 t2 (.tup [.str "stretch", .str one, .str oth])) t2 = some (.tup (([("stretch" : Str), one, oth] : List Str).map V.str)) := upd_same
    generalize upd G1 t2 (.tup [.str "stretch", .str one, .str oth]) = G2 at s2 j2 ⊢
    refine ⟨_, rfl, (show 2 ≤ sizeLine by decide), fun t3 ht3 => ?_⟩
    have s3 := same_new ht3 (.tup [.str "tree", .str one])
    have j3 : (upd G2 t3 (.tup [.str "tree", .str one])) t3 = some (.tup (([("tree" : Str), one] : List Str).map V.str)) := upd_same
    generalize upd G2 t3 (.tup [.str "tree", .str one]) = G3 at s3 j3 ⊢
    refine ⟨(show 3 ≤ sizeLine by decide), fun l4 hl4 => ?_⟩
    have s4 := same_new hl4 (.lst ([t1, t2, t3].map V.ref))
    have j4 : (upd G3 l4 (.lst ([t1, t2, t3].map V.ref))) l4 = some (.lst ([t1, t2, t3].map V.ref)) := upd_same
    change tOp _ _ _ _ (upd G3 l4 (.lst ([t1, t2, t3].map V.ref))) _
    generalize upd G3 l4 (.lst ([t1, t2, t3].map V.ref)) = G4 at s4 j4 ⊢
    have a3 := Int.emod_nonneg n (show (3 : Int) ≠ 0 by decide)
    have a3' := Int.emod_lt_of_pos n (show (0 : Int) < 3 by decide)
    obtain ⟨tt, htt, hrow⟩ : ∃ tt, atI ([t1, t2, t3].map V.ref) (n % 3) = some (.ref tt) ∧ RowAt K G4 tt (partF c ws i) := by
      have : n % 3 = 0 ∨ n % 3 = 1 ∨ n % 3 = 2 := by omega
      rw [hpF]
      rcases this with z | z | z <;> rw [z]
      · exact ⟨t1, rfl, SqT.of (s4 _ _ (s3 _ _ (s2 _ _ j1)))⟩
      · exact ⟨t2, rfl, SqT.of (s4 _ _ (s3 _ _ j2))⟩
      · exact ⟨t3, rfl, SqT.of (s4 _ _ j3)⟩
    have g4 := ((s1.trans s2).trans s3).trans s4
    have hf4 := g4 _ _ hf9
    refine ⟨_, rfl, _, _, rfl, rfl, (show (0 : Int) < 3 by decide), l4, _, _, _, rfl, rfl, SqL.of j4, htt, pa, _, _, rfl, rfl, hf4, lt_line (by rw [List.length_map]; omega), ?_⟩
    obtain ⟨as9, hF91, hF92⟩ := hF9
    refine ⟨bs ++ [tt], _, _, _, _, rfl, fun b o z => by rw [upd_ne (ne_of_none z hpa0)]; exact g4 _ _ (e9 _ _ z), by rw [upd_ne npw]; exact g4 _ _ hw9, ⟨as9, by rw [upd_ne npf]; exact g4 _ _ hF91, Paired.mapP hF92 fun _ _ z => sq_put hf4 (RowAt.same z g4)⟩, by rw [upd_same, List.map_append]; rfl, ?_, by rw [List.length_append, hl9]; rfl⟩
    rw [List.range_succ, List.map_append]
    exact Paired.snocP (Paired.mapP hp9 fun _ _ z => sq_put hf4 (RowAt.same z g4)) (sq_put hf4 hrow)
  rintro σ H9 ⟨bs, y5, y6, y8, y9, rfl, e9, hw9, hF9, hf9, hp9, hl9⟩
  refine hN1 _ _ ⟨_, rfl, _, rfl, (show 2 ≤ sizeLine by decide), fun tt htt => ?_⟩
  have sA := same_new htt (.tup [.ref fa, .ref pa])
  exact q tt fa pa _ (e9.trans sA) hfa0 hpa0 upd_same (hF9.same sA) ⟨bs, sA _ _ hf9, Paired.mapP hp9 fun _ _ z => RowAt.same z sA⟩
end
end K60
namespace L2
open PySem PySem.Spec
open Classical in
noncomputable def rm (X : Addr → Prop) (H : Hp) : Hp := fun c => if X c then none else H c
variable {X X' : Addr → Prop} {H H' : Hp}
theorem rm_at {c : Addr} (h : ¬ X c) : rm X H c = H c := by unfold rm; rw [if_neg h]
theorem rm_some {c : Addr} {o : HO} (h : rm X H c = some o) : ¬ X c ∧ H c = some o := by
  unfold rm at h
  by_cases z : X c
  · rw [if_pos z] at h; cases h
  · rw [if_neg z] at h; exact ⟨z, h⟩
theorem rm_back : Same (rm X H) H := fun _ _ h => (rm_some h).2
theorem rm_same (e : Same H H') : Same (rm X H) (rm X H') := fun b o h => by
  obtain ⟨h1, h2⟩ := rm_some h
  rw [rm_at h1]; exact e _ _ h2
theorem rm_sub (h : ∀ c, X c → X' c) : Same (rm X' H) (rm X H) := fun b o z => by
  obtain ⟨h1, h2⟩ := rm_some z
  rw [rm_at (fun y => h1 (h _ y))]; exact h2
theorem rm_upd {a : Addr} {o : HO} (h : X a) : rm X (upd H a o) = rm X H := by
  funext c
  by_cases z : X c
  · unfold rm; rw [if_pos z, if_pos z]
  · rw [rm_at z, rm_at z, upd_ne (fun y => z (by rw [y]; exact h))]
end L2
namespace K60
open PySem PySem.Spec L2 Mir
abbrev B (m : Nat) : List Nat := List.replicate m 30
inductive Hole
  | w (r : List Str) (F P : List (List Str))
  | i1 (r : List Str) (o : List Deed)
  | i2 (r : List Str) (o : List Deed)
noncomputable def Hole.fill : Hole → List Deed → Deed
  | .w r F P, a => .loop r F P a
  | .i1 r o, a => .cond r a o
  | .i2 r o, a => .cond r o a
structure Zp where
  cur : List Deed
  up : List (List Deed × Hole)
noncomputable def closeU : List Deed → List (List Deed × Hole) → List Deed
  | cur, [] => cur
  | cur, (b, h) :: up => closeU (b ++ [h.fill cur]) up
noncomputable def setD (a b : Str) : Deed := .plain (.row ["set", a, b])
noncomputable def nx (xs : List Str) (i : Nat) : Str := xs.getD i ""
noncomputable def stepZ (xs : List Str) (z : Zp) (c : Int) : Zp :=
  match z with
  | ⟨cur, up⟩ =>
    if c % 6 = 5 ∧ 0 < up.length then (match up with | (b, h) :: up' => ⟨b ++ [h.fill cur], up'⟩ | [] => ⟨cur, up⟩)
    else if c % 6 < 2 ∧ up.length < 4 then ⟨[], (cur, .w (condF c xs) (factsF (c / 6) (wl xs 6)) (partsF (c / 6) (wl xs 6))) :: up⟩
    else if c % 6 = 2 ∧ up.length < 4 then ⟨[], (cur, if c / 12 % 2 = 0 then .i1 (condF c xs) (List.replicate (c / 6 % 2).toNat (setD (nx xs 3) (nx xs 0))) else .i2 (condF c xs) (List.replicate (c / 6 % 2).toNat (setD (nx xs 3) (nx xs 0)))) :: up⟩
    else ⟨cur ++ [setD (nx xs (2 + c / 6 % 3).toNat) (nx xs (c / 18 % 6).toNat)], up⟩
noncomputable def bodyZ (xs : List Str) (cs : List Int) : Zp := cs.foldl (stepZ xs) ⟨[], []⟩
noncomputable def bodyF (xs : List Str) (cs : List Int) : List Deed := closeU (bodyZ xs cs).cur (bodyZ xs cs).up
inductive HoleAt (K : PySem.W.Frag) (G : Hp) (L : Addr → List Deed → Prop) (t c : Addr) : Hole → Prop
  | w (cd td fa pa : Addr) (r : List Str) (F P : List (List Str)) (h : G t = some (.tup [.str "while", .ref cd, .ref td, .ref c])) (hc : G cd = some (.tup (r.map V.str))) (okr : ∀ y ∈ r, Ok y) (htd : G td = some (.tup [.ref fa, .ref pa])) (hF : RowsAt K G fa F) (hP : RowsAt K G pa P) (okF : ∀ r ∈ F, ∀ y ∈ r, Ok y) (okP : ∀ r ∈ P, ∀ y ∈ r, Ok y) (lF : F.length ≤ 10) (lP : P.length ≤ 10) : HoleAt K G L t c (.w r F P)
  | i1 (cd o : Addr) (r : List Str) (od : List Deed) (h : G t = some (.tup [.str "if", .ref cd, .ref c, .ref o])) (hc : G cd = some (.tup (r.map V.str))) (okr : ∀ y ∈ r, Ok y) (ho : L o od) : HoleAt K G L t c (.i1 r od)
  | i2 (cd o : Addr) (r : List Str) (od : List Deed) (h : G t = some (.tup [.str "if", .ref cd, .ref o, .ref c])) (hc : G cd = some (.tup (r.map V.str))) (okr : ∀ y ∈ r, Ok y) (ho : L o od) : HoleAt K G L t c (.i2 r od)
theorem HoleAt.fill {K : PySem.W.Frag} {G : Hp} {L : Addr → List Deed → Prop} {t c : Addr} {h : Hole} {a : List Deed} (x : HoleAt K G L t c h) (hc : L c a) : DeedX K G L t (h.fill a) := by
  cases x with
  | w cd td fa pa r F P h h2 okr htd hF hP okF okP lF lP => exact .loop cd td c fa pa r F P a h h2 okr htd hF hP okF okP lF lP hc
  | i1 cd o r od h h2 okr ho => exact .cond cd c o r a od h h2 okr hc ho
  | i2 cd o r od h h2 okr ho => exact .cond cd o c r od a h h2 okr ho hc
theorem HoleAt.same {K : PySem.W.Frag} {G G' : Hp} {L L' : Addr → List Deed → Prop} {t c : Addr} {h : Hole} (x : HoleAt K G L t c h) (e : Same G G') (hL : ∀ l ds, L l ds → L' l ds) : HoleAt K G' L' t c h := by
  cases x with
  | w cd td fa pa r F P h h2 okr htd hF hP okF okP lF lP => exact .w cd td fa pa r F P (e _ _ h) (e _ _ h2) okr (e _ _ htd) (hF.same e) (hP.same e) okF okP lF lP
  | i1 cd o r od h h2 okr ho => exact .i1 cd o r od (e _ _ h) (e _ _ h2) okr (hL _ _ ho)
  | i2 cd o r od h h2 okr ho => exact .i2 cd o r od (e _ _ h) (e _ _ h2) okr (hL _ _ ho)
noncomputable def ListO (K : PySem.W.Frag) (G H : Hp) (m : Nat) (a : Addr) (ds : List Deed) : Prop := ∃ ts : List Addr, H a = some (.lst (ts.map V.ref)) ∧ Paired (DeedX K G (ListX K G (B m))) ts ds
noncomputable def UpsAt (K : PySem.W.Frag) (G H : Hp) : Addr → List Addr → List (List Deed × Hole) → Prop
  | _, [], [] => True
  | c, a :: as, (b, h) :: up => (∃ (ts : List Addr) (t : Addr), H a = some (.lst ((ts ++ [t]).map V.ref)) ∧ Paired (DeedX K G (ListX K G (B (4 - up.length)))) ts b ∧ HoleAt K G (ListX K G (B (4 - up.length))) t c h) ∧ UpsAt K G H a as up
  | _, _, _ => False
theorem UpsAt.len {K : PySem.W.Frag} {G H : Hp} : ∀ {c : Addr} {as : List Addr} {up : List (List Deed × Hole)}, UpsAt K G H c as up → as.length = up.length
  | _, [], [], _ => rfl
  | _, [], _ :: _, h => h.elim
  | _, _ :: _, [], h => h.elim
  | _, a :: as, (b, h) :: up, x => by rw [List.length_cons, List.length_cons, UpsAt.len x.2]
theorem UpsAt.same {K : PySem.W.Frag} {G G' H H' : Hp} (e : Same G G') : ∀ {c : Addr} {as : List Addr} {up : List (List Deed × Hole)}, UpsAt K G H c as up → (∀ a ∈ as, ∀ o, H a = some o → H' a = some o) → UpsAt K G' H' c as up
  | _, [], [], _, _ => trivial
  | _, [], _ :: _, h, _ => h.elim
  | _, _ :: _, [], h, _ => h.elim
  | c, a :: as, (b, h) :: up, ⟨⟨ts, t, h1, h2, h3⟩, x⟩, k => ⟨⟨ts, t, k a (List.mem_cons_self ..) _ h1, Paired.mapP h2 fun _ _ z => z.same e fun _ _ y => y.same e, h3.same e fun _ _ y => y.same e⟩, UpsAt.same e x fun a' ha' => k a' (List.mem_cons_of_mem _ ha')⟩
theorem ListO.same {K : PySem.W.Frag} {G G' H H' : Hp} {m : Nat} {a : Addr} {ds : List Deed} (h : ListO K G H m a ds) (e : Same G G') (k : ∀ o, H a = some o → H' a = some o) : ListO K G' H' m a ds := by
  obtain ⟨ts, h1, h2⟩ := h
  exact ⟨ts, k _ h1, Paired.mapP h2 fun _ _ z => z.same e fun _ _ y => y.same e⟩
structure ZS (K : PySem.W.Frag) (H0 H : Hp) (wa top : Addr) (as : List Addr) (z : Zp) : Prop where
  e : Same H0 H
  nd : (wa :: top :: as).Nodup
  fr : ∀ c ∈ wa :: top :: as, H0 c = none
  w : H wa = some (.lst ((top :: as).reverse.map V.ref))
  cur : ListO K (rm (fun c => c ∈ wa :: top :: as) H) H (4 - z.up.length) top z.cur
  ups : UpsAt K (rm (fun c => c ∈ wa :: top :: as) H) H top as z.up
  low : z.up.length ≤ 4
variable {K : PySem.W.Frag} {H0 H H1 : Hp} {wa top : Addr} {as : List Addr} {z : Zp}
theorem ZS.same (Z : ZS K H0 H wa top as z) (e : Same H H1) : ZS K H0 H1 wa top as z :=
  ⟨Z.e.trans e, Z.nd, Z.fr, e _ _ Z.w, Z.cur.same (rm_same e) fun o h => e _ _ h, Z.ups.same (rm_same e) fun a _ o h => e _ _ h, Z.low⟩
theorem ZS.app (Z : ZS K H0 H wa top as z) {ts : List Addr} {t : Addr} {d : Deed} (hts : H top = some (.lst (ts.map V.ref))) (ht : DeedX K (rm (fun c => c ∈ wa :: top :: as) H) (ListX K (rm (fun c => c ∈ wa :: top :: as) H) (B (4 - z.up.length))) t d) : ZS K H0 (upd H top (.lst (ts.map V.ref ++ [.ref t]))) wa top as ⟨z.cur ++ [d], z.up⟩ := by
  have nd := Z.nd
  rw [List.nodup_cons, List.nodup_cons] at nd
  have hX : top ∈ wa :: top :: as := List.mem_cons_of_mem _ (List.mem_cons_self ..)
  have r := rm_upd (X := fun c => c ∈ wa :: top :: as) (H := H) (a := top) (o := .lst (ts.map V.ref ++ [.ref t])) hX
  refine ⟨fun b o h => by rw [upd_ne (ne_of_none h (Z.fr top hX))]; exact Z.e _ _ h, Z.nd, Z.fr, ?_, ?_, ?_, Z.low⟩
  · rw [upd_ne (fun z => nd.1 (by rw [z]; exact List.mem_cons_self ..))]; exact Z.w
  · rw [r]
    obtain ⟨ts', h1, h2⟩ := Z.cur
    rw [hts] at h1
    have : ts = ts' := List.map_inj_right (f := V.ref) (fun x y z => by injection z) |>.mp (HO.lst.inj (Option.some.inj h1))
    subst this
    exact ⟨ts ++ [t], by rw [upd_same, List.map_append]; rfl, Paired.snocP h2 ht⟩
  · rw [r]
    exact Z.ups.same (Same.refl _) fun a ha o h => by rw [upd_ne (fun y => nd.2.1 (by rw [← y]; exact ha))]; exact h
theorem ZS.pop {a : Addr} {b cur : List Deed} {h : Hole} {up : List (List Deed × Hole)} (hl : cur.length ≤ 30) (Z : ZS K H0 H wa top (a :: as) ⟨cur, (b, h) :: up⟩) : ZS K H0 (upd H wa (.lst ((a :: as).reverse.map V.ref))) wa a as ⟨b ++ [h.fill cur], up⟩ := by
  have nd := Z.nd
  rw [List.nodup_cons, List.nodup_cons] at nd
  have low := Z.low
  dsimp only at low
  rw [List.length_cons] at low
  have hXw : wa ∈ wa :: top :: a :: as := List.mem_cons_self ..
  have r := rm_upd (X := fun c => c ∈ wa :: a :: as) (H := H) (a := wa) (o := .lst ((a :: as).reverse.map V.ref)) (List.mem_cons_self ..)
  have e1 : Same (rm (fun c => c ∈ wa :: top :: a :: as) H) (rm (fun c => c ∈ wa :: a :: as) H) := rm_sub fun c hc => by
    rcases List.mem_cons.mp hc with rfl | z
    · exact List.mem_cons_self ..
    · exact List.mem_cons_of_mem _ (List.mem_cons_of_mem _ z)
  have ne : ∀ c ∈ top :: a :: as, c ≠ wa := fun c hc y => nd.1 (by rw [← y]; exact hc)
  obtain ⟨⟨ts, t, h1, h2, h3⟩, hu⟩ := Z.ups
  refine ⟨fun b o hb => by rw [upd_ne (ne_of_none hb (Z.fr wa hXw))]; exact Z.e _ _ hb, List.nodup_cons.mpr ⟨fun y => nd.1 (List.mem_cons_of_mem _ y), nd.2.2⟩, fun c hc => Z.fr c ?_, upd_same, ?_, ?_, by show up.length ≤ 4; omega⟩
  · rcases List.mem_cons.mp hc with rfl | z
    · exact List.mem_cons_self ..
    · exact List.mem_cons_of_mem _ (List.mem_cons_of_mem _ z)
  · rw [r]
    refine ⟨ts ++ [t], by rw [upd_ne (ne a (List.mem_cons_of_mem _ (List.mem_cons_self ..)))]; exact h1, Paired.snocP (Paired.mapP h2 fun _ _ z => z.same e1 fun _ _ y => y.same e1) ?_⟩
    refine (h3.same e1 fun _ _ y => y.same e1).fill ?_
    obtain ⟨us, g1, g2⟩ := Z.cur
    have hB : B (4 - up.length) = 30 :: B (4 - (up.length + 1)) := by
      rw [show 4 - up.length = (4 - (up.length + 1)) + 1 by omega]; rfl
    rw [hB]
    have hul := Paired.length g2
    have hnot : ¬ top ∈ wa :: a :: as := fun z => by
      rcases List.mem_cons.mp z with y | y
      · exact ne top (List.mem_cons_self ..) y
      · exact nd.2.1 y
    exact ⟨us, by rw [rm_at hnot]; exact g1, Paired.mapP g2 fun _ _ z => z.same e1 fun _ _ y => y.same e1, by rw [hul]; exact hl⟩
  · rw [r]
    exact hu.same e1 fun c hc o h => by rw [upd_ne (ne c (List.mem_cons_of_mem _ (List.mem_cons_of_mem _ hc)))]; exact h
theorem ZS.push (Z : ZS K H0 H wa top as z) (e : Same H H1) {c t : Addr} {h : Hole} {ts : List Addr} (hlow : z.up.length < 4) (hc : H c = none) (hc1 : H1 c = some (.lst [])) (hts : H1 top = some (.lst (ts.map V.ref))) (ht : HoleAt K (rm (fun x => x ∈ wa :: c :: top :: as) H1) (ListX K (rm (fun x => x ∈ wa :: c :: top :: as) H1) (B (4 - z.up.length))) t c h) :
    ZS K H0 (upd (upd H1 top (.lst (ts.map V.ref ++ [.ref t]))) wa (.lst ((top :: as).reverse.map V.ref ++ [.ref c]))) wa c (top :: as) ⟨[], (z.cur, h) :: z.up⟩ := by
  have nd := Z.nd
  have hcn : ∀ x ∈ wa :: top :: as, x ≠ c := fun x hx y => by
    rw [y] at hx
    rcases List.mem_cons.mp hx with q | q
    · have := Z.w; rw [← q, hc] at this; cases this
    · rcases List.mem_cons.mp q with q | q
      · obtain ⟨us, g1, _⟩ := Z.cur; rw [← q, hc] at g1; cases g1
      · have key : ∀ {c' : Addr} {as : List Addr} {up : List (List Deed × Hole)} {G : Hp}, UpsAt K G H c' as up → ∀ a ∈ as, ∃ o, H a = some o := by
          intro c' as
          induction as generalizing c' with
          | nil => intro up G _ a ha; cases ha
          | cons a as ih =>
            intro up G hu a' ha'
            cases up with
            | nil => exact hu.elim
            | cons bh up =>
              obtain ⟨b, h⟩ := bh
              obtain ⟨⟨ts, t, h1, _⟩, hu'⟩ := hu
              rcases List.mem_cons.mp ha' with rfl | q
              · exact ⟨_, h1⟩
              · exact ih hu' a' q
        obtain ⟨o, ho⟩ := key Z.ups c q
        rw [hc] at ho; cases ho
  have nd' := nd
  rw [List.nodup_cons, List.nodup_cons] at nd'
  have hcw : c ≠ wa := (hcn wa (List.mem_cons_self ..)).symm
  have hct : c ≠ top := (hcn top (List.mem_cons_of_mem _ (List.mem_cons_self ..))).symm
  have htw : top ≠ wa := fun y => nd'.1 (by rw [← y]; exact List.mem_cons_self ..)
  have r : rm (fun x => x ∈ wa :: c :: top :: as) (upd (upd H1 top (.lst (ts.map V.ref ++ [.ref t]))) wa (.lst ((top :: as).reverse.map V.ref ++ [.ref c]))) = rm (fun x => x ∈ wa :: c :: top :: as) H1 := by
    rw [rm_upd (List.mem_cons_self ..), rm_upd (by simp)]
  have e1 : Same (rm (fun c => c ∈ wa :: top :: as) H) (rm (fun x => x ∈ wa :: c :: top :: as) H1) := fun b o hb => by
    obtain ⟨g1, g2⟩ := rm_some hb
    rw [rm_at (fun y => ?_)]
    · exact e _ _ g2
    · rcases List.mem_cons.mp y with q | q
      · exact g1 (by rw [q]; exact List.mem_cons_self ..)
      · rcases List.mem_cons.mp q with q | q
        · rw [q, hc] at g2; cases g2
        · exact g1 (List.mem_cons_of_mem _ q)
  refine ⟨fun b o hb => ?_, ?_, fun x hx => ?_, ?_, ?_, ?_, by show z.up.length + 1 ≤ 4; omega⟩
  · rw [upd_ne (ne_of_none hb (Z.fr wa (List.mem_cons_self ..))), upd_ne (ne_of_none hb (Z.fr top (by simp)))]
    exact e _ _ (Z.e _ _ hb)
  · refine List.nodup_cons.mpr ⟨fun y => ?_, List.nodup_cons.mpr ⟨fun y => ?_, nd'.2 |> fun q => List.nodup_cons.mpr q⟩⟩
    · rcases List.mem_cons.mp y with q | q
      · exact hcw q.symm
      · exact nd'.1 q
    · exact hcn c (List.mem_cons_of_mem _ y) rfl
  · rcases List.mem_cons.mp hx with rfl | q
    · exact Z.fr _ (List.mem_cons_self ..)
    · rcases List.mem_cons.mp q with rfl | q
      · exact Z.e.free hc
      · exact Z.fr x (List.mem_cons_of_mem _ q)
  · rw [upd_same, List.reverse_cons (a := c), List.map_append]; rfl
  · exact ⟨[], by rw [upd_ne hcw, upd_ne hct]; exact hc1, .nil⟩
  · rw [r]
    refine ⟨⟨ts, t, by rw [upd_ne htw, upd_same, List.map_append]; rfl, ?_, ht⟩, Z.ups.same e1 fun a ha o ho => ?_⟩
    · obtain ⟨us, g1, g2⟩ := Z.cur
      have g1' := e _ _ g1
      rw [hts] at g1'
      have : ts = us := List.map_inj_right (f := V.ref) (fun x y z => by injection z) |>.mp (HO.lst.inj (Option.some.inj g1'))
      rw [this]
      exact Paired.mapP g2 fun _ _ z => z.same e1 fun _ _ y => y.same e1
    · rw [upd_ne (fun y => nd'.1 (by rw [← y]; exact List.mem_cons_of_mem _ ha)), upd_ne (fun y => nd'.2.1 (by rw [← y]; exact ha))]
      exact e _ _ ho
theorem ZS.close : ∀ {as : List Addr} {top : Addr} {H : Hp} {cur : List Deed} {up : List (List Deed × Hole)}, ZS K H0 H wa top as ⟨cur, up⟩ → cur.length ≤ 30 → (∀ x ∈ up, x.1.length < 30) → ∃ bd, (top :: as).getLast? = some bd ∧ ListX K (rm (fun c => c = wa) H) (B 5) bd (closeU cur up)
  | [], top, H, cur, up, Z, hc, hu => by
    have hl := Z.ups.len
    cases up with
    | cons x up => cases hl
    | nil =>
      obtain ⟨ts, h1, h2⟩ := Z.cur
      have nd := Z.nd
      rw [List.nodup_cons] at nd
      have e : Same (rm (fun c => c ∈ wa :: top :: []) H) (rm (fun c => c = wa) H) := rm_sub fun c hc => by rw [hc]; exact List.mem_cons_self ..
      exact ⟨top, rfl, ts, by rw [rm_at (fun y => nd.1 (by rw [← y]; exact List.mem_cons_self ..))]; exact h1, Paired.mapP h2 fun _ _ z => z.same e fun _ _ y => y.same e, by rw [Paired.length h2]; exact hc⟩
  | a :: as, top, H, cur, up, Z, hc, hu => by
    have hl := Z.ups.len
    cases up with
    | nil => cases hl
    | cons x up =>
      obtain ⟨b, h⟩ := x
      obtain ⟨bd, h1, h2⟩ := ZS.close (Z.pop hc) (by rw [List.length_append]; exact hu (b, h) (List.mem_cons_self ..)) fun x hx => hu x (List.mem_cons_of_mem _ hx)
      rw [rm_upd (X := fun c => c = wa) rfl] at h2
      exact ⟨bd, by rw [List.getLast?_cons_cons]; exact h1, h2⟩
end K60
namespace K60
open PySem PySem.Spec L2 Mir
noncomputable abbrev sBody : Stmt := top 31
structure Names8 (xs : List Str) : Prop where
  len : xs.length = 8
  nd : xs.Nodup
  ok : ∀ x ∈ xs, isName x = true ∧ ¬ x ∈ others
inductive spBody (K : PySem.W.Frag) (vs : List V) (H : Hp) (Q : VK) (E : XK) : Prop
  | mk (a l : Addr) (cs : List Int) (xs : List Str) (h0 : vs = [.ref a, .ref l]) (h1 : SqL K H a (cs.map V.int)) (h2 : cs.length ≤ 10) (h3 : H l = some (.lst (xs.map V.str))) (h4 : Names8 xs)
      (q : ∀ bd H', Same H H' → H bd = none → ListX K H' (B 5) bd (bodyF xs cs) → Q (.ref bd) H') : spBody K vs H Q E
theorem nx_at {xs : List Str} {i : Int} {j : Nat} (h : i = (j : Int)) (hj : j < xs.length) : atI (xs.map V.str) i = some (.str (nx xs j)) := by rw [h]; exact getD_at hj
theorem nx_in {xs : List Str} {j : Nat} (hj : j < xs.length) : nx xs j ∈ xs := by
  unfold nx; rw [List.getD_eq_getElem?_getD, List.getElem?_eq_getElem hj]; exact List.getElem_mem hj
theorem wl_or {xs : List Str} {m : Nat} (hm : m ≤ 6) {y : Str} (h : y ∈ wl xs m) : y ∈ xs.take 6 ∨ y = "nil" ∨ y = "any" := by
  unfold wl at h
  rcases List.mem_append.mp h with z | z
  · refine .inl ?_
    rw [show xs.take m = (xs.take 6).take m by rw [List.take_take, Nat.min_eq_left hm]] at z
    exact List.mem_of_mem_take z
  · exact .inr (.inl (List.mem_singleton.mp z))
theorem wl_pos (xs : List Str) (m : Nat) : 0 < (wl xs m).length := by unfold wl; rw [List.length_append]; exact Nat.succ_pos _
noncomputable def RowW (xs r : List Str) : Prop := ∃ h tl, r = h :: tl ∧ h ∈ ([("is" : Str), "not", "cell", "stretch", "tree"] : List Str) ∧ ∀ y ∈ tl, y ∈ xs.take 6 ∨ y = "nil" ∨ y = "any"
theorem isNot_in (n : Int) : isNot n ∈ ([("is" : Str), "not", "cell", "stretch", "tree"] : List Str) := by
  rcases isNot_or n with z | z <;> rw [z] <;> decide +kernel
theorem pk_or {xs : List Str} {m : Nat} (hm : m ≤ 6) (i : Int) : pk (wl xs m) i ∈ xs.take 6 ∨ pk (wl xs m) i = "nil" ∨ pk (wl xs m) i = "any" := wl_or hm (pk_in (wl_pos xs m) i)
theorem fact_w (c : Int) (xs : List Str) {m : Nat} (hm : m ≤ 6) (k : Nat) : RowW xs (factF c (wl xs m) k) := by
  refine ⟨_, _, rfl, isNot_in _, fun y hy => ?_⟩
  simp only [List.mem_cons, List.not_mem_nil, or_false] at hy
  rcases hy with rfl | rfl
  · exact pk_or hm _
  · exact pk_or hm _
theorem part_or (c : Int) (ws : List Str) (k : Nat) : partF c ws k = [("cell" : Str), pk ws (mixF c (5 + k) / 3), "any", pk ws (mixF c (5 + k) / 30)] ∨ partF c ws k = [("stretch" : Str), pk ws (mixF c (5 + k) / 3), pk ws (mixF c (5 + k) / 30)] ∨ partF c ws k = [("tree" : Str), pk ws (mixF c (5 + k) / 3)] := by
  unfold partF
  have a3 := Int.emod_nonneg (mixF c (5 + k)) (show (3 : Int) ≠ 0 by decide)
  have a3' := Int.emod_lt_of_pos (mixF c (5 + k)) (show (0 : Int) < 3 by decide)
  have : mixF c (5 + k) % 3 = 0 ∨ mixF c (5 + k) % 3 = 1 ∨ mixF c (5 + k) % 3 = 2 := by omega
  rcases this with z | z | z <;> rw [z]
  · exact .inl rfl
  · exact .inr (.inl rfl)
  · exact .inr (.inr rfl)
theorem part_w (c : Int) (xs : List Str) {m : Nat} (hm : m ≤ 6) (k : Nat) : RowW xs (partF c (wl xs m) k) := by
  rcases part_or c (wl xs m) k with z | z | z <;> rw [z]
  · refine ⟨_, _, rfl, by decide +kernel, fun y hy => ?_⟩
    simp only [List.mem_cons, List.not_mem_nil, or_false] at hy
    rcases hy with rfl | rfl | rfl
    · exact pk_or hm _
    · exact .inr (.inr rfl)
    · exact pk_or hm _
  · refine ⟨_, _, rfl, by decide +kernel, fun y hy => ?_⟩
    simp only [List.mem_cons, List.not_mem_nil, or_false] at hy
    rcases hy with rfl | rfl
    · exact pk_or hm _
    · exact pk_or hm _
  · refine ⟨_, _, rfl, by decide +kernel, fun y hy => ?_⟩
    simp only [List.mem_cons, List.not_mem_nil, or_false] at hy
    rw [hy]; exact pk_or hm _
theorem facts_w {c : Int} {xs : List Str} {m : Nat} (hm : m ≤ 6) {r : List Str} (h : r ∈ factsF c (wl xs m)) : RowW xs r ∧ r.length = 3 := by
  obtain ⟨k, _, rfl⟩ := List.mem_map.mp h; exact ⟨fact_w c xs hm k, rfl⟩
theorem parts_w {c : Int} {xs : List Str} {m : Nat} (hm : m ≤ 6) {r : List Str} (h : r ∈ partsF c (wl xs m)) : RowW xs r ∧ r.length ≤ 4 := by
  obtain ⟨k, _, rfl⟩ := List.mem_map.mp h
  refine ⟨part_w c xs hm k, ?_⟩
  rcases part_or c (wl xs m) k with z | z | z <;> rw [z] <;> simp
theorem facts_len (c : Int) (ws : List Str) : (factsF c ws).length ≤ 2 := by
  unfold factsF; rw [List.length_map, List.length_range]
  have := Int.emod_lt_of_pos c (show (0 : Int) < 3 by decide); omega
theorem parts_len (c : Int) (ws : List Str) : (partsF c ws).length ≤ 2 := by
  unfold partsF; rw [List.length_map, List.length_range]
  have := Int.emod_lt_of_pos (c / 3) (show (0 : Int) < 3 by decide); omega
theorem cond_w (c : Int) (xs : List Str) : RowW xs (condF c xs) := by
  refine ⟨_, _, rfl, isNot_in _, fun y hy => ?_⟩
  simp only [List.mem_cons, List.not_mem_nil, or_false] at hy
  rcases hy with rfl | rfl
  · exact pk_or (by decide) _
  · exact pk_or (by decide) _
theorem RowW.ok {xs r : List Str} (N : Names8 xs) (h : RowW xs r) : ∀ y ∈ r, Ok y := fun y hy => by
  obtain ⟨h', tl, rfl, hh, ht⟩ := h
  rcases List.mem_cons.mp hy with rfl | z
  · refine ok_words y ?_
    simp only [List.mem_cons, List.not_mem_nil, or_false] at hh ⊢
    rcases hh with rfl | rfl | rfl | rfl | rfl <;> simp
  · rcases ht y z with q | rfl | rfl
    · exact ok_name (N.ok y (List.mem_of_mem_take q)).1
    · exact ok_words _ (by simp)
    · exact ok_words _ (by simp)
section
variable {A B C : Prop} [Decidable A] [Decidable B] [Decidable C] {t u v : TT} {σ : St} {H : Hp} {Q : Bool → Hp → Prop}
theorem and_two (ht : ∀ Q' : Bool → Hp → Prop, Q' (decide A) H → t σ H Q') (hu : ∀ Q' : Bool → Hp → Prop, Q' (decide B) H → u σ H Q') (hT : A → B → Q true H) (hF : ¬ (A ∧ B) → Q false H) : tAnd t u σ H Q := by
  refine ht _ ?_
  by_cases a : A
  · rw [decide_eq_true a]
    refine hu _ ?_
    by_cases b : B
    · rw [decide_eq_true b]; exact hT a b
    · rw [decide_eq_false b]; exact hF fun z => b z.2
  · rw [decide_eq_false a]; exact hF fun z => a z.1
end
theorem rep_pair {α β : Type} {R : α → β → Prop} {a : α} {b : β} (k : Nat) (h : R a b) : Paired R (List.replicate k a) (List.replicate k b) := by
  induction k with
  | zero => exact .nil
  | succ k ih => exact .cons h ih
theorem UpsAt.lst {K : PySem.W.Frag} {G H : Hp} : ∀ {c : Addr} {as : List Addr} {up : List (List Deed × Hole)}, UpsAt K G H c as up → ∀ a ∈ as, ∃ ys, H a = some (.lst ys)
  | _, [], _, _, a, ha => by cases ha
  | _, _ :: _, [], h, _, _ => h.elim
  | _, a' :: as, (b, h) :: up, ⟨⟨ts, t, h1, _⟩, x⟩, a, ha => by
    rcases List.mem_cons.mp ha with rfl | q
    · exact ⟨_, h1⟩
    · exact UpsAt.lst x a q
theorem ZS.lst {K : PySem.W.Frag} {H0 H : Hp} {wa top : Addr} {as : List Addr} {z : Zp} (Z : ZS K H0 H wa top as z) : ∀ a ∈ wa :: top :: as, ∃ ys, H a = some (.lst ys) := fun a ha => by
  rcases List.mem_cons.mp ha with rfl | q
  · exact ⟨_, Z.w⟩
  · rcases List.mem_cons.mp q with rfl | q
    · obtain ⟨us, g1, _⟩ := Z.cur; exact ⟨_, g1⟩
    · exact UpsAt.lst Z.ups a q
theorem rm_tup {X : Addr → Prop} {H : Hp} (h : ∀ c, X c → ∃ ys, H c = some (.lst ys)) {a : Addr} {xs : List V} (k : H a = some (.tup xs)) : rm X H a = some (.tup xs) := by
  rw [rm_at fun z => ?_]; exact k
  obtain ⟨ys, e⟩ := h a z
  rw [k] at e; cases e
theorem rm_row {K : PySem.W.Frag} {X : Addr → Prop} {H : Hp} (h : ∀ c, X c → ∃ ys, H c = some (.lst ys)) {a : Addr} {r : List Str} (k : RowAt K H a r) : RowAt K (rm X H) a r := by
  rcases k with (k | ⟨o, k⟩) | k
  · exact .inl (.inl (rm_tup h k))
  · refine .inl (.inr ⟨o, ?_⟩)
    rw [rm_at fun z => ?_]; exact k
    obtain ⟨ys, e⟩ := h a z
    rw [k] at e; cases e
  · exact .inr k
theorem rm_rows {K : PySem.W.Frag} {X : Addr → Prop} {H : Hp} (h : ∀ c, X c → ∃ ys, H c = some (.lst ys)) {a : Addr} {rs : List (List Str)} (ha : ¬ X a) (k : RowsAt K H a rs) : RowsAt K (rm X H) a rs := by
  obtain ⟨as, k1, k2⟩ := k
  exact ⟨as, by rw [rm_at ha]; exact k1, Paired.mapP k2 fun _ _ z => rm_row h z⟩
noncomputable def ZOk (n : Nat) (z : Zp) : Prop := z.cur.length ≤ n ∧ ∀ x ∈ z.up, x.1.length < n
theorem set_pl {xs : List Str} (N : Names8 xs) {i j : Nat} (hi : i < 8) (hj : j < 8) : PlOk (.row ["set", nx xs i, nx xs j]) := by
  refine ⟨⟨"set", [nx xs i, nx xs j], ["name", "value"], rfl, by decide +kernel, rfl⟩, fun y hy => ?_⟩
  simp only [List.mem_cons, List.not_mem_nil, or_false] at hy
  rcases hy with rfl | rfl | rfl
  · exact ok_words _ (by simp)
  · exact ok_name (N.ok _ (nx_in (by rw [N.len]; exact hi))).1
  · exact ok_name (N.ok _ (nx_in (by rw [N.len]; exact hj))).1
theorem step_ok {xs : List Str} {n : Nat} {z : Zp} (h : ZOk n z) (c : Int) : ZOk (n + 1) (stepZ xs z c) := by
  obtain ⟨cur, up⟩ := z
  obtain ⟨h1, h2⟩ := h
  dsimp only at h1 h2
  unfold stepZ
  dsimp only
  split
  · cases up with
    | nil => exact ⟨Nat.le_succ_of_le h1, fun x hx => by cases hx⟩
    | cons bh up =>
      obtain ⟨b, h⟩ := bh
      refine ⟨?_, fun x hx => Nat.lt_succ_of_lt (h2 x (List.mem_cons_of_mem _ hx))⟩
      show (b ++ [h.fill cur]).length ≤ n + 1
      have := h2 (b, h) (List.mem_cons_self ..)
      rw [List.length_append]; show b.length + 1 ≤ n + 1; dsimp only at this; omega
  split
  · exact ⟨Nat.zero_le _, fun x hx => by
      rcases List.mem_cons.mp hx with rfl | q
      · exact Nat.lt_succ_of_le h1
      · exact Nat.lt_succ_of_lt (h2 x q)⟩
  split
  · exact ⟨Nat.zero_le _, fun x hx => by
      rcases List.mem_cons.mp hx with rfl | q
      · exact Nat.lt_succ_of_le h1
      · exact Nat.lt_succ_of_lt (h2 x q)⟩
  · exact ⟨by show (cur ++ [_]).length ≤ n + 1; rw [List.length_append]; exact Nat.succ_le_succ h1, fun x hx => Nat.lt_succ_of_lt (h2 x hx)⟩
section
variable {P : Program} {w : World} {K : PySem.W.Frag} {mg : Str → Option Value} {base : Heap} {f gC gT : Addr} {fd dC dT : FuncData}
theorem scBody : FnScope ["_law_cells", "_law_n", "_law_body_here", "_law_waiting", "_law_cell", "_law_kind", "_law_inner", "_law_other", "_law_deeds"] ["_law_cells", "_law_n"] (defScope sBody) := ⟨rfl, rfl, rfl, by decide +kernel, rfl, by decide +kernel, by decide +kernel⟩
theorem ok_body (C : Con K mg w) (F : Fun K "_law_body" "_law_body" sBody f fd) (GC : FnOk P w K mg base CX0 2 gC dC ["_law_cell", "_law_n"] (spCond K)) (cC : Cal K mg "_law_condition" gC dC ["_law_cell", "_law_n"]) (GT : FnOk P w K mg base CX0 2 gT dT ["_law_cell", "_law_n", "_law_many"] (spTelling K)) (cT : Cal K mg "_law_telling" gT dT ["_law_cell", "_law_n", "_law_many"]) : FnOk P w K mg base CX0 3 f fd ["_law_cells", "_law_n"] (spBody K) := by
  refine F.okQ scBody (fun vs H Q E h => ?_) (fun cdv A outer s0 H vs Q E hr h => ?_)
  · obtain ⟨a, l, cs, xs, rfl, _⟩ := h; rfl
  obtain ⟨a, l, cs, xs, rfl, hcs, h10, hl, N, q⟩ := h
  have nd := scBody.nd
  refine ⟨_, qb_cons (qs_set (i := 2) nd rfl (Or.inl rfl) (qe_lst qa_nil))
    (qb_cons (qs_set (i := 3) nd rfl (Or.inl rfl) (qe_lst (qa_nm (qv 2) qa_nil)))
    (qb_cons (qs_for PassesOwn.never rfl (qi_list (qv 0)) (qg_name (i := 4) nd rfl (Or.inl rfl)) (qb_cons (qs_set (i := 5) nd rfl (Or.inl rfl) (qe_op op_mod (qv 4) qe_int))
    (qb_one (qs_if (QW.qt (qw_and (qt_cmpR op_eq (qv 5) qe_int (nomark _)) (qw_and1 (qt_cmpR op_gt (qe_callB call_len_seq rfl C.len PySem.boot_len (qa_nm (qv 3) qa_nil)) qe_int (nomark _))))) (qb_one (qs_expr (qe_bm0 PySem.F.plainAttrs_list PySem.F.slot_list_pop PySem.F.type_list_pop mt_pop (qv 3)))) (qb_one (qs_if (QW.qt (qw_and (qt_cmpR op_lt (qv 5) qe_int (nomark _)) (qw_and1 (qt_cmpR op_lt (qe_callB call_len_seq rfl C.len PySem.boot_len (qa_nm (qv 3) qa_nil)) qe_int (nomark _))))) (qb_cons (qs_set (i := 6) nd rfl (Or.inl rfl) (qe_lst qa_nil))
    (qb_cons (qs_expr (qe_bmK (K := K) rfl PySem.F.plainAttrs_list PySem.F.slot_list_append PySem.F.type_list_append mt_append (qe_ix ix_list (qv 3) (qe_un un_neg qe_int) (fun _ _ => rfl)) (qa_tp (qa_str (qa_call (qe_call GC hr rfl cC.name cC.keep cC.bind .nil pass0 (qa_nm (qv 4) (qa_nm (qv 1) qa_nil))) (qa_call (qe_call GT hr rfl cT.name cT.keep cT.bind .nil pass0 (qa_bop (qe_op op_fdiv (qv 4) qe_int) (qa_nm (qv 1) (qa_int qa_nil)))) (qa_nm (qv 6) qa_nil)))) qa_nil)))
    (qb_one (qs_expr (qe_bmK (K := K) rfl PySem.F.plainAttrs_list PySem.F.slot_list_append PySem.F.type_list_append mt_append (qv 3) (qa_nm (qv 6) qa_nil)))))) (qb_one (qs_if (QW.qt (qw_and (qt_cmpR op_eq (qv 5) qe_int (nomark _)) (qw_and1 (qt_cmpR op_lt (qe_callB call_len_seq rfl C.len PySem.boot_len (qa_nm (qv 3) qa_nil)) qe_int (nomark _))))) (qb_cons (qs_set (i := 6) nd rfl (Or.inl rfl) (qe_lst qa_nil))
    (qb_cons (qs_set (i := 7) nd rfl (Or.inl rfl) (qe_op op_rep (qe_lst (qa_tp (qa_str (qa_sub (qe_ix ix_list (qv 1) qe_int (fun _ _ => rfl)) (qa_sub (qe_ix ix_list (qv 1) qe_int (fun _ _ => rfl)) qa_nil))) qa_nil)) (qe_op op_mod (qe_op op_fdiv (qv 4) qe_int) qe_int)))
    (qb_cons (qs_set (i := 8) nd rfl (Or.inl rfl) (qe_ix ix_list (qe_lst (qa_ls (qa_nm (qv 6) (qa_nm (qv 7) qa_nil)) (qa_ls (qa_nm (qv 7) (qa_nm (qv 6) qa_nil)) qa_nil))) (qe_op op_mod (qe_op op_fdiv (qv 4) qe_int) qe_int) (fun _ _ => rfl)))
    (qb_cons (qs_expr (qe_bmK (K := K) rfl PySem.F.plainAttrs_list PySem.F.slot_list_append PySem.F.type_list_append mt_append (qe_ix ix_list (qv 3) (qe_un un_neg qe_int) (fun _ _ => rfl)) (qa_tp (qa_str (qa_call (qe_call GC hr rfl cC.name cC.keep cC.bind .nil pass0 (qa_nm (qv 4) (qa_nm (qv 1) qa_nil))) (qa_sub (qe_ix ix_list (qv 8) qe_int (fun _ _ => rfl)) (qa_sub (qe_ix ix_list (qv 8) qe_int (fun _ _ => rfl)) qa_nil)))) qa_nil)))
    (qb_one (qs_expr (qe_bmK (K := K) rfl PySem.F.plainAttrs_list PySem.F.slot_list_append PySem.F.type_list_append mt_append (qv 3) (qa_nm (qv 6) qa_nil)))))))) (qb_one (qs_expr (qe_bmK (K := K) rfl PySem.F.plainAttrs_list PySem.F.slot_list_append PySem.F.type_list_append mt_append (qe_ix ix_list (qv 3) (qe_un un_neg qe_int) (fun _ _ => rfl)) (qa_tp (qa_str (qa_sub (qe_ix ix_list (qv 1) (qe_op op_add qe_int (qe_op op_mod (qe_op op_fdiv (qv 4) qe_int) qe_int)) (fun _ _ => rfl)) (qa_sub (qe_ix ix_list (qv 1) (qe_op op_mod (qe_op op_fdiv (qv 4) qe_int) qe_int) (fun _ _ => rfl)) qa_nil))) qa_nil))))))))))))
    (qb_one (qs_ret (qv 2))))), ?_⟩
  refine ⟨Nat.zero_le _, fun bd hbd => ?_⟩
  have s1 := same_new hbd (.lst [])
  have k1 : (upd H bd (.lst [])) bd = some (.lst []) := upd_same
  generalize upd H bd (.lst []) = H1 at s1 k1 ⊢
  refine ⟨_, rfl, (show 1 ≤ sizeLine by decide), fun wa hwa => ?_⟩
  have s2' := same_new hwa (.lst [.ref bd])
  have k2 : (upd H1 wa (.lst [.ref bd])) wa = some (.lst [.ref bd]) := upd_same
  have nwb : wa ≠ bd := (ne_of_none k1 hwa).symm
  have hwa0 : H wa = none := s1.free hwa
  generalize upd H1 wa (.lst [.ref bd]) = H2 at s2' k2 ⊢
  have s2 := s1.trans s2'
  have Z0 : ZS K H H2 wa bd [] ⟨[], []⟩ := ⟨s2, List.nodup_cons.mpr ⟨fun y => nwb (List.mem_singleton.mp y), List.pairwise_singleton _ _⟩, fun c hc => by
    simp only [List.mem_cons, List.not_mem_nil, or_false] at hc
    rcases hc with rfl | rfl
    · exact hwa0
    · exact hbd, k2, ⟨[], s2' _ _ k1, .nil⟩, trivial, Nat.zero_le _⟩
  dsimp only [gName]
  refine seq_hide (a := tFor _ _ _) fun D1 hN1 hR1 hC1 => ?_
  have hcsH : ∀ {H' : Hp}, Same H H' → SqL K H' a (cs.map V.int) := fun e => e.seq hcs
  refine ⟨_, rfl, a, rfl, ⟨_, hcsH s2⟩, ?_⟩
  refine for_list (xs := cs.map V.int) (fun i σ H3 => ∃ (top : Addr) (as : List Addr) (z4 z5 z6 z7 z8 : Option V), σ = [some (.ref a), some (.ref l), some (.ref bd), some (.ref wa), z4, z5, z6, z7, z8] ∧ ZS K H H3 wa top as (bodyZ xs (cs.take i)) ∧ (top :: as).getLast? = some bd ∧ ZOk i (bodyZ xs (cs.take i))) ⟨bd, [], none, none, none, none, none, rfl, Z0, rfl, Nat.zero_le _, fun x hx => by cases hx⟩ (fun i σ H' _ h => by obtain ⟨_, _, _, _, _, _, _, _, Z, _⟩ := h; exact hcsH Z.e) ?_ ?_
  · rintro i x σ H3 hx ⟨top, as, z4, z5, z6, z7, z8, rfl, Z, hlast, hz⟩
    rw [List.getElem?_map] at hx
    obtain ⟨c, hc, rfl⟩ := Option.map_eq_some_iff.mp hx
    have hi10 : i < 10 := Nat.lt_of_lt_of_le (List.getElem?_eq_some_iff.mp hc).1 h10
    have hst : bodyZ xs (cs.take (i + 1)) = stepZ xs (bodyZ xs (cs.take i)) c := by
      unfold bodyZ
      rw [List.take_add_one, hc, List.foldl_append]; rfl
    rw [hst]
    have hz' := step_ok (xs := xs) hz c
    generalize bodyZ xs (cs.take i) = z at Z hz hz'
    have lw : ((top :: as).reverse.map V.ref).length = z.up.length + 1 := by rw [List.length_map, List.length_reverse, List.length_cons, Z.ups.len]
    have hlow := Z.low
    have hl3 := Z.e _ _ hl
    have lastW : atI ((top :: as).reverse.map V.ref) (-1) = some (.ref top) := by
      rw [List.reverse_cons, List.map_append]; exact atI_last
    have m6 := Int.emod_nonneg c (show (6 : Int) ≠ 0 by decide)
    have m6' := Int.emod_lt_of_pos c (show (0 : Int) < 6 by decide)
    obtain ⟨cur, up⟩ := z
    have wlen : ((((top :: as).reverse.map V.ref).length : Nat) : Int) = (up.length : Int) + 1 := by rw [lw]; rfl
    dsimp only at hlow lw
    obtain ⟨ts, hts, hpts⟩ := id Z.cur
    have htl : ts.length = cur.length := Paired.length hpts
    have hcl : cur.length ≤ 10 := Nat.le_trans hz.1 (by omega)
    have hw3 := Z.w
    refine ⟨_, rfl, _, _, rfl, rfl, (show (0 : Int) < 6 by decide), ?_⟩
    dsimp only [gName]
    refine and_two (A := V.int (c % 6) = V.int 5) (B := (1 : Int) < (((top :: as).reverse.map V.ref).length : Int)) (fun Q' q' => ⟨_, rfl, rfl, _, rfl, q'⟩) (fun Q' q' => ⟨_, rfl, wa, _, rfl, .inl (SqL.of hw3), _, _, rfl, rfl, _, rfl, q'⟩) (fun c1 c2 => (if_pos rfl).mpr ?_) (fun cn => (if_neg Bool.false_ne_true).mpr ?_)
    · have k5 : c % 6 = 5 := V.int.inj c1
      have hup : 0 < up.length := by omega
      cases up with
      | nil => cases hup
      | cons bh up =>
        obtain ⟨b, h⟩ := bh
        cases as with
        | nil => exact absurd Z.ups.len (by simp)
        | cons a' as =>
          have e : stepZ xs ⟨cur, (b, h) :: up⟩ c = ⟨b ++ [h.fill cur], up⟩ := by
            unfold stepZ; dsimp only; rw [if_pos ⟨k5, hup⟩]
          rw [e] at hz' ⊢
          have er : (top :: a' :: as).reverse.map V.ref = (a' :: as).reverse.map V.ref ++ [V.ref top] := by rw [List.reverse_cons (a := top), List.map_append]; rfl
          rw [er] at hw3
          refine ⟨_, rfl, (.inl ⟨rfl, _, SqL.of hw3⟩), wa, _, _, rfl, rfl, hw3, (by rw [List.length_append, List.getElem?_append_right (by simp)]; simp; rfl), ?_⟩
          rw [show ((a' :: as).reverse.map V.ref ++ [V.ref top]).dropLast = (a' :: as).reverse.map V.ref from List.dropLast_concat]
          exact ⟨a', as, _, _, _, _, _, rfl, Z.pop (Nat.le_trans hcl (by decide)), by rw [List.getLast?_cons_cons] at hlast; exact hlast, hz'⟩
    have n1 : ¬ (c % 6 = 5 ∧ 0 < up.length) := fun z => cn ⟨congrArg V.int z.1, by omega⟩
    refine and_two (A := c % 6 < 2) (B := (((top :: as).reverse.map V.ref).length : Int) < 5) (fun Q' q' => ⟨_, rfl, _, _, rfl, rfl, _, rfl, q'⟩) (fun Q' q' => ⟨_, rfl, wa, _, rfl, .inl (SqL.of hw3), _, _, rfl, rfl, _, rfl, q'⟩) (fun c1 c2 => (if_pos rfl).mpr ?_) (fun cn2 => (if_neg Bool.false_ne_true).mpr ?_)
    · have hup : up.length < 4 := by omega
      have e : stepZ xs ⟨cur, up⟩ c = ⟨[], (cur, .w (condF c xs) (factsF (c / 6) (wl xs 6)) (partsF (c / 6) (wl xs 6))) :: up⟩ := by
        unfold stepZ; dsimp only; rw [if_neg n1, if_pos ⟨c1, hup⟩]
      rw [e] at hz' ⊢
      refine ⟨Nat.zero_le _, fun ic hic => ?_⟩
      have s4 := same_new hic (.lst [])
      have k4 : (upd H3 ic (.lst [])) ic = some (.lst []) := upd_same
      generalize upd H3 ic (.lst []) = H4 at s4 k4 ⊢
      refine ⟨_, rfl, _, rfl, wa, _, _, _, rfl, rfl, SqL.of (s4 _ _ hw3), lastW, (.inl ⟨rfl, _, SqL.of (s4 _ _ hts)⟩), ?_⟩
      refine ⟨_, rfl, _, rfl, c, l, xs, rfl, s4 _ _ hl3, N.len, fun cd H5 e5' hcd => ?_⟩
      have e5 := s4.trans e5'
      refine ⟨_, rfl, _, _, rfl, rfl, (show CDiv _ 6 from ⟨by decide, by decide⟩), _, rfl, c / 6, l, xs, 6, rfl, e5 _ _ hl3, N.len, by decide, fun td fa pa H6 e6' nfa npa htd hF hP => ?_⟩
      have e6 := e5.trans e6'
      refine ⟨_, rfl, (show 4 ≤ sizeLine by decide), fun t ht => ?_⟩
      have s7' := same_new ht (.tup [.str "while", .ref cd, .ref td, .ref ic])
      have k7 : (upd H6 t (.tup [.str "while", .ref cd, .ref td, .ref ic])) t = some (.tup [.str "while", .ref cd, .ref td, .ref ic]) := upd_same
      generalize upd H6 t (.tup [.str "while", .ref cd, .ref td, .ref ic]) = H7 at s7' k7 ⊢
      have e7 := e6.trans s7'
      have f7 := e6'.trans s7'
      have hts7 := e7 _ _ hts
      have hw7 := e7 _ _ hw3
      refine ⟨top, _, _, rfl, rfl, hts7, lt_line (by rw [List.length_map, htl]; exact Nat.le_trans hcl (by decide)), ?_⟩
      have ntw : wa ≠ top := fun y => by have := Z.nd; rw [List.nodup_cons] at this; exact this.1 (by rw [y]; exact List.mem_cons_self ..)
      refine ⟨_, rfl, (.inl ⟨rfl, _, SqL.of (by rw [upd_ne ntw]; exact hw7)⟩), _, rfl, wa, _, _, rfl, rfl, (by rw [upd_ne ntw]; exact hw7), lt_line (by rw [lw]; omega), ?_⟩
      have opn : ∀ x, x ∈ wa :: ic :: top :: as → ∃ ys, H7 x = some (.lst ys) := fun x hx => by
        rcases List.mem_cons.mp hx with rfl | y1
        · exact ⟨_, hw7⟩
        · rcases List.mem_cons.mp y1 with rfl | y2
          · exact ⟨_, (e5'.trans f7) _ _ k4⟩
          · obtain ⟨ys, e⟩ := Z.lst x (List.mem_cons_of_mem _ y2)
            exact ⟨ys, e7 _ _ e⟩
      have nop : ∀ x, H5 x = none → ¬ x ∈ wa :: ic :: top :: as := fun x hx y => by
        rcases List.mem_cons.mp y with rfl | y1
        · rw [e5 _ _ hw3] at hx; cases hx
        · rcases List.mem_cons.mp y1 with rfl | y2
          · rw [e5' _ _ k4] at hx; cases hx
          · obtain ⟨ys, e⟩ := Z.lst x (List.mem_cons_of_mem _ y2)
            rw [e5 _ _ e] at hx; cases hx
      refine ⟨ic, top :: as, _, _, _, _, _, rfl, ZS.push (z := ⟨cur, up⟩) Z e7 hup hic ((e5'.trans f7) _ _ k4) hts7 ?_, by rw [List.getLast?_cons_cons]; exact hlast, hz'⟩
      exact .w cd td fa pa _ _ _ (rm_tup opn k7) (rm_tup opn (f7 _ _ hcd)) (RowW.ok N (cond_w c xs)) (rm_tup opn (s7' _ _ htd)) (rm_rows opn (nop fa nfa) (hF.same s7')) (rm_rows opn (nop pa npa) (hP.same s7')) (fun r hr => RowW.ok N (facts_w (by decide) hr).1) (fun r hr => RowW.ok N (parts_w (by decide) hr).1) (Nat.le_trans (facts_len _ _) (by decide)) (Nat.le_trans (parts_len _ _) (by decide))
    have n2 : ¬ (c % 6 < 2 ∧ up.length < 4) := fun z => cn2 ⟨z.1, by omega⟩
    refine and_two (A := V.int (c % 6) = V.int 2) (B := (((top :: as).reverse.map V.ref).length : Int) < 5) (fun Q' q' => ⟨_, rfl, rfl, _, rfl, q'⟩) (fun Q' q' => ⟨_, rfl, wa, _, rfl, .inl (SqL.of hw3), _, _, rfl, rfl, _, rfl, q'⟩) (fun c1 c2 => (if_pos rfl).mpr ?_) (fun cn3 => (if_neg Bool.false_ne_true).mpr ?_)
    · have hup : up.length < 4 := by omega
      have k2c : c % 6 = 2 := V.int.inj c1
      refine ⟨Nat.zero_le _, fun ic hic => ?_⟩
      have s4 := same_new hic (.lst [])
      have k4 : (upd H3 ic (.lst [])) ic = some (.lst []) := upd_same
      generalize upd H3 ic (.lst []) = H4 at s4 k4 ⊢
      dsimp only [gName]
      have hl4 := s4 _ _ hl3
      have a3 : atI (xs.map V.str) 3 = some (.str (nx xs 3)) := nx_at (j := 3) rfl (by rw [N.len]; decide)
      have a0 : atI (xs.map V.str) 0 = some (.str (nx xs 0)) := nx_at (j := 0) rfl (by rw [N.len]; decide)
      refine ⟨_, rfl, l, _, _, _, rfl, rfl, SqL.of hl4, a3, ?_⟩
      refine ⟨_, rfl, l, _, _, _, rfl, rfl, SqL.of hl4, a0, (show 3 ≤ sizeLine by decide), fun tn htn => ?_⟩
      have s5 := same_new htn (.tup [.str "set", .str (nx xs 3), .str (nx xs 0)])
      have k5 : (upd H4 tn (.tup [.str "set", .str (nx xs 3), .str (nx xs 0)])) tn = some (.tup [.str "set", .str (nx xs 3), .str (nx xs 0)]) := upd_same
      generalize upd H4 tn (.tup [.str "set", .str (nx xs 3), .str (nx xs 0)]) = H5 at s5 k5 ⊢
      refine ⟨(show 1 ≤ sizeLine by decide), fun ln hln => ?_⟩
      have s6 := same_new hln (.lst [.ref tn])
      have k6 : (upd H5 ln (.lst [.ref tn])) ln = some (.lst [.ref tn]) := upd_same
      generalize upd H5 ln (.lst [.ref tn]) = H6 at s6 k6 ⊢
      have d2 := Int.emod_nonneg (c / 6) (show (2 : Int) ≠ 0 by decide)
      have d2' := Int.emod_lt_of_pos (c / 6) (show (0 : Int) < 2 by decide)
      refine ⟨_, rfl, _, _, rfl, rfl, (show CDiv _ 6 from ⟨by decide, by decide⟩), _, _, rfl, rfl, (show (0 : Int) < 2 by decide), ln, _, _, rfl, rfl, k6, (by omega), (by omega), le_line (by show 1 * _ ≤ 1000; omega), fun oc hoc => ?_⟩
      have efl : ∀ k : Nat, (List.replicate k [V.ref tn]).flatten = (List.replicate k tn).map V.ref := fun k => by
        induction k with
        | zero => rfl
        | succ k ih => rw [List.replicate_succ, List.flatten_cons, ih]; rfl
      rw [efl]
      have s7 := same_new hoc (.lst ((List.replicate (c / 6 % 2).toNat tn).map V.ref))
      have k7 : (upd H6 oc (.lst ((List.replicate (c / 6 % 2).toNat tn).map V.ref))) oc = some (.lst ((List.replicate (c / 6 % 2).toNat tn).map V.ref)) := upd_same
      generalize upd H6 oc (.lst ((List.replicate (c / 6 % 2).toNat tn).map V.ref)) = H7 at s7 k7 ⊢
      have e47 := (s5.trans s6).trans s7
      refine ⟨_, rfl, _, rfl, (show 2 ≤ sizeLine by decide), fun d1 hd1 => ?_⟩
      have s8 := same_new hd1 (.lst [.ref ic, .ref oc])
      have k8 : (upd H7 d1 (.lst [.ref ic, .ref oc])) d1 = some (.lst [.ref ic, .ref oc]) := upd_same
      generalize upd H7 d1 (.lst [.ref ic, .ref oc]) = H8 at s8 k8 ⊢
      refine ⟨_, rfl, _, rfl, (show 2 ≤ sizeLine by decide), fun d2x hd2 => ?_⟩
      have s9 := same_new hd2 (.lst [.ref oc, .ref ic])
      have k9 : (upd H8 d2x (.lst [.ref oc, .ref ic])) d2x = some (.lst [.ref oc, .ref ic]) := upd_same
      generalize upd H8 d2x (.lst [.ref oc, .ref ic]) = H9 at s9 k9 ⊢
      refine ⟨(show 2 ≤ sizeLine by decide), fun d3 hd3 => ?_⟩
      have s10 := same_new hd3 (.lst [.ref d1, .ref d2x])
      have k10 : (upd H9 d3 (.lst [.ref d1, .ref d2x])) d3 = some (.lst [.ref d1, .ref d2x]) := upd_same
      generalize upd H9 d3 (.lst [.ref d1, .ref d2x]) = H10 at s10 k10 ⊢
      have e710 := (s8.trans s9).trans s10
      have g2 := Int.emod_nonneg (c / 12) (show (2 : Int) ≠ 0 by decide)
      have g2' := Int.emod_lt_of_pos (c / 12) (show (0 : Int) < 2 by decide)
      obtain ⟨p, r, dd, hdd, hat, hpr⟩ : ∃ p r dd, H10 dd = some (.lst [.ref p, .ref r]) ∧ atI [V.ref d1, V.ref d2x] (c / 12 % 2) = some (.ref dd) ∧ ((c / 12 % 2 = 0 ∧ p = ic ∧ r = oc) ∨ (¬ c / 12 % 2 = 0 ∧ p = oc ∧ r = ic)) := by
        by_cases g : c / 12 % 2 = 0
        · exact ⟨ic, oc, d1, (s9.trans s10) _ _ k8, by rw [g]; rfl, .inl ⟨g, rfl, rfl⟩⟩
        · exact ⟨oc, ic, d2x, s10 _ _ k9, by rw [show c / 12 % 2 = 1 by omega]; rfl, .inr ⟨g, rfl, rfl⟩⟩
      refine ⟨_, rfl, _, _, rfl, rfl, (show CDiv _ 12 from ⟨by decide, by decide⟩), _, _, rfl, rfl, (show (0 : Int) < 2 by decide), d3, _, _, _, rfl, rfl, SqL.of k10, hat, ?_⟩
      have e310 := s4.trans (e47.trans e710)
      refine ⟨_, rfl, _, rfl, wa, _, _, _, rfl, rfl, SqL.of (e310 _ _ hw3), lastW, (.inl ⟨rfl, _, SqL.of (e310 _ _ hts)⟩), ?_⟩
      refine ⟨_, rfl, _, rfl, c, l, xs, rfl, e310 _ _ hl3, N.len, fun cd H11 e11' hcd => ?_⟩
      have hdd11 := e11' _ _ hdd
      refine ⟨_, rfl, dd, _, _, _, rfl, rfl, SqL.of hdd11, rfl, _, rfl, dd, _, _, _, rfl, rfl, SqL.of hdd11, rfl, (show 4 ≤ sizeLine by decide), fun t ht => ?_⟩
      have s12 := same_new ht (.tup [.str "if", .ref cd, .ref p, .ref r])
      have k12 : (upd H11 t (.tup [.str "if", .ref cd, .ref p, .ref r])) t = some (.tup [.str "if", .ref cd, .ref p, .ref r]) := upd_same
      generalize upd H11 t (.tup [.str "if", .ref cd, .ref p, .ref r]) = H12 at s12 k12 ⊢
      have e1012 := e11'.trans s12
      have e12 := e310.trans e1012
      have e412 := (e47.trans e710).trans e1012
      have hts12 := e12 _ _ hts
      have hw12 := e12 _ _ hw3
      refine ⟨top, _, _, rfl, rfl, hts12, lt_line (by rw [List.length_map, htl]; exact Nat.le_trans hcl (by decide)), ?_⟩
      have ntw : wa ≠ top := fun y => by have := Z.nd; rw [List.nodup_cons] at this; exact this.1 (by rw [y]; exact List.mem_cons_self ..)
      refine ⟨_, rfl, (.inl ⟨rfl, _, SqL.of (by rw [upd_ne ntw]; exact hw12)⟩), _, rfl, wa, _, _, rfl, rfl, (by rw [upd_ne ntw]; exact hw12), lt_line (by rw [lw]; omega), ?_⟩
      have opn : ∀ x, x ∈ wa :: ic :: top :: as → ∃ ys, H12 x = some (.lst ys) := fun x hx => by
        rcases List.mem_cons.mp hx with rfl | y1
        · exact ⟨_, hw12⟩
        · rcases List.mem_cons.mp y1 with rfl | y2
          · exact ⟨_, e412 _ _ k4⟩
          · obtain ⟨ys, e⟩ := Z.lst x (List.mem_cons_of_mem _ y2)
            exact ⟨ys, e12 _ _ e⟩
      have nop : ¬ oc ∈ wa :: ic :: top :: as := fun y => by
        have e46 := s5.trans s6
        rcases List.mem_cons.mp y with y0 | y1
        · rw [y0, e46 _ _ (s4 _ _ hw3)] at hoc; cases hoc
        · rcases List.mem_cons.mp y1 with y1 | y2
          · rw [y1, e46 _ _ k4] at hoc; cases hoc
          · obtain ⟨ys, e⟩ := Z.lst oc (List.mem_cons_of_mem _ y2)
            rw [e46 _ _ (s4 _ _ e)] at hoc; cases hoc
      have hoth : ListX K (rm (fun x => x ∈ wa :: ic :: top :: as) H12) (B (4 - up.length)) oc (List.replicate (c / 6 % 2).toNat (setD (nx xs 3) (nx xs 0))) := by
        rw [show 4 - up.length = (3 - up.length) + 1 by omega]
        refine ⟨List.replicate (c / 6 % 2).toNat tn, by rw [rm_at nop]; exact (e710.trans e1012) _ _ k7, rep_pair _ ?_, by rw [List.length_replicate]; omega⟩
        exact .plain _ (rm_tup opn ((s6.trans (s7.trans (e710.trans e1012))) _ _ k5)) (set_pl N (by decide) (by decide))
      have e : stepZ xs ⟨cur, up⟩ c = ⟨[], (cur, if c / 12 % 2 = 0 then .i1 (condF c xs) (List.replicate (c / 6 % 2).toNat (setD (nx xs 3) (nx xs 0))) else .i2 (condF c xs) (List.replicate (c / 6 % 2).toNat (setD (nx xs 3) (nx xs 0)))) :: up⟩ := by
        unfold stepZ; dsimp only; rw [if_neg n1, if_neg n2, if_pos ⟨k2c, hup⟩]
      rw [e] at hz' ⊢
      refine ⟨ic, top :: as, _, _, _, _, _, rfl, ZS.push (z := ⟨cur, up⟩) Z e12 hup hic (e412 _ _ k4) hts12 ?_, by rw [List.getLast?_cons_cons]; exact hlast, hz'⟩
      rcases hpr with ⟨g, rfl, rfl⟩ | ⟨g, rfl, rfl⟩
      · rw [if_pos g]; exact .i1 cd _ _ _ (rm_tup opn k12) (rm_tup opn (s12 _ _ hcd)) (RowW.ok N (cond_w c xs)) hoth
      · rw [if_neg g]; exact .i2 cd _ _ _ (rm_tup opn k12) (rm_tup opn (s12 _ _ hcd)) (RowW.ok N (cond_w c xs)) hoth
    have n3 : ¬ (c % 6 = 2 ∧ up.length < 4) := fun z => cn3 ⟨congrArg V.int z.1, by omega⟩
    refine ⟨_, rfl, _, rfl, wa, _, _, _, rfl, rfl, SqL.of hw3, lastW, (.inl ⟨rfl, _, SqL.of hts⟩), ?_⟩
    have b3 := Int.emod_nonneg (c / 6) (show (3 : Int) ≠ 0 by decide)
    have b3' := Int.emod_lt_of_pos (c / 6) (show (0 : Int) < 3 by decide)
    have b6 := Int.emod_nonneg (c / 18) (show (6 : Int) ≠ 0 by decide)
    have b6' := Int.emod_lt_of_pos (c / 18) (show (0 : Int) < 6 by decide)
    refine ⟨_, rfl, _, rfl, _, _, rfl, rfl, (show CDiv _ 6 from ⟨by decide, by decide⟩), _, _, rfl, rfl, (show (0 : Int) < 3 by decide), _, _, rfl, rfl, l, _, _, _, rfl, rfl, SqL.of hl3, nx_at (j := (2 + c / 6 % 3).toNat) (by omega) (by rw [N.len]; omega), ?_⟩
    refine ⟨_, rfl, _, rfl, _, _, rfl, rfl, (show CDiv _ 18 from ⟨by decide, by decide⟩), _, _, rfl, rfl, (show (0 : Int) < 6 by decide), l, _, _, _, rfl, rfl, SqL.of hl3, nx_at (j := (c / 18 % 6).toNat) (by omega) (by rw [N.len]; omega), (show 3 ≤ sizeLine by decide), fun t ht => ?_⟩
    have s4 := same_new ht (.tup [.str "set", .str (nx xs (2 + c / 6 % 3).toNat), .str (nx xs (c / 18 % 6).toNat)])
    have k4 : (upd H3 t (.tup [.str "set", .str (nx xs (2 + c / 6 % 3).toNat), .str (nx xs (c / 18 % 6).toNat)])) t = some (.tup [.str "set", .str (nx xs (2 + c / 6 % 3).toNat), .str (nx xs (c / 18 % 6).toNat)]) := upd_same
    generalize upd H3 t (.tup [.str "set", .str (nx xs (2 + c / 6 % 3).toNat), .str (nx xs (c / 18 % 6).toNat)]) = H4 at s4 k4 ⊢
    have hts4 := s4 _ _ hts
    refine ⟨top, _, _, rfl, rfl, hts4, lt_line (by rw [List.length_map, htl]; exact Nat.le_trans hcl (by decide)), ?_⟩
    have Z4 := Z.same s4
    have e : stepZ xs ⟨cur, up⟩ c = ⟨cur ++ [setD (nx xs (2 + c / 6 % 3).toNat) (nx xs (c / 18 % 6).toNat)], up⟩ := by
      unfold stepZ; dsimp only; rw [if_neg n1, if_neg n2, if_neg n3]
    rw [e] at hz' ⊢
    refine ⟨top, as, _, _, _, _, _, rfl, ZS.app Z4 hts4 (.plain _ ?_ (set_pl N (by omega) (by omega))), hlast, hz'⟩
    exact rm_tup (fun x hx => Z4.lst x hx) k4
  rintro σ H3 ⟨top, as, z4, z5, z6, z7, z8, rfl, Z, hlast, hz⟩
  rw [List.length_map, List.take_length] at Z hz
  obtain ⟨bd', g1, g2⟩ := ZS.close (cur := (bodyZ xs cs).cur) (up := (bodyZ xs cs).up) Z (Nat.le_trans hz.1 (by omega)) fun x hx => Nat.lt_of_lt_of_le (hz.2 x hx) (by omega)
  rw [hlast] at g1; cases g1
  exact hN1 _ _ ⟨_, rfl, q bd H3 Z.e hbd (g2.same rm_back)⟩
end
end K60
namespace K60
open PySem PySem.Spec L2 Mir
noncomputable abbrev sProg : Stmt := top 32
noncomputable def secI (cs : List Int) : List Int := (cs.drop (min 3 cs.length)).take (min 13 cs.length - min 3 cs.length)
theorem sec_len (cs : List Int) : (secI cs).length ≤ 10 := by
  unfold secI; rw [List.length_take, List.length_drop]; omega
theorem cut_sec (cs : List Int) : cutV (cs.map V.int) (some 3) (some 13) = (secI cs).map V.int := by
  unfold cutV secI
  rw [show (3 : Int) = ((3 : Nat) : Int) from rfl, show (13 : Int) = ((13 : Nat) : Int) from rfl, HT.sIx_nat, HT.sIx_nat, List.length_map, List.map_take, List.map_drop]
noncomputable def manyF (cs : List Int) : Nat := (1 + cellAt cs 1 % 2).toNat
noncomputable def mainP (xs : List Str) (cs : List Int) : Prc where
  name := nx xs 6
  res := if cellAt cs 1 / 2 % 2 = 0 then "" else nx xs 4
  ps := xs.take (manyF cs)
  F1 := factsF (cellAt cs 2) (wl xs (manyF cs))
  P1 := partsF (cellAt cs 2) (wl xs (manyF cs))
  F2 := factsF (cellAt cs 1 / 4) (wl xs (manyF cs))
  P2 := partsF (cellAt cs 1 / 4) (wl xs (manyF cs))
  body := bodyF xs (secI cs)
noncomputable def otherP (xs : List Str) : Prc where
  name := nx xs 7
  res := ""
  ps := [nx xs 5]
  F1 := []
  P1 := []
  F2 := []
  P2 := []
  body := [.plain (.row ["free", nx xs 5])]
noncomputable def progF (xs : List Str) (cs : List Int) : List Prc := if cellAt cs 2 / 9 % 2 = 0 then [mainP xs cs, otherP xs] else [otherP xs, mainP xs cs]
inductive spProg (K : PySem.W.Frag) (vs : List V) (H : Hp) (Q : VK) (E : XK) : Prop
  | mk (a l : Addr) (cs : List Int) (xs : List Str) (h0 : vs = [.ref a, .ref l]) (h1 : SqL K H a (cs.map V.int)) (h3 : H l = some (.lst (xs.map V.str))) (h4 : Names8 xs)
      (q : ∀ pl ts H', Same H H' → H' pl = some (.lst (ts.map V.ref)) → Paired (PrcAt K H' (B 5)) ts (progF xs cs) → Q (.ref pl) H') : spProg K vs H Q E
theorem free_pl {xs : List Str} (N : Names8 xs) : PlOk (.row ["free", nx xs 5]) := by
  refine ⟨⟨"free", [nx xs 5], ["name"], rfl, by decide +kernel, rfl⟩, fun y hy => ?_⟩
  simp only [List.mem_cons, List.not_mem_nil, or_false] at hy
  rcases hy with rfl | rfl
  · exact ok_words _ (by simp)
  · exact ok_name (N.ok _ (nx_in (by rw [N.len]; decide))).1
section
variable {P : Program} {w : World} {K : PySem.W.Frag} {mg : Str → Option Value} {base : Heap} {f gC gT gB : Addr} {fd dC dT dB : FuncData}
theorem scProg : FnScope ["_law_script", "_law_n", "_law_cell", "_law_many", "_law_result", "_law_before", "_law_after", "_law_procedure", "_law_other"] ["_law_script", "_law_n"] (defScope sProg) := ⟨rfl, rfl, rfl, by decide +kernel, rfl, by decide +kernel, by decide +kernel⟩
theorem ok_prog (C : Con K mg w) (F : Fun K "_law_program" "_law_program" sProg f fd) (GC : FnOk P w K mg base CX0 1 gC dC ["_law_script", "_law_k"] (spCell K)) (cC : Cal K mg "_law_cell_at" gC dC ["_law_script", "_law_k"]) (GT : FnOk P w K mg base CX0 2 gT dT ["_law_cell", "_law_n", "_law_many"] (spTelling K)) (cT : Cal K mg "_law_telling" gT dT ["_law_cell", "_law_n", "_law_many"]) (GB : FnOk P w K mg base CX0 3 gB dB ["_law_cells", "_law_n"] (spBody K)) (cB : Cal K mg "_law_body" gB dB ["_law_cells", "_law_n"]) : FnOk P w K mg base CX0 4 f fd ["_law_script", "_law_n"] (spProg K) := by
  refine F.okQ scProg (fun vs H Q E h => ?_) (fun cdv A outer s0 H vs Q E hr h => ?_)
  · obtain ⟨a, l, cs, xs, rfl, _⟩ := h; rfl
  obtain ⟨a, l, cs, xs, rfl, hcs, hl, N, q⟩ := h
  have nd := scProg.nd
  have hr1 := hr.mono (j := 1) (by omega)
  have hr2 := hr.mono (j := 2) (by omega)
  refine ⟨_, qb_cons (qs_set (i := 2) nd rfl (Or.inl rfl) (qe_call GC hr1 rfl cC.name cC.keep cC.bind .nil pass0 (qa_nm (qv 0) (qa_int qa_nil))))
    (qb_cons (qs_set (i := 3) nd rfl (Or.inl rfl) (qe_op op_add qe_int (qe_op op_mod (qv 2) qe_int)))
    (qb_cons (qs_set (i := 4) nd rfl (Or.inl rfl) (qe_ix ix_list (qe_lst (qa_str (qa_sub (qe_ix ix_list (qv 1) qe_int (fun _ _ => rfl)) qa_nil))) (qe_op op_mod (qe_op op_fdiv (qv 2) qe_int) qe_int) (fun _ _ => rfl)))
    (qb_cons (qs_set (i := 5) nd rfl (Or.inl rfl) (qe_call GT hr2 rfl cT.name cT.keep cT.bind .nil pass0 (qa_call (qe_call GC hr1 rfl cC.name cC.keep cC.bind .nil pass0 (qa_nm (qv 0) (qa_int qa_nil))) (qa_nm (qv 1) (qa_nm (qv 3) qa_nil)))))
    (qb_cons (qs_set (i := 6) nd rfl (Or.inl rfl) (qe_call GT hr2 rfl cT.name cT.keep cT.bind .nil pass0 (qa_bop (qe_op op_fdiv (qv 2) qe_int) (qa_nm (qv 1) (qa_nm (qv 3) qa_nil)))))
    (qb_cons (qs_set (i := 7) nd rfl (Or.inl rfl) (qe_tup (qa_sub (qe_ix ix_list (qv 1) qe_int (fun _ _ => rfl)) (qa_call (qe_callTy call_tuple_of rfl C.tuple PyProof.Rows.boot_tuple (qa_sub (qe_slice sl_list (qv 1) qo_none (qo_some (qv 3))) qa_nil)) (qa_nm (qv 4) (qa_nm (qv 5) (qa_nm (qv 6) (qa_call (qe_call GB hr rfl cB.name cB.keep cB.bind .nil pass0 (qa_sub (qe_slice sl_list (qv 0) (qo_some qe_int) (qo_some qe_int)) (qa_nm (qv 1) qa_nil))) qa_nil))))))))
    (qb_cons (qs_set (i := 8) nd rfl (Or.inl rfl) (qe_tup (qa_sub (qe_ix ix_list (qv 1) qe_int (fun _ _ => rfl)) (qa_tp (qa_sub (qe_ix ix_list (qv 1) qe_int (fun _ _ => rfl)) qa_nil) (qa_str (qa_tp (qa_ls qa_nil (qa_ls qa_nil qa_nil)) (qa_tp (qa_ls qa_nil (qa_ls qa_nil qa_nil)) (qa_ls (qa_tp (qa_str (qa_sub (qe_ix ix_list (qv 1) qe_int (fun _ _ => rfl)) qa_nil)) qa_nil) qa_nil))))))))
    (qb_one (qs_ret (qe_ix ix_list (qe_lst (qa_ls (qa_nm (qv 7) (qa_nm (qv 8) qa_nil)) (qa_ls (qa_nm (qv 8) (qa_nm (qv 7) qa_nil)) qa_nil))) (qe_op op_mod (qe_op op_fdiv (qe_call GC hr1 rfl cC.name cC.keep cC.bind .nil pass0 (qa_nm (qv 0) (qa_int qa_nil))) qe_int) qe_int) (fun _ _ => rfl)))))))))), ?_⟩
  have m2 := Int.emod_nonneg (cellAt cs 1) (show (2 : Int) ≠ 0 by decide)
  have m2' := Int.emod_lt_of_pos (cellAt cs 1) (show (0 : Int) < 2 by decide)
  have r2 := Int.emod_nonneg (cellAt cs 1 / 2) (show (2 : Int) ≠ 0 by decide)
  have r2' := Int.emod_lt_of_pos (cellAt cs 1 / 2) (show (0 : Int) < 2 by decide)
  have o2 := Int.emod_nonneg (cellAt cs 2 / 9) (show (2 : Int) ≠ 0 by decide)
  have o2' := Int.emod_lt_of_pos (cellAt cs 2 / 9) (show (0 : Int) < 2 by decide)
  have hm : 1 + cellAt cs 1 % 2 = ((manyF cs : Nat) : Int) := by unfold manyF; omega
  have hm6 : manyF cs ≤ 6 := by unfold manyF; omega
  refine ⟨_, rfl, a, cs, 1, rfl, hcs, ?_⟩
  refine ⟨_, rfl, _, _, rfl, rfl, (show (0 : Int) < 2 by decide), _, _, rfl, rfl, ?_⟩
  show gName _ (V.int (1 + cellAt cs 1 % 2)) _ _ _
  rw [hm]
  have a4 : atI (xs.map V.str) 4 = some (.str (nx xs 4)) := nx_at (j := 4) rfl (by rw [N.len]; decide)
  have a5 : atI (xs.map V.str) 5 = some (.str (nx xs 5)) := nx_at (j := 5) rfl (by rw [N.len]; decide)
  have a6 : atI (xs.map V.str) 6 = some (.str (nx xs 6)) := nx_at (j := 6) rfl (by rw [N.len]; decide)
  have a7 : atI (xs.map V.str) 7 = some (.str (nx xs 7)) := nx_at (j := 7) rfl (by rw [N.len]; decide)
  refine ⟨_, rfl, l, _, _, _, rfl, rfl, SqL.of hl, a4, (show 2 ≤ sizeLine by decide), fun l1 hl1 => ?_⟩
  have s1 := same_new hl1 (.lst [.str "", .str (nx xs 4)])
  have k1 : (upd H l1 (.lst [.str "", .str (nx xs 4)])) l1 = some (.lst [.str "", .str (nx xs 4)]) := upd_same
  generalize upd H l1 (.lst [.str "", .str (nx xs 4)]) = H1 at s1 k1 ⊢
  have hres : atI [V.str "", V.str (nx xs 4)] (cellAt cs 1 / 2 % 2) = some (.str (mainP xs cs).res) := by
    show _ = some (V.str (if cellAt cs 1 / 2 % 2 = 0 then "" else nx xs 4))
    by_cases g : cellAt cs 1 / 2 % 2 = 0
    · rw [if_pos g, g]; rfl
    · rw [if_neg g, show cellAt cs 1 / 2 % 2 = 1 by omega]; rfl
  refine ⟨_, rfl, _, _, rfl, rfl, (show CDiv _ 2 from ⟨by decide, by decide⟩), _, _, rfl, rfl, (show (0 : Int) < 2 by decide), l1, _, _, _, rfl, rfl, SqL.of k1, hres, ?_⟩
  refine ⟨_, rfl, a, cs, 2, rfl, s1.seq hcs, _, rfl, _, rfl, cellAt cs 2, l, xs, manyF cs, rfl, s1 _ _ hl, N.len, hm6, fun t1 f1 p1 H2 e2' _ _ ht1 hF1 hP1 => ?_⟩
  have e2 := s1.trans e2'
  refine ⟨_, rfl, _, _, rfl, rfl, (show CDiv _ 4 from ⟨by decide, by decide⟩), _, rfl, _, rfl, cellAt cs 1 / 4, l, xs, manyF cs, rfl, e2 _ _ hl, N.len, hm6, fun t2 f2 p2 H3 e3' _ _ ht2 hF2 hP2 => ?_⟩
  have e3 := e2.trans e3'
  refine ⟨_, rfl, l, _, _, _, rfl, rfl, SqL.of (e3 _ _ hl), a6, ?_⟩
  refine ⟨_, rfl, _, rfl, _, rfl, l, _, rfl, SqL.of (e3 _ _ hl), fun l4 hl4 => ?_⟩
  rw [cut_takeS xs (manyF cs)]
  have s4 := same_new hl4 (.lst ((xs.take (manyF cs)).map V.str))
  have k4 : (upd H3 l4 (.lst ((xs.take (manyF cs)).map V.str))) l4 = some (.lst ((xs.take (manyF cs)).map V.str)) := upd_same
  generalize upd H3 l4 (.lst ((xs.take (manyF cs)).map V.str)) = H4 at s4 k4 ⊢
  refine ⟨l4, _, rfl, .inl ⟨SqL.of k4, fun pt hpt => ?_⟩⟩
  have s5 := same_new hpt (.tup ((xs.take (manyF cs)).map V.str))
  have k5 : (upd H4 pt (.tup ((xs.take (manyF cs)).map V.str))) pt = some (.tup ((xs.take (manyF cs)).map V.str)) := upd_same
  generalize upd H4 pt (.tup ((xs.take (manyF cs)).map V.str)) = H5 at s5 k5 ⊢
  have e5 := e3.trans (s4.trans s5)
  refine ⟨_, rfl, _, rfl, _, rfl, _, rfl, _, rfl, _, rfl, a, _, rfl, e5.seq hcs, fun l6 hl6 => ?_⟩
  rw [cut_sec]
  have s6 := same_new hl6 (.lst ((secI cs).map V.int))
  have k6 : (upd H5 l6 (.lst ((secI cs).map V.int))) l6 = some (.lst ((secI cs).map V.int)) := upd_same
  generalize upd H5 l6 (.lst ((secI cs).map V.int)) = H6 at s6 k6 ⊢
  have e6 := e5.trans s6
  refine ⟨_, rfl, l6, l, secI cs, xs, rfl, SqL.of k6, sec_len cs, e6 _ _ hl, N, fun bd H7 e7' _ hbd => ?_⟩
  have e7 := e6.trans e7'
  refine ⟨(show 6 ≤ sizeLine by decide), fun t ht => ?_⟩
  have s8 := same_new ht (.tup [.str (nx xs 6), .ref pt, .str (mainP xs cs).res, .ref t1, .ref t2, .ref bd])
  have k8 : (upd H7 t (.tup [.str (nx xs 6), .ref pt, .str (mainP xs cs).res, .ref t1, .ref t2, .ref bd])) t = some (.tup [.str (nx xs 6), .ref pt, .str (mainP xs cs).res, .ref t1, .ref t2, .ref bd]) := upd_same
  generalize upd H7 t (.tup [.str (nx xs 6), .ref pt, .str (mainP xs cs).res, .ref t1, .ref t2, .ref bd]) = H8 at s8 k8 ⊢
  have e58 := s6.trans (e7'.trans s8)
  have e38 := (s4.trans s5).trans e58
  have hok : ∀ j, j < 8 → Ok (nx xs j) := fun j hj => ok_name (N.ok _ (nx_in (by rw [N.len]; exact hj))).1
  have hmain : PrcAt K H8 (B 5) t (mainP xs cs) := by
    refine ⟨pt, t1, t2, f1, p1, f2, p2, bd, k8, e58 _ _ k5, (e3'.trans e38) _ _ ht1, e38 _ _ ht2, hF1.same (e3'.trans e38), hP1.same (e3'.trans e38), hF2.same e38, hP2.same e38, hbd.same s8, hok 6 (by decide), ?_, fun y hy => ok_name (N.ok y (List.mem_of_mem_take hy)).1, ⟨fun r hr => RowW.ok N (facts_w hm6 hr).1, fun r hr => RowW.ok N (parts_w hm6 hr).1⟩, ⟨fun r hr => RowW.ok N (facts_w hm6 hr).1, fun r hr => RowW.ok N (parts_w hm6 hr).1⟩, ⟨Nat.le_trans (facts_len _ _) (by decide), Nat.le_trans (parts_len _ _) (by decide)⟩, ⟨Nat.le_trans (facts_len _ _) (by decide), Nat.le_trans (parts_len _ _) (by decide)⟩⟩
    show Ok (if cellAt cs 1 / 2 % 2 = 0 then "" else nx xs 4)
    by_cases g : cellAt cs 1 / 2 % 2 = 0
    · rw [if_pos g]; exact ok_words _ (by simp)
    · rw [if_neg g]; exact hok 4 (by decide)
  have e8 := e7.trans s8
  have hl8 := e8 _ _ hl
  clear hF1 hP1 hF2 hP2 ht1 ht2 hbd k8 k5 k6 k4 k1 s8 e58 e38 s6 e7' s4 s5 e3' e2'
  refine ⟨_, rfl, l, _, _, _, rfl, rfl, SqL.of hl8, a7, ?_⟩
  refine ⟨_, rfl, l, _, _, _, rfl, rfl, SqL.of hl8, a5, (show 1 ≤ sizeLine by decide), fun q1 hq1 => ?_⟩
  have s9 := same_new hq1 (.tup [.str (nx xs 5)])
  have k9 : (upd H8 q1 (.tup [.str (nx xs 5)])) q1 = some (.tup [.str (nx xs 5)]) := upd_same
  generalize upd H8 q1 (.tup [.str (nx xs 5)]) = H9 at s9 k9 ⊢
  refine ⟨Nat.zero_le _, fun q2 hq2 => ?_⟩
  have s10 := same_new hq2 (.lst [])
  have k10 : (upd H9 q2 (.lst [])) q2 = some (.lst []) := upd_same
  generalize upd H9 q2 (.lst []) = H10 at s10 k10 ⊢
  refine ⟨Nat.zero_le _, fun q3 hq3 => ?_⟩
  have s11 := same_new hq3 (.lst [])
  have k11 : (upd H10 q3 (.lst [])) q3 = some (.lst []) := upd_same
  generalize upd H10 q3 (.lst []) = H11 at s11 k11 ⊢
  refine ⟨(show 2 ≤ sizeLine by decide), fun q4 hq4 => ?_⟩
  have s12 := same_new hq4 (.tup [.ref q2, .ref q3])
  have k12 : (upd H11 q4 (.tup [.ref q2, .ref q3])) q4 = some (.tup [.ref q2, .ref q3]) := upd_same
  generalize upd H11 q4 (.tup [.ref q2, .ref q3]) = H12 at s12 k12 ⊢
  refine ⟨Nat.zero_le _, fun q5 hq5 => ?_⟩
  have s13 := same_new hq5 (.lst [])
  have k13 : (upd H12 q5 (.lst [])) q5 = some (.lst []) := upd_same
  generalize upd H12 q5 (.lst []) = H13 at s13 k13 ⊢
  refine ⟨Nat.zero_le _, fun q6 hq6 => ?_⟩
  have s14 := same_new hq6 (.lst [])
  have k14 : (upd H13 q6 (.lst [])) q6 = some (.lst []) := upd_same
  generalize upd H13 q6 (.lst []) = H14 at s14 k14 ⊢
  refine ⟨(show 2 ≤ sizeLine by decide), fun q7 hq7 => ?_⟩
  have s15 := same_new hq7 (.tup [.ref q5, .ref q6])
  have k15 : (upd H14 q7 (.tup [.ref q5, .ref q6])) q7 = some (.tup [.ref q5, .ref q6]) := upd_same
  generalize upd H14 q7 (.tup [.ref q5, .ref q6]) = H15 at s15 k15 ⊢
  have e815 := s9.trans (s10.trans (s11.trans (s12.trans (s13.trans (s14.trans s15)))))
  refine ⟨_, rfl, l, _, _, _, rfl, rfl, SqL.of (e815 _ _ hl8), a5, (show 2 ≤ sizeLine by decide), fun q8 hq8 => ?_⟩
  have s16 := same_new hq8 (.tup [.str "free", .str (nx xs 5)])
  have k16 : (upd H15 q8 (.tup [.str "free", .str (nx xs 5)])) q8 = some (.tup [.str "free", .str (nx xs 5)]) := upd_same
  generalize upd H15 q8 (.tup [.str "free", .str (nx xs 5)]) = H16 at s16 k16 ⊢
  refine ⟨(show 1 ≤ sizeLine by decide), fun q9 hq9 => ?_⟩
  have s17 := same_new hq9 (.lst [.ref q8])
  have k17 : (upd H16 q9 (.lst [.ref q8])) q9 = some (.lst [.ref q8]) := upd_same
  generalize upd H16 q9 (.lst [.ref q8]) = H17 at s17 k17 ⊢
  refine ⟨(show 6 ≤ sizeLine by decide), fun u hu => ?_⟩
  have s18 := same_new hu (.tup [.str (nx xs 7), .ref q1, .str "", .ref q4, .ref q7, .ref q9])
  have k18 : (upd H17 u (.tup [.str (nx xs 7), .ref q1, .str "", .ref q4, .ref q7, .ref q9])) u = some (.tup [.str (nx xs 7), .ref q1, .str "", .ref q4, .ref q7, .ref q9]) := upd_same
  generalize upd H17 u (.tup [.str (nx xs 7), .ref q1, .str "", .ref q4, .ref q7, .ref q9]) = H18 at s18 k18 ⊢
  have g17 := s17.trans s18
  have g16 := s16.trans g17
  have g15 := s15.trans g16
  have g14 := s14.trans g15
  have g13 := s13.trans g14
  have g12 := s12.trans g13
  have g11 := s11.trans g12
  have g10 := s10.trans g11
  have g9 := s9.trans g10
  have emp : ∀ {H : Hp} {c : Addr}, H c = some (.lst []) → RowsAt K H c [] := fun h => ⟨[], h, .nil⟩
  have ok0 : (∀ r ∈ ([] : List (List Str)), ∀ y ∈ r, Ok y) ∧ ∀ r ∈ ([] : List (List Str)), ∀ y ∈ r, Ok y := ⟨fun r hr => absurd hr (List.not_mem_nil), fun r hr => absurd hr (List.not_mem_nil)⟩
  have hoth : PrcAt K H18 (B 5) u (otherP xs) := by
    refine ⟨q1, q4, q7, q2, q3, q5, q6, q9, k18, g10 _ _ k9, g13 _ _ k12, g16 _ _ k15, emp (g11 _ _ k10), emp (g12 _ _ k11), emp (g14 _ _ k13), emp (g15 _ _ k14), ⟨[q8], s18 _ _ k17, .cons (.plain _ (g17 _ _ k16) (free_pl N)) .nil, (show 1 ≤ 30 by decide)⟩, hok 7 (by decide), ok_words "" (by simp), fun y hy => ?_, ok0, ok0, ⟨Nat.zero_le _, Nat.zero_le _⟩, ⟨Nat.zero_le _, Nat.zero_le _⟩⟩
    rw [List.mem_singleton.mp hy]; exact hok 5 (by decide)
  have e18 := e8.trans g9
  have hm18 := hmain.same g9
  clear g10 g11 g12 g13 g14 g15 g16 g17 g9 s9 s10 s11 s12 s13 s14 s15 s16 s17 s18 k9 k10 k11 k12 k13 k14 k15 k16 k17 k18 e815 hmain
  refine ⟨_, rfl, _, rfl, (show 2 ≤ sizeLine by decide), fun d1 hd1 => ?_⟩
  have s19 := same_new hd1 (.lst [.ref t, .ref u])
  have k19 : (upd H18 d1 (.lst [.ref t, .ref u])) d1 = some (.lst [.ref t, .ref u]) := upd_same
  generalize upd H18 d1 (.lst [.ref t, .ref u]) = H19 at s19 k19 ⊢
  refine ⟨_, rfl, _, rfl, (show 2 ≤ sizeLine by decide), fun d2 hd2 => ?_⟩
  have s20 := same_new hd2 (.lst [.ref u, .ref t])
  have k20 : (upd H19 d2 (.lst [.ref u, .ref t])) d2 = some (.lst [.ref u, .ref t]) := upd_same
  generalize upd H19 d2 (.lst [.ref u, .ref t]) = H20 at s20 k20 ⊢
  refine ⟨(show 2 ≤ sizeLine by decide), fun d3 hd3 => ?_⟩
  have s21 := same_new hd3 (.lst [.ref d1, .ref d2])
  have k21 : (upd H20 d3 (.lst [.ref d1, .ref d2])) d3 = some (.lst [.ref d1, .ref d2]) := upd_same
  generalize upd H20 d3 (.lst [.ref d1, .ref d2]) = H21 at s21 k21 ⊢
  have e1821 := s19.trans (s20.trans s21)
  have e21 := e18.trans e1821
  have key : ∃ dd ts, atI [V.ref d1, V.ref d2] (cellAt cs 2 / 9 % 2) = some (.ref dd) ∧ H21 dd = some (.lst (ts.map V.ref)) ∧ Paired (PrcAt K H21 (B 5)) ts (progF xs cs) := by
    unfold progF
    by_cases g : cellAt cs 2 / 9 % 2 = 0
    · rw [if_pos g]
      exact ⟨d1, [t, u], by rw [g]; rfl, (s20.trans s21) _ _ k19, .cons (hm18.same e1821) (.cons (hoth.same e1821) .nil)⟩
    · rw [if_neg g]
      exact ⟨d2, [u, t], by rw [show cellAt cs 2 / 9 % 2 = 1 by omega]; rfl, s21 _ _ k20, .cons (hoth.same e1821) (.cons (hm18.same e1821) .nil)⟩
  obtain ⟨dd, ts, hat, hdd, hpp⟩ := key
  exact ⟨_, rfl, a, cs, 2, rfl, e21.seq hcs, _, _, rfl, rfl, (show CDiv _ 9 from ⟨by decide, by decide⟩), _, _, rfl, rfl, (show (0 : Int) < 2 by decide), d3, _, _, _, rfl, rfl, SqL.of k21, hat, q dd ts _ e21 hdd hpp⟩
end
end K60
namespace K60
open PySem PySem.Spec L2 Mir
noncomputable def DG (xs : List Str) : Deed → Prop
  | .plain (.row r) => ∃ a b : Str, r = [("set" : Str), a, b] ∧ a ∈ xs.take 6 ∧ b ∈ xs.take 6
  | .plain (.call _ _ _) => False
  | .cond r _ _ => RowW xs r ∧ r.length = 3
  | .loop r F P _ => (∃ w x y, r = [w, x, y] ∧ (w = "is" ∨ w = "not")) ∧ RowW xs r ∧ (∀ s ∈ F, RowW xs s ∧ s.length = 3) ∧ (∀ s ∈ P, RowW xs s ∧ s.length ≤ 4) ∧ F.length ≤ 2 ∧ P.length ≤ 2
structure Gd (xs : List Str) (ds : List Deed) (n : Nat) : Prop where
  len : ∀ bs, (allL bs ds).length ≤ n
  ok : ∀ bs, ∀ d ∈ allL bs ds, DG xs d
theorem Gd.mono {xs : List Str} {ds : List Deed} {m n : Nat} (h : Gd xs ds m) (hn : m ≤ n) : Gd xs ds n := ⟨fun bs => Nat.le_trans (h.len bs) hn, h.ok⟩
theorem allL_nil : ∀ bs, allL bs [] = []
  | [] => rfl
  | _ :: _ => rfl
theorem Gd.nil (xs : List Str) : Gd xs [] 0 := ⟨fun bs => by rw [allL_nil]; exact Nat.le_refl _, fun bs d hd => by rw [allL_nil] at hd; cases hd⟩
theorem Gd.app {xs : List Str} {ds es : List Deed} {m n : Nat} (h : Gd xs ds m) (g : Gd xs es n) : Gd xs (ds ++ es) (m + n) := by
  have e : ∀ bs, allL bs (ds ++ es) = allL bs ds ++ allL bs es := fun bs => by
    cases bs with
    | nil => rfl
    | cons b bs => exact List.flatMap_append ..
  refine ⟨fun bs => ?_, fun bs d hd => ?_⟩
  · rw [e, List.length_append]; exact Nat.add_le_add (h.len bs) (g.len bs)
  · rw [e] at hd
    rcases List.mem_append.mp hd with z | z
    · exact h.ok bs d z
    · exact g.ok bs d z
theorem Gd.one {xs : List Str} {d : Deed} {n : Nat} (hd : DG xs d) (hl : ∀ bs, ((innL d).flatMap (allL bs)).length ≤ n) (ho : ∀ bs, ∀ e ∈ (innL d).flatMap (allL bs), DG xs e) : Gd xs [d] (n + 1) := by
  refine ⟨fun bs => ?_, fun bs e he => ?_⟩
  · cases bs with
    | nil => exact Nat.zero_le _
    | cons b bs =>
      show ([d].flatMap (allD (allL bs))).length ≤ n + 1
      rw [List.flatMap_singleton]
      exact Nat.succ_le_succ (hl bs)
  · cases bs with
    | nil => cases he
    | cons b bs =>
      have he' : e ∈ [d].flatMap (allD (allL bs)) := he
      rw [List.flatMap_singleton] at he'
      rcases List.mem_cons.mp he' with rfl | z
      · exact hd
      · exact ho bs e z
theorem Gd.set {xs : List Str} {a b : Str} (ha : a ∈ xs.take 6) (hb : b ∈ xs.take 6) : Gd xs [setD a b] 1 :=
  Gd.one (n := 0) ⟨a, b, rfl, ha, hb⟩ (fun _ => Nat.le_refl _) (fun bs e he => by cases he)
theorem Gd.cond {xs : List Str} {r : List Str} {a b : List Deed} {m n : Nat} (hr : RowW xs r ∧ r.length = 3) (ha : Gd xs a m) (hb : Gd xs b n) : Gd xs [.cond r a b] (m + n + 1) := by
  refine Gd.one hr (fun bs => ?_) (fun bs e he => ?_)
  · show ([a, b].flatMap (allL bs)).length ≤ _
    rw [List.flatMap_cons, List.flatMap_singleton, List.length_append]
    exact Nat.add_le_add (ha.len bs) (hb.len bs)
  · have he' : e ∈ [a, b].flatMap (allL bs) := he
    rw [List.flatMap_cons, List.flatMap_singleton] at he'
    rcases List.mem_append.mp he' with z | z
    · exact ha.ok bs e z
    · exact hb.ok bs e z
theorem Gd.loop {xs : List Str} {r : List Str} {F P : List (List Str)} {a : List Deed} {m : Nat} (hr : DG xs (.loop r F P [])) (ha : Gd xs a m) : Gd xs [.loop r F P a] (m + 1) := by
  refine Gd.one (d := .loop r F P a) hr (fun bs => ?_) (fun bs e he => ?_)
  · show ([a].flatMap (allL bs)).length ≤ _
    rw [List.flatMap_singleton]; exact ha.len bs
  · have he' : e ∈ [a].flatMap (allL bs) := he
    rw [List.flatMap_singleton] at he'
    exact ha.ok bs e he'
noncomputable def HG (xs : List Str) : Hole → Prop
  | .w r F P => DG xs (.loop r F P [])
  | .i1 r o => (RowW xs r ∧ r.length = 3) ∧ Gd xs o 1
  | .i2 r o => (RowW xs r ∧ r.length = 3) ∧ Gd xs o 1
inductive UG (xs : List Str) : List (List Deed × Hole) → Nat → Prop
  | nil : UG xs [] 0
  | cons {b : List Deed} {h : Hole} {up : List (List Deed × Hole)} {n m : Nat} (hb : Gd xs b n) (hh : HG xs h) (hu : UG xs up m) : UG xs ((b, h) :: up) (n + 2 + m)
noncomputable def ZG (xs : List Str) (z : Zp) (n : Nat) : Prop := ∃ m k, Gd xs z.cur m ∧ UG xs z.up k ∧ m + k ≤ n
theorem HG.fill {xs : List Str} {h : Hole} {a : List Deed} {m : Nat} (hh : HG xs h) (ha : Gd xs a m) : Gd xs [h.fill a] (m + 2) := by
  cases h with
  | w r F P => exact (Gd.loop hh ha).mono (by omega)
  | i1 r o => exact (Gd.cond hh.1 ha hh.2).mono (by omega)
  | i2 r o => exact (Gd.cond hh.1 hh.2 ha).mono (by omega)
theorem UG.close {xs : List Str} : ∀ {up : List (List Deed × Hole)} {cur : List Deed} {m k : Nat}, Gd xs cur m → UG xs up k → Gd xs (closeU cur up) (m + k)
  | [], cur, m, k, h, u => by cases u; exact h
  | (b, h) :: up, cur, m, k, hc, u => by
    cases u with
    | cons hb hh hu => exact (UG.close (hb.app (hh.fill hc)) hu).mono (by omega)
theorem nx6 {xs : List Str} (N : Names8 xs) {i : Nat} (hi : i < 6) : nx xs i ∈ xs.take 6 := by
  have h8 := N.len
  unfold nx
  rw [List.getD_eq_getElem?_getD, List.getElem?_eq_getElem (by omega)]
  refine List.mem_iff_getElem?.mpr ⟨i, ?_⟩
  rw [List.getElem?_take_of_lt hi, List.getElem?_eq_getElem (by omega)]; rfl
theorem while_g {xs : List Str} (c : Int) : DG xs (.loop (condF c xs) (factsF (c / 6) (wl xs 6)) (partsF (c / 6) (wl xs 6)) []) :=
  ⟨⟨_, _, _, rfl, isNot_or _⟩, cond_w c xs, fun s hs => facts_w (by decide) hs, fun s hs => parts_w (by decide) hs, facts_len _ _, parts_len _ _⟩
theorem other_g {xs : List Str} (N : Names8 xs) (c : Int) : Gd xs (List.replicate (c % 2).toNat (setD (nx xs 3) (nx xs 0))) 1 := by
  have h0 := Int.emod_nonneg c (show (2 : Int) ≠ 0 by decide)
  have h1 := Int.emod_lt_of_pos c (show (0 : Int) < 2 by decide)
  have : c % 2 = 0 ∨ c % 2 = 1 := by omega
  rcases this with z | z <;> rw [z]
  · exact (Gd.nil xs).mono (by decide)
  · exact Gd.set (nx6 N (by decide)) (nx6 N (by decide))
theorem step_g {xs : List Str} (N : Names8 xs) {z : Zp} {n : Nat} (h : ZG xs z n) (c : Int) : ZG xs (stepZ xs z c) (n + 2) := by
  obtain ⟨cur, up⟩ := z
  obtain ⟨m, k, hc, hu, hn⟩ := h
  dsimp only at hc hu
  unfold stepZ
  dsimp only
  split
  · cases up with
    | nil => exact ⟨m, k, hc, hu, by omega⟩
    | cons bh up =>
      obtain ⟨b, h⟩ := bh
      cases hu with
      | cons hb hh hu => exact ⟨_, _, hb.app (hh.fill hc), hu, by omega⟩
  split
  · exact ⟨0, _, Gd.nil xs, .cons hc (while_g c) hu, by omega⟩
  split
  · refine ⟨0, _, Gd.nil xs, .cons hc ?_ hu, by omega⟩
    split
    · exact ⟨⟨cond_w c xs, rfl⟩, other_g N _⟩
    · exact ⟨⟨cond_w c xs, rfl⟩, other_g N _⟩
  · have b3 := Int.emod_nonneg (c / 6) (show (3 : Int) ≠ 0 by decide)
    have b3' := Int.emod_lt_of_pos (c / 6) (show (0 : Int) < 3 by decide)
    have b6 := Int.emod_nonneg (c / 18) (show (6 : Int) ≠ 0 by decide)
    have b6' := Int.emod_lt_of_pos (c / 18) (show (0 : Int) < 6 by decide)
    exact ⟨_, _, hc.app (Gd.set (nx6 N (by omega)) (nx6 N (by omega))), hu, by omega⟩
theorem fold_g {xs : List Str} (N : Names8 xs) : ∀ (cs : List Int) {z : Zp} {n : Nat}, ZG xs z n → ZG xs (cs.foldl (stepZ xs) z) (n + 2 * cs.length)
  | [], z, n, h => h
  | c :: cs, z, n, h => by
    have := fold_g N cs (step_g N h c)
    rw [List.foldl_cons, List.length_cons, show n + 2 * (cs.length + 1) = n + 2 + 2 * cs.length by omega]
    exact this
theorem body_g {xs : List Str} (N : Names8 xs) (cs : List Int) : Gd xs (bodyF xs cs) (2 * cs.length) := by
  obtain ⟨m, k, hc, hu, hn⟩ := fold_g N cs (z := ⟨[], []⟩) (n := 0) ⟨0, 0, Gd.nil xs, .nil, Nat.le_refl _⟩
  exact (UG.close hc hu).mono (by omega)
theorem name_short {y : Str} (h : isName y = true) : Short y := by
  unfold isName at h
  unfold Short
  by_cases z : y = "" ∨ 8 < y.length ∨ y ∈ Mir.noNames
  · rw [if_pos z] at h; cases h
  · have : ¬ 8 < y.length := fun q => z (.inr (.inl q))
    omega
theorem name_not {y : Str} (h : isName y = true) : ¬ y ∈ Mir.noNames := fun z => by
  unfold isName at h
  rw [if_pos (.inr (.inr z))] at h; cases h
theorem heads_others : ∀ h ∈ ([("is" : Str), "not", "cell", "stretch", "tree"] : List Str), h ∈ others := by decide +kernel
theorem heads_short : ∀ h ∈ ([("is" : Str), "not", "cell", "stretch", "tree", "nil", "any", "set", ""] : List Str), h.length ≤ 1000 := by decide +kernel
theorem RowW.short {xs r : List Str} (N : Names8 xs) (h : RowW xs r) : ∀ y ∈ r, Short y := fun y hy => by
  obtain ⟨h', tl, rfl, hh, ht⟩ := h
  rcases List.mem_cons.mp hy with rfl | z
  · refine heads_short y ?_
    simp only [List.mem_cons, List.not_mem_nil, or_false] at hh ⊢
    rcases hh with rfl | rfl | rfl | rfl | rfl <;> simp
  · rcases ht y z with q | rfl | rfl
    · exact name_short (N.ok y (List.mem_of_mem_take q)).1
    · exact heads_short _ (by simp)
    · exact heads_short _ (by simp)
theorem RowW.tail {xs r : List Str} (h : RowW xs r) {y : Str} (hy : y ∈ r.drop 1) (hn : ¬ y ∈ Mir.noNames) : y ∈ xs.take 6 := by
  obtain ⟨h', tl, rfl, hh, ht⟩ := h
  rcases ht y hy with q | rfl | rfl
  · exact q
  · exact absurd (show ("nil" : Str) ∈ Mir.noNames by decide +kernel) hn
  · exact absurd (show ("any" : Str) ∈ Mir.noNames by decide +kernel) hn
theorem RowW.in_tail {xs r : List Str} (h : RowW xs r) {y : Str} (hy : y ∈ r) (ho : ¬ y ∈ others) : y ∈ r.drop 1 := by
  obtain ⟨h', tl, rfl, hh, ht⟩ := h
  rcases List.mem_cons.mp hy with rfl | z
  · exact absurd (heads_others _ hh) ho
  · exact z
theorem rows_tok {xs : List Str} (N : Names8 xs) {F P : List (List Str)} (hF : ∀ s ∈ F, RowW xs s ∧ s.length = 3) (hP : ∀ s ∈ P, RowW xs s ∧ s.length ≤ 4) (lF : F.length ≤ 2) (lP : P.length ≤ 2) : TOk (xs.take 6) F P := by
  have hw : ∀ s ∈ F ++ P, RowW xs s := fun s hs => by
    rcases List.mem_append.mp hs with z | z
    · exact (hF s z).1
    · exact (hP s z).1
  refine ⟨⟨by omega, fun r hr => ⟨by have := (hF r hr).2; omega, (hF r hr).1.short N⟩⟩, ⟨by omega, fun r hr => ⟨by have := (hP r hr).2; omega, (hP r hr).1.short N⟩⟩, fun r hr z => ?_, fun y hy => ?_⟩
  · obtain ⟨h, tl, e, _⟩ := hw r hr
    rw [z] at e; cases e
  · obtain ⟨r, hr, h1, h2⟩ := mem_words.mp hy
    exact (hw r hr).tail h1 h2
theorem DG.dok {xs : List Str} (N : Names8 xs) {d : Deed} (h : DG xs d) : DOk (xs.take 6) d := by
  cases d with
  | plain p =>
    cases p with
    | row r =>
      obtain ⟨a, b, rfl, ha, hb⟩ := h
      intro y hy
      simp only [List.mem_cons, List.not_mem_nil, or_false] at hy
      rcases hy with rfl | rfl | rfl
      · exact heads_short _ (by simp)
      · exact name_short (N.ok _ (List.mem_of_mem_take ha)).1
      · exact name_short (N.ok _ (List.mem_of_mem_take hb)).1
    | call x c vs => exact h.elim
  | cond r a b => exact ⟨h.2, h.1.short N⟩
  | loop r F P a =>
    obtain ⟨⟨w, x, y, hr, _⟩, h1, h2, h3, h4, h5⟩ := h
    exact ⟨⟨by rw [hr]; rfl, h1.short N⟩, rows_tok N h2 h3 h4 h5⟩
theorem keep_set (a b : Str) : keepW "set" [a, b] = [a, b] := by
  unfold keepW
  rw [show forms.lookup ("set" : Str) = some [("name" : Str), "value"] by decide +kernel]
  show zipF notField [("name" : Str), "value"] [a, b] = [a, b]
  unfold zipF
  have h1 : notField "name" = true := by decide +kernel
  have h2 : notField "value" = true := by decide +kernel
  simp [h1, h2]
theorem DG.names {xs : List Str} {d : Deed} (h : DG xs d) {y : Str} (hy : y ∈ wrd d) (hn : ¬ y ∈ Mir.noNames) : y ∈ xs.take 6 := by
  cases d with
  | plain p =>
    cases p with
    | row r =>
      obtain ⟨a, b, rfl, ha, hb⟩ := h
      have hy' : y ∈ keepW "set" [a, b] := hy
      rw [keep_set] at hy'
      simp only [List.mem_cons, List.not_mem_nil, or_false] at hy'
      rcases hy' with rfl | rfl
      · exact ha
      · exact hb
    | call x c vs => exact h.elim
  | cond r a b => exact h.1.tail hy hn
  | loop r F P a =>
    obtain ⟨_, h1, h2, h3, _⟩ := h
    rcases List.mem_append.mp hy with z | z
    · exact h1.tail z hn
    · obtain ⟨r', hr', g1, g2⟩ := mem_words.mp z
      rcases List.mem_append.mp hr' with q | q
      · exact (h2 r' q).1.tail g1 g2
      · exact (h3 r' q).1.tail g1 g2
section
variable {xs : List Str} (N : Names8 xs) (cs : List Int)
include N
theorem many_le (cs : List Int) : manyF cs ≤ 6 := by
  have m2' := Int.emod_lt_of_pos (cellAt cs 1) (show (0 : Int) < 2 by decide)
  unfold manyF; omega
theorem main_few : Gd xs (mainP xs cs).body 20 := (body_g N (secI cs)).mono (by have := sec_len cs; omega)
theorem ps_take {y : Str} (hy : y ∈ (mainP xs cs).ps) : y ∈ xs.take 6 := by
  have hy' : y ∈ xs.take (manyF cs) := hy
  rw [show xs.take (manyF cs) = (xs.take 6).take (manyF cs) by rw [List.take_take, Nat.min_eq_left (many_le N cs)]] at hy'
  exact List.mem_of_mem_take hy'
theorem main_ok : PrcOk (B 5) (xs.take 6) (mainP xs cs) := by
  have hm := many_le N cs
  have h8 := N.len
  have G := main_few N cs
  have hres : (mainP xs cs).res = "" ∨ (mainP xs cs).res = nx xs 4 := by
    show (if cellAt cs 1 / 2 % 2 = 0 then ("" : Str) else nx xs 4) = "" ∨ (if cellAt cs 1 / 2 % 2 = 0 then ("" : Str) else nx xs 4) = nx xs 4
    by_cases g : cellAt cs 1 / 2 % 2 = 0
    · rw [if_pos g]; exact .inl rfl
    · rw [if_neg g]; exact .inr rfl
  refine ⟨⟨?_, fun y hy => name_short (N.ok y (List.mem_of_mem_take hy)).1⟩, ?_, rows_tok N (fun s hs => facts_w hm hs) (fun s hs => parts_w hm hs) (facts_len _ _) (parts_len _ _), rows_tok N (fun s hs => facts_w hm hs) (fun s hs => parts_w hm hs) (facts_len _ _) (parts_len _ _), fun d hd => (G.ok _ d hd).dok N, Nat.le_trans (G.len _) (by decide), ?_, fun y hy hn => ?_⟩
  · show (xs.take (manyF cs)).length ≤ 8
    rw [List.length_take]; omega
  · rcases hres with z | z <;> rw [z]
    · exact heads_short _ (by simp)
    · exact name_short (N.ok _ (nx_in (by omega))).1
  · rw [List.length_take]; omega
  · have hno := name_not hn
    unfold allW at hy
    simp only [List.mem_append, List.mem_singleton] at hy
    rcases hy with (((z | z) | z) | z) | z
    · exact ps_take N cs z
    · rcases hres with q | q
      · rw [z, q] at hn; exact absurd hn (by decide +kernel)
      · rw [z, q]; exact nx6 N (by decide)
    · obtain ⟨r, hr, g1, g2⟩ := mem_words.mp z
      rcases List.mem_append.mp hr with q | q
      · exact (facts_w hm q).1.tail g1 g2
      · exact (parts_w hm q).1.tail g1 g2
    · obtain ⟨r, hr, g1, g2⟩ := mem_words.mp z
      rcases List.mem_append.mp hr with q | q
      · exact (facts_w hm q).1.tail g1 g2
      · exact (parts_w hm q).1.tail g1 g2
    · obtain ⟨d, hd, hy⟩ := List.mem_flatMap.mp z
      exact (G.ok _ d hd).names hy hno
end
end K60
namespace K60
open PySem PySem.Spec L2 Mir
noncomputable abbrev sWIn : Stmt := top 27
noncomputable def WD (K : PySem.W.Frag) (G : Hp) : Nat → V → List Str → Prop
  | 0, v, ws => ∃ x, v = .str x ∧ ws = [x]
  | n + 1, v, ws => (∃ x, v = .str x ∧ ws = [x]) ∨ ∃ (a : Addr) (xs : List V) (wss : List (List Str)), v = .ref a ∧ (SqL K G a xs ∨ SqT K G a xs) ∧ Paired (WD K G n) xs wss ∧ ws = wss.flatten
theorem fl2_take {α : Type} {l : List (List α)} {i : Nat} {x : List α} (h : l[i]? = some x) : (l.take (i + 1)).flatten = (l.take i).flatten ++ x := by
  rw [List.take_add_one, h, List.flatten_append]; simp
theorem fl2_mem {α : Type} {l : List (List α)} {i : Nat} {x : List α} (h : l[i]? = some x) : (l.take i).flatten.length + x.length ≤ l.flatten.length := by
  have : l.flatten = (l.take (i + 1)).flatten ++ (l.drop (i + 1)).flatten := by rw [← List.flatten_append, List.take_append_drop]
  rw [this, List.length_append, fl2_take h, List.length_append]; omega
inductive spWIn (K : PySem.W.Frag) (n : Nat) (vs : List V) (H : Hp) (Q : VK) (E : XK) : Prop
  | mk (G : Hp) (v : V) (ws : List Str) (h0 : vs = [v]) (e : Same G H) (h1 : WD K G n v ws) (h4 : ws.length ≤ 900)
      (q : ∀ l H', Same H H' → H l = none → H' l = some (.lst (ws.map V.str)) → Q (.ref l) H') : spWIn K n vs H Q E
section
variable {P : Program} {w : World} {K : PySem.W.Frag} {mg : Str → Option Value} {base : Heap} {f gW : Addr} {fd dW : FuncData}
theorem scWIn : FnScope ["_law_thing", "_law_found", "_law_part"] ["_law_thing"] (defScope sWIn) := ⟨rfl, rfl, rfl, by decide +kernel, rfl, by decide +kernel, by decide +kernel⟩
noncomputable def spNo : Sp := fun _ _ _ _ => False
theorem ok_wIn0 (C : Con K mg w) (F : Fun K "_law_words_in" "_law_words_in" sWIn f fd) (GR : FnOk P w K mg base CX0 1 f fd ["_law_thing"] spNo) (cR : Cal K mg "_law_words_in" f fd ["_law_thing"]) : FnOk P w K mg base CX0 2 f fd ["_law_thing"] (spWIn K 0) := by
  refine F.okQ scWIn (fun vs H Q E h => ?_) (fun cdv A outer s0 H vs Q E hr h => ?_)
  · obtain ⟨G, v, ws, rfl, _⟩ := h; rfl
  obtain ⟨G, v, ws, rfl, eG, hX, hcnt, q⟩ := h
  have nd := scWIn.nd
  refine ⟨_, qb_cons (qs_if (qt_val (qe_callB (call_isi_strX (K := K) rfl) rfl C.isi PyProof.Rows.boot_isinstance (qa_nm (qv 0) (qa_nm ⟨gty C.str PyProof.Rows.boot_str⟩ qa_nil)))) (qb_one (qs_ret (qe_lst (qa_nm (qv 0) qa_nil)))) qb_nil)
    (qb_cons (qs_set (i := 1) nd rfl (Or.inl rfl) (qe_lst qa_nil))
    (qb_cons (qs_for PassesOwn.never rfl (qi_seq (qv 0)) (qg_name (i := 2) nd rfl (Or.inl rfl)) (qb_one (qs_expr (qe_bmK (K := K) rfl PySem.F.plainAttrs_list PySem.F.slot_list_extend PySem.F.type_list_extend mt_extend (qv 1) (qa_call (qe_call GR hr rfl cR.name cR.keep cR.bind .nil pass0 (qa_nm (qv 2) qa_nil)) qa_nil)))))
    (qb_one (qs_ret (qv 1))))), ?_⟩
  obtain ⟨x, rfl, rfl⟩ := hX
  refine ⟨_, rfl, .inl ⟨x, rfl, _, rfl, iteB (fun _ => ?_) (fun c => by cases c)⟩⟩
  exact ⟨_, rfl, (show 1 ≤ sizeLine by decide), fun l hl => q l _ (same_new hl _) hl upd_same⟩
theorem ok_wInS {n m : Nat} (C : Con K mg w) (F : Fun K "_law_words_in" "_law_words_in" sWIn f fd) (GR : FnOk P w K mg base CX0 m f fd ["_law_thing"] (spWIn K n)) (cR : Cal K mg "_law_words_in" f fd ["_law_thing"]) : FnOk P w K mg base CX0 (m + 1) f fd ["_law_thing"] (spWIn K (n + 1)) := by
  refine F.okQ scWIn (fun vs H Q E h => ?_) (fun cdv A outer s0 H vs Q E hr h => ?_)
  · obtain ⟨G, v, ws, rfl, _⟩ := h; rfl
  obtain ⟨G, v, ws, rfl, eG, hX, hcnt, q⟩ := h
  have nd := scWIn.nd
  refine ⟨_, qb_cons (qs_if (qt_val (qe_callB (call_isi_strX (K := K) rfl) rfl C.isi PyProof.Rows.boot_isinstance (qa_nm (qv 0) (qa_nm ⟨gty C.str PyProof.Rows.boot_str⟩ qa_nil)))) (qb_one (qs_ret (qe_lst (qa_nm (qv 0) qa_nil)))) qb_nil)
    (qb_cons (qs_set (i := 1) nd rfl (Or.inl rfl) (qe_lst qa_nil))
    (qb_cons (qs_for PassesOwn.never rfl (qi_seq (qv 0)) (qg_name (i := 2) nd rfl (Or.inl rfl)) (qb_one (qs_expr (qe_bmK (K := K) rfl PySem.F.plainAttrs_list PySem.F.slot_list_extend PySem.F.type_list_extend mt_extend (qv 1) (qa_call (qe_call GR hr rfl cR.name cR.keep cR.bind .nil pass0 (qa_nm (qv 2) qa_nil)) qa_nil)))))
    (qb_one (qs_ret (qv 1))))), ?_⟩
  rcases hX with ⟨x, rfl, rfl⟩ | ⟨a, xs, wss, rfl, hsq, hp, rfl⟩
  · refine ⟨_, rfl, .inl ⟨x, rfl, _, rfl, iteB (fun _ => ?_) (fun c => by cases c)⟩⟩
    exact ⟨_, rfl, (show 1 ≤ sizeLine by decide), fun l hl => q l _ (same_new hl _) hl upd_same⟩
  have hsqS : ∀ {H' : Hp}, Same G H' → SqL K H' a xs ∨ SqT K H' a xs := fun e => hsq.elim (fun z => .inl (e.seq z)) (fun z => .inr (e.seqT z))
  refine ⟨_, rfl, .inr ⟨a, xs, rfl, hsqS eG, _, rfl, iteB (fun c => by cases c) (fun _ => ?_)⟩⟩
  refine ⟨Nat.zero_le _, fun fo hfo => ?_⟩
  have s1 := same_new hfo (.lst [])
  have k1 : (upd H fo (.lst [])) fo = some (.lst []) := upd_same
  generalize upd H fo (.lst []) = H1 at s1 k1 ⊢
  dsimp only [gName]
  refine seq_hide (a := tFor _ _ _) fun D1 hN1 hR1 hC1 => ?_
  have hlen : xs.length = wss.length := Paired.length hp
  rcases hsq with hsq | hsq
  · refine ⟨_, rfl, a, rfl, .inl ⟨⟨_, (eG.trans s1).seq hsq⟩, ?_⟩⟩
    refine for_list (xs := xs) (fun i σ H2 => ∃ z2 : Option V, Same H H2 ∧ H2 fo = some (.lst ((wss.take i).flatten.map V.str)) ∧ σ = [some (.ref a), some (.ref fo), z2]) ⟨none, s1, k1, rfl⟩ (fun i σ H' _ z => by obtain ⟨_, e, _⟩ := z; exact (eG.trans e).seq hsq) ?_ ?_
    · rintro i x σ H2 hx ⟨z2, e2, hf2, rfl⟩
      obtain ⟨us, hus, hX⟩ := Paired.nth hp hx
      have hsz := fl2_mem hus
      have htk := fl2_take hus
      refine ⟨_, rfl, (.inl ⟨rfl, _, SqL.of hf2⟩), _, rfl, G, x, us, rfl, eG.trans e2, hX, (by omega), fun l' H3 e3 _ k3 => ?_⟩
      have hf3 := e3 _ _ hf2
      refine ⟨fo, l', _, _, rfl, rfl, hf3, k3, le_line (by rw [List.length_map, List.length_map]; omega), ?_⟩
      refine ⟨_, fun b o z => by rw [upd_ne (ne_of_none z hfo)]; exact e3 _ _ (e2 _ _ z), ?_, rfl⟩
      rw [upd_same, htk, List.map_append]
    · rintro σ H2 ⟨z2, e2, hf2, rfl⟩
      rw [hlen, List.take_length] at hf2
      exact hN1 _ _ ⟨_, rfl, q fo H2 e2 hfo hf2⟩
  · refine ⟨_, rfl, a, rfl, .inr ⟨⟨_, (eG.trans s1).seqT hsq⟩, ?_⟩⟩
    refine for_tup (xs := xs) (fun i σ H2 => ∃ z2 : Option V, Same H H2 ∧ H2 fo = some (.lst ((wss.take i).flatten.map V.str)) ∧ σ = [some (.ref a), some (.ref fo), z2]) ⟨none, s1, k1, rfl⟩ (fun i σ H' _ z => by obtain ⟨_, e, _⟩ := z; exact (eG.trans e).seqT hsq) ?_ ?_
    · rintro i x σ H2 hx ⟨z2, e2, hf2, rfl⟩
      obtain ⟨us, hus, hX⟩ := Paired.nth hp hx
      have hsz := fl2_mem hus
      have htk := fl2_take hus
      refine ⟨_, rfl, (.inl ⟨rfl, _, SqL.of hf2⟩), _, rfl, G, x, us, rfl, eG.trans e2, hX, (by omega), fun l' H3 e3 _ k3 => ?_⟩
      have hf3 := e3 _ _ hf2
      refine ⟨fo, l', _, _, rfl, rfl, hf3, k3, le_line (by rw [List.length_map, List.length_map]; omega), ?_⟩
      refine ⟨_, fun b o z => by rw [upd_ne (ne_of_none z hfo)]; exact e3 _ _ (e2 _ _ z), ?_, rfl⟩
      rw [upd_same, htk, List.map_append]
    · rintro σ H2 ⟨z2, e2, hf2, rfl⟩
      rw [hlen, List.take_length] at hf2
      exact hN1 _ _ ⟨_, rfl, q fo H2 e2 hfo hf2⟩
end
end K60
namespace K60
open PySem PySem.Spec L2 Mir
section
open PyProof.Rows
theorem rising_all : ∀ (r : List Str) (p : Str), risingS p r = true → (∀ y ∈ r, p.cps.toList ≤ y.cps.toList) ∧ sortedS r = true
  | [], p, _ => ⟨by simp, rfl⟩
  | x :: r, p, h => by
    have h' : (!ltCps x.cps.toList p.cps.toList && risingS x r) = true := h
    rw [Bool.and_eq_true, ltCps_eq] at h'
    have h1 : p.cps.toList ≤ x.cps.toList := by
      have := h'.1
      simp only [Bool.not_eq_true', decide_eq_false_iff_not] at this
      exact this
    have ih := rising_all r x h'.2
    refine ⟨fun y hy => ?_, h'.2⟩
    rcases List.mem_cons.mp hy with rfl | hy'
    · exact h1
    · exact List.le_trans h1 (ih.1 y hy')
theorem sorted_unique : ∀ {zs ys : List Str}, sortedS zs = true → sortedS ys = true → zs.Perm ys → zs = ys
  | [], ys, _, _, p => (List.nil_perm.mp p).symm
  | x :: r, [], _, _, p => absurd p.length_eq (by simp)
  | x :: r, y :: t, h1, h2, p => by
    have g1 := rising_all r x h1
    have g2 := rising_all t y h2
    have e : x = y := by
      have hx : x ∈ y :: t := p.mem_iff.mp (List.mem_cons_self ..)
      have hy : y ∈ x :: r := p.mem_iff.mpr (List.mem_cons_self ..)
      have le1 : x.cps.toList ≤ y.cps.toList := by
        rcases List.mem_cons.mp hy with h | h
        · rw [h]; exact List.le_refl _
        · exact g1.1 y h
      have le2 : y.cps.toList ≤ x.cps.toList := by
        rcases List.mem_cons.mp hx with h | h
        · rw [h]; exact List.le_refl _
        · exact g2.1 x h
      exact Str.ext' (Array.toList_inj.mp (List.le_antisymm le1 le2))
    subst e
    rw [sorted_unique g1.2 g2.2 (List.Perm.cons_inv p)]
theorem same_names {zs ys ws ws' : List Str} (h1 : sortedS zs = true) (h2 : sortedS ys = true) (n1 : zs.Nodup) (n2 : ys.Nodup) (m : ∀ y, y ∈ zs ↔ y ∈ ys) : zs = ys :=
  sorted_unique h1 h2 ((List.perm_ext_iff_of_nodup n1 n2).mpr m)
end
noncomputable abbrev sLNamesOf : Stmt := top 28
theorem WD.mono {K : PySem.W.Frag} {G : Hp} : ∀ {n : Nat} {v : V} {ws : List Str}, WD K G n v ws → WD K G (n + 1) v ws
  | 0, v, ws, h => .inl h
  | n + 1, v, ws, h => by
    rcases h with h | ⟨a, xs, wss, h1, h2, h3, h4⟩
    · exact .inl h
    · exact .inr ⟨a, xs, wss, h1, h2, Paired.mapP h3 fun _ _ z => WD.mono z, h4⟩
theorem WD.le {K : PySem.W.Frag} {G : Hp} {n m : Nat} (h : n ≤ m) {v : V} {ws : List Str} (z : WD K G n v ws) : WD K G m v ws := by
  induction m with
  | zero => rw [Nat.le_zero.mp h] at z; exact z
  | succ m ih =>
    by_cases c : n = m + 1
    · rw [← c]; exact z
    · exact WD.mono (ih (by omega))
theorem WD.same {K : PySem.W.Frag} {G G' : Hp} (e : Same G G') : ∀ {n : Nat} {v : V} {ws : List Str}, WD K G n v ws → WD K G' n v ws
  | 0, v, ws, h => h
  | n + 1, v, ws, h => by
    rcases h with h | ⟨a, xs, wss, h1, h2, h3, h4⟩
    · exact .inl h
    · exact .inr ⟨a, xs, wss, h1, h2.elim (fun z => .inl (e.seq z)) (fun z => .inr (e.seqT z)), Paired.mapP h3 fun _ _ z => WD.same e z, h4⟩
theorem wd_str {K : PySem.W.Frag} {G : Hp} (n : Nat) (x : Str) : WD K G n (.str x) [x] := by
  cases n with
  | zero => exact ⟨x, rfl, rfl⟩
  | succ n => exact .inl ⟨x, rfl, rfl⟩
theorem wd_strs {K : PySem.W.Frag} {G : Hp} (n : Nat) : ∀ r : List Str, Paired (WD K G n) (r.map V.str) (r.map fun x => [x])
  | [] => .nil
  | x :: r => .cons (wd_str n x) (wd_strs n r)
theorem flat_one : ∀ r : List Str, (r.map fun x => [x]).flatten = r
  | [] => rfl
  | x :: r => by rw [List.map_cons, List.flatten_cons, flat_one r]; rfl
section
variable {K : PySem.W.Frag} {G : Hp}
theorem row_wd {b : Addr} {r : List Str} (h : RowAt K G b r) : WD K G 1 (.ref b) r := .inr ⟨b, _, _, rfl, .inr h, wd_strs 0 r, (flat_one r).symm⟩
theorem rows_wd {a : Addr} {rs : List (List Str)} (h : RowsAt K G a rs) : WD K G 2 (.ref a) rs.flatten := by
  obtain ⟨as, h1, h2⟩ := h
  refine .inr ⟨a, _, rs, rfl, .inl (SqL.of h1), ?_, rfl⟩
  clear h1
  induction h2 with
  | nil => exact .nil
  | cons z _ ih => exact .cons (row_wd z) ih
theorem told_wd {t fa pa : Addr} {F P : List (List Str)} (h : G t = some (.tup [.ref fa, .ref pa])) (hF : RowsAt K G fa F) (hP : RowsAt K G pa P) : WD K G 3 (.ref t) (F.flatten ++ P.flatten) :=
  .inr ⟨t, _, [F.flatten, P.flatten], rfl, .inr (SqT.of h), .cons (rows_wd hF) (.cons (rows_wd hP) .nil), by simp⟩
noncomputable def ownW : Deed → List Str
  | .plain (.row r) => r
  | .plain (.call x c vs) => "call" :: x :: c :: vs
  | .cond r _ _ => "if" :: r
  | .loop r F P _ => "while" :: (r ++ (F.flatten ++ P.flatten))
theorem deed_wd {L : Addr → List Deed → Prop} {wL : List Deed → List Str} {t : Addr} {d : Deed} {n : Nat} (h : DeedX K G L t d) (hL : ∀ l ds, L l ds → WD K G n (.ref l) (wL ds)) (hn : 3 ≤ n) : WD K G (n + 1) (.ref t) (ownW d ++ (innL d).flatMap wL) := by
  cases h with
  | plain p h1 h2 =>
    show WD K G (n + 1) (.ref t) (ownW (.plain p) ++ [])
    rw [List.append_nil]
    cases p with
    | row r => exact WD.le (by omega) (row_wd (SqT.of h1))
    | call x c vs =>
      obtain ⟨v, g1, g2⟩ := h1
      exact .inr ⟨t, _, [["call"], [x], [c], vs], rfl, .inr (SqT.of g1), .cons (wd_str n _) (.cons (wd_str n _) (.cons (wd_str n _) (.cons (WD.le (by omega) (row_wd (SqT.of g2))) .nil))), by simp [ownW]⟩
  | cond c i o r a b h hc okr hi ho =>
    exact .inr ⟨t, _, [["if"], r, wL a, wL b], rfl, .inr (SqT.of h), .cons (wd_str n _) (.cons (WD.le (by omega) (row_wd (SqT.of hc))) (.cons (hL _ _ hi) (.cons (hL _ _ ho) .nil))), by simp [ownW, innL]⟩
  | loop c td i fa pa r F P a h hc okr htd hF hP okF okP lF lP hi =>
    exact .inr ⟨t, _, [["while"], r, F.flatten ++ P.flatten, wL a], rfl, .inr (SqT.of h), .cons (wd_str n _) (.cons (WD.le (by omega) (row_wd (SqT.of hc))) (.cons (WD.le hn (told_wd htd hF hP)) (.cons (hL _ _ hi) .nil))), by simp [ownW, innL]⟩
theorem pairs_wd {R : Addr → Deed → Prop} {g : Deed → List Str} {n : Nat} : ∀ {ts : List Addr} {ds : List Deed}, Paired R ts ds → (∀ t d, R t d → WD K G n (.ref t) (g d)) → Paired (WD K G n) (ts.map V.ref) (ds.map g)
  | _, _, .nil, _ => .nil
  | _, _, .cons h t, f => .cons (f _ _ h) (pairs_wd t f)
theorem own_all (f : List Deed → List Deed) : ∀ ds : List Deed, (ds.map fun d => ownW d ++ (innL d).flatMap fun a => (f a).flatMap ownW).flatten = (ds.flatMap (allD f)).flatMap ownW
  | [] => rfl
  | d :: ds => by
    rw [List.map_cons, List.flatten_cons, own_all f ds, List.flatMap_cons, List.flatMap_append]
    congr 1
    show _ = (d :: (innL d).flatMap f).flatMap ownW
    rw [List.flatMap_cons, List.flatMap_assoc]
theorem list_wd : ∀ {bs : List Nat} {l : Addr} {ds : List Deed}, ListX K G bs l ds → WD K G (3 + 2 * bs.length) (.ref l) ((allL bs ds).flatMap ownW)
  | [], _, _, h => h.elim
  | b :: bs, l, ds, h => by
    obtain ⟨ts, h1, h2, h3⟩ := h
    rw [show 3 + 2 * (b :: bs).length = (3 + 2 * bs.length + 1) + 1 by rw [List.length_cons]; omega]
    refine .inr ⟨l, _, _, rfl, .inl (SqL.of h1), pairs_wd h2 fun t d z => deed_wd z (fun l ds y => list_wd y) (by omega), ?_⟩
    exact (own_all (allL bs) ds).symm
noncomputable def prcW (bs : List Nat) (p : Prc) : List Str := p.ps ++ (p.res :: ((p.F1.flatten ++ p.P1.flatten) ++ ((p.F2.flatten ++ p.P2.flatten) ++ (allL bs p.body).flatMap ownW)))
theorem prc_wd {bs : List Nat} {t pt t1 t2 f1 p1 f2 p2 bd : Addr} {p : Prc} (x : PrcX K G bs t pt t1 t2 f1 p1 f2 p2 bd p) {s : Addr} {H : Hp} (e : Same G H) (hs : SqT K H s [.ref pt, .str p.res, .ref t1, .ref t2, .ref bd]) : WD K H (3 + 2 * bs.length + 1) (.ref s) (prcW bs p) := by
  refine .inr ⟨s, _, [p.ps, [p.res], p.F1.flatten ++ p.P1.flatten, p.F2.flatten ++ p.P2.flatten, (allL bs p.body).flatMap ownW], rfl, .inr hs, ?_, by simp [prcW]⟩
  exact .cons (WD.le (by omega) (WD.same e (row_wd (SqT.of x.pt)))) (.cons (wd_str _ _) (.cons (WD.le (by omega) (WD.same e (told_wd x.t1 x.f1 x.p1))) (.cons (WD.le (by omega) (WD.same e (told_wd x.t2 x.f2 x.p2))) (.cons (WD.same e (list_wd x.body)) .nil))))
end
theorem flat_le {α : Type} {l : List (List α)} {m : Nat} (h : ∀ x ∈ l, x.length ≤ m) : l.flatten.length ≤ l.length * m := by
  induction l with
  | nil => simp
  | cons x l ih =>
    rw [List.flatten_cons, List.length_append, List.length_cons, Nat.succ_mul]
    have h1 := h x (List.mem_cons_self ..)
    have h2 := ih fun y hy => h y (List.mem_cons_of_mem _ hy)
    omega
theorem rows_le {xs : List Str} {F : List (List Str)} {m k : Nat} (hl : F.length ≤ k) (h : ∀ s ∈ F, s.length ≤ m) : F.flatten.length ≤ k * m := Nat.le_trans (flat_le h) (Nat.mul_le_mul_right _ hl)
theorem own_le {xs : List Str} {d : Deed} (h : DG xs d) : (ownW d).length ≤ 20 := by
  cases d with
  | plain p =>
    cases p with
    | row r => obtain ⟨a, b, rfl, _⟩ := h; show 3 ≤ 20; decide
    | call x c vs => exact h.elim
  | cond r a b => show r.length + 1 ≤ 20; rw [h.2]; decide
  | loop r F P a =>
    obtain ⟨⟨w, x, y, rfl, _⟩, h1, h2, h3, h4, h5⟩ := h
    have a1 := rows_le (xs := xs) (m := 3) h4 fun s hs => by rw [(h2 s hs).2]; exact Nat.le_refl _
    have a2 := rows_le (xs := xs) (m := 4) h5 fun s hs => (h3 s hs).2
    show (_ :: _ :: _ :: _ :: (F.flatten ++ P.flatten)).length ≤ 20
    rw [List.length_cons, List.length_cons, List.length_cons, List.length_cons, List.length_append]
    omega
section
variable {xs : List Str} (N : Names8 xs) (cs : List Int)
include N
theorem words_le : (prcW (B 5) (mainP xs cs)).length ≤ 900 := by
  have hm := many_le N cs
  have h8 := N.len
  have G := main_few N cs
  have f1 := rows_le (xs := xs) (F := (mainP xs cs).F1) (m := 3) (facts_len _ _) fun s hs => by rw [(facts_w hm hs).2]; exact Nat.le_refl _
  have f2 := rows_le (xs := xs) (F := (mainP xs cs).F2) (m := 3) (facts_len _ _) fun s hs => by rw [(facts_w hm hs).2]; exact Nat.le_refl _
  have p1 := rows_le (xs := xs) (F := (mainP xs cs).P1) (m := 4) (parts_len _ _) fun s hs => (parts_w hm hs).2
  have p2 := rows_le (xs := xs) (F := (mainP xs cs).P2) (m := 4) (parts_len _ _) fun s hs => (parts_w hm hs).2
  have hps : (mainP xs cs).ps.length ≤ 8 := by show (xs.take (manyF cs)).length ≤ 8; rw [List.length_take]; omega
  have hb : ((allL (B 5) (mainP xs cs).body).flatMap ownW).length ≤ 20 * 20 := by
    rw [List.flatMap_def]
    refine Nat.le_trans (flat_le (m := 20) fun x hx => ?_) (by rw [List.length_map]; exact Nat.mul_le_mul_right _ (G.len _))
    obtain ⟨d, hd, rfl⟩ := List.mem_map.mp hx
    exact own_le (G.ok _ d hd)
  unfold prcW
  rw [List.length_append, List.length_cons, List.length_append, List.length_append, List.length_append, List.length_append]
  omega
theorem own_wrd {d : Deed} {y : Str} (h : DG xs d) (hy : y ∈ ownW d) (hn : isName y = true) (ho : ¬ y ∈ others) : y ∈ wrd d := by
  have hno := name_not hn
  cases d with
  | plain p =>
    cases p with
    | row r =>
      obtain ⟨a, b, rfl, _, _⟩ := h
      show y ∈ keepW "set" [a, b]
      rw [keep_set]
      rcases List.mem_cons.mp (show y ∈ [("set" : Str), a, b] from hy) with rfl | z
      · exact absurd (show ("set" : Str) ∈ others by decide +kernel) ho
      · exact z
    | call x c vs => exact h.elim
  | cond r a b =>
    rcases List.mem_cons.mp (show y ∈ ("if" : Str) :: r from hy) with rfl | z
    · exact absurd (show ("if" : Str) ∈ others by decide +kernel) ho
    · exact h.1.in_tail z ho
  | loop r F P a =>
    obtain ⟨_, h1, h2, h3, _⟩ := h
    show y ∈ r.drop 1 ++ words (F ++ P)
    rcases List.mem_cons.mp (show y ∈ ("while" : Str) :: (r ++ (F.flatten ++ P.flatten)) from hy) with rfl | z
    · exact absurd (show ("while" : Str) ∈ others by decide +kernel) ho
    · rcases List.mem_append.mp z with z | z
      · exact List.mem_append.mpr (.inl (h1.in_tail z ho))
      · refine List.mem_append.mpr (.inr (mem_words.mpr ?_))
        rcases List.mem_append.mp z with z | z
        · obtain ⟨s, hs, g⟩ := List.mem_flatten.mp z
          exact ⟨s, List.mem_append.mpr (.inl hs), (h2 s hs).1.in_tail g ho, hno⟩
        · obtain ⟨s, hs, g⟩ := List.mem_flatten.mp z
          exact ⟨s, List.mem_append.mpr (.inr hs), (h3 s hs).1.in_tail g ho, hno⟩
theorem rows_words {F P : List (List Str)} (hF : ∀ s ∈ F, RowW xs s) (hP : ∀ s ∈ P, RowW xs s) {y : Str} (hy : y ∈ F.flatten ++ P.flatten) (hn : isName y = true) (ho : ¬ y ∈ others) : y ∈ words (F ++ P) := by
  refine mem_words.mpr ?_
  rcases List.mem_append.mp hy with z | z
  · obtain ⟨s, hs, g⟩ := List.mem_flatten.mp z
    exact ⟨s, List.mem_append.mpr (.inl hs), (hF s hs).in_tail g ho, name_not hn⟩
  · obtain ⟨s, hs, g⟩ := List.mem_flatten.mp z
    exact ⟨s, List.mem_append.mpr (.inr hs), (hP s hs).in_tail g ho, name_not hn⟩
theorem words_rows {F P : List (List Str)} {y : Str} (hy : y ∈ words (F ++ P)) : y ∈ F.flatten ++ P.flatten := by
  obtain ⟨r, hr, g, _⟩ := mem_words.mp hy
  rw [← List.flatten_append]
  exact List.mem_flatten.mpr ⟨r, hr, List.mem_of_mem_drop g⟩
theorem wrd_own {d : Deed} {y : Str} (h : DG xs d) (hy : y ∈ wrd d) : y ∈ ownW d := by
  cases d with
  | plain p =>
    cases p with
    | row r =>
      obtain ⟨a, b, rfl, _, _⟩ := h
      have hy' : y ∈ keepW "set" [a, b] := hy
      rw [keep_set] at hy'
      exact List.mem_cons_of_mem _ hy'
    | call x c vs => exact h.elim
  | cond r a b => exact List.mem_cons_of_mem _ (List.mem_of_mem_drop hy)
  | loop r F P a =>
    refine List.mem_cons_of_mem _ ?_
    rcases List.mem_append.mp hy with z | z
    · exact List.mem_append.mpr (.inl (List.mem_of_mem_drop z))
    · exact List.mem_append.mpr (.inr (words_rows N z))
theorem names_two (y : Str) : (y ∈ xs.take 6 ∧ y ∈ prcW (B 5) (mainP xs cs)) ↔ (isName y = true ∧ y ∈ allW (B 5) (mainP xs cs)) := by
  have hm := many_le N cs
  have G := main_few N cs
  have fw : ∀ (c : Int), ∀ s ∈ factsF c (wl xs (manyF cs)), RowW xs s := fun c s hs => (facts_w hm hs).1
  have pw : ∀ (c : Int), ∀ s ∈ partsF c (wl xs (manyF cs)), RowW xs s := fun c s hs => (parts_w hm hs).1
  unfold prcW allW
  simp only [List.mem_append, List.mem_cons, List.not_mem_nil, or_false]
  constructor
  · rintro ⟨h6, h⟩
    obtain ⟨hn, ho⟩ := N.ok y (List.mem_of_mem_take h6)
    refine ⟨hn, ?_⟩
    rcases h with z | z | z | z | z
    · exact .inl (.inl (.inl (.inl z)))
    · exact .inl (.inl (.inl (.inr z)))
    · exact .inl (.inl (.inr (rows_words N (fw _) (pw _) (List.mem_append.mpr z) hn ho)))
    · exact .inl (.inr (rows_words N (fw _) (pw _) (List.mem_append.mpr z) hn ho))
    · obtain ⟨d, hd, g⟩ := List.mem_flatMap.mp z
      exact .inr (List.mem_flatMap.mpr ⟨d, hd, own_wrd N (G.ok _ d hd) g hn ho⟩)
  · rintro ⟨hn, h⟩
    refine ⟨(main_ok N cs).names y (by unfold allW; simp only [List.mem_append, List.mem_cons, List.not_mem_nil, or_false]; exact h) hn, ?_⟩
    rcases h with (((z | z) | z) | z) | z
    · exact .inl z
    · exact .inr (.inl z)
    · exact .inr (.inr (.inl (List.mem_append.mp (words_rows N z))))
    · exact .inr (.inr (.inr (.inl (List.mem_append.mp (words_rows N z)))))
    · obtain ⟨d, hd, g⟩ := List.mem_flatMap.mp z
      exact .inr (.inr (.inr (.inr (List.mem_flatMap.mpr ⟨d, hd, wrd_own N (G.ok _ d hd) g⟩))))
end
theorem call_sorted_strsX {X : Cx} {K : PySem.W.Frag} (hK : X.K = K) : CallR X (.builtin "sorted") (fun vs H Q => ∃ (a : Addr) (ss : List Str), vs = [.ref a] ∧ SqL K H a (ss.map V.str) ∧ ss.length < 64 ∧
    ∀ p zs, H p = none → zs.Perm ss → PyProof.Rows.sortedS zs = true → Q (.ref p) (upd H p (.lst (zs.map V.str)))) := by subst hK; exact call_sorted_strs
inductive spLNames (K : PySem.W.Frag) (vs : List V) (H : Hp) (Q : VK) (E : XK) : Prop
  | mk (t l : Addr) (cs : List Int) (xs : List Str) (h0 : vs = [.ref t, .ref l]) (h1 : PrcAt K H (B 5) t (mainP xs cs)) (h3 : H l = some (.lst (xs.map V.str))) (h4 : Names8 xs)
      (q : ∀ zl zs H', Same H H' → H' zl = some (.lst ((zs : List Str).map V.str)) → zs.Nodup → PyProof.Rows.sortedS zs = true → (∀ y, y ∈ zs ↔ isName y = true ∧ y ∈ allW (B 5) (mainP xs cs)) → Q (.ref zl) H') : spLNames K vs H Q E
section
variable {P : Program} {w : World} {K : PySem.W.Frag} {mg : Str → Option Value} {base : Heap} {f gW : Addr} {fd dW : FuncData}
theorem scLNames : FnScope ["_law_procedure", "_law_n", "_law_words"] ["_law_procedure", "_law_n"] (defScope sLNamesOf) := ⟨rfl, rfl, rfl, by decide +kernel, rfl, by decide +kernel, by decide +kernel⟩
theorem ok_lnames {m : Nat} (C : Con K mg w) (F : Fun K "_law_names_of" "_law_names_of" sLNamesOf f fd) (GW : FnOk P w K mg base CX0 m gW dW ["_law_thing"] (spWIn K 14)) (cW : Cal K mg "_law_words_in" gW dW ["_law_thing"]) : FnOk P w K mg base CX0 (m + 1) f fd ["_law_procedure", "_law_n"] (spLNames K) := by
  refine F.okQ scLNames (fun vs H Q E h => ?_) (fun cdv A outer s0 H vs Q E hr h => ?_)
  · obtain ⟨t, l, cs, xs, rfl, _⟩ := h; rfl
  obtain ⟨t, l, cs, xs, rfl, hP, hl, N, q⟩ := h
  have nd := scLNames.nd
  refine ⟨_, qb_cons (qs_set (i := 2) nd rfl (Or.inr rfl) (qe_call GW hr rfl cW.name cW.keep cW.bind .nil pass0 (qa_sub (qe_slice sl_tupU (qv 0) (qo_some qe_int) qo_none) qa_nil)))
    (qb_one (qs_ret (qe_callB (call_sorted_strsX (K := K) rfl) rfl C.sorted PyProof.Rows.boot_sorted (qa_cons (qe_compG ["_law_name", "_law_words"] [2] (qi_list (qe_slice sl_list (qv 1) qo_none (qo_some qe_int))) (fun _ _ _ _ => (qts_one (qt_cmpR (show OpR _ _ (rIn K false) from op_in_seq) (qv 0) (qv 1) (by with_unfolding_all rfl)))) (fun _ _ _ _ => (qv 0))) qa_nil)))), ?_⟩
  obtain ⟨pt, t1, t2, f1, p1, f2, p2, bd, x⟩ := id hP
  refine ⟨_, rfl, _, rfl, t, _, rfl, SqT.of x.tup, fun s H1 e1 k1 => ?_⟩
  have k1' : SqT K H1 s [.ref pt, .str (mainP xs cs).res, .ref t1, .ref t2, .ref bd] := k1
  refine ⟨H1, .ref s, prcW (B 5) (mainP xs cs), rfl, Same.refl _, prc_wd x e1 k1', words_le N cs, fun lw H2 e2' _ k2 => ?_⟩
  have e2 := e1.trans e2'
  refine ⟨_, rfl, _, rfl, l, _, rfl, SqL.of (e2 _ _ hl), fun l3 hl3 => ?_⟩
  rw [show cutV (xs.map V.str) none (some (6 : Int)) = (xs.take 6).map V.str from cut_takeS xs 6]
  have s3 := same_new hl3 (.lst ((xs.take 6).map V.str))
  have k3 : (upd H2 l3 (.lst ((xs.take 6).map V.str))) l3 = some (.lst ((xs.take 6).map V.str)) := upd_same
  generalize upd H2 l3 (.lst ((xs.take 6).map V.str)) = H3 at s3 k3 ⊢
  have hl6 : (xs.take 6).length ≤ 6 := by rw [List.length_take]; omega
  refine ⟨l3, rfl, ⟨_, SqL.of k3⟩, ?_⟩
  refine comp_words (xs.take 6) (fun y => decide (y ∈ prcW (B 5) (mainP xs cs))) jseq_list (SqL.of k3) (by omega) (fun y hy H4 e4 Q' q' => ?_) (fun y H4 Q' q' => ⟨_, rfl, q'⟩) (fun D H4 hD e4 kD => ?_)
  · refine ⟨_, rfl, _, rfl, lw, _, rfl, .inl (SqL.of ((s3.trans e4) _ _ k2)), rfl, flat_strs _, _, rfl, ?_⟩
    rw [inV_strs]
    exact q' _ (Same.refl _)
  refine ⟨D, _, rfl, SqL.of kD, ?_, fun zl zs hzl hpm hsz => ?_⟩
  · have := List.length_filter_le (fun y => decide (y ∈ prcW (B 5) (mainP xs cs))) (xs.take 6)
    omega
  have hnd : (xs.take 6).Nodup := (List.take_sublist 6 xs).nodup N.nd
  refine q zl zs _ (((e2.trans s3).trans e4).trans (same_new hzl _)) upd_same (hpm.nodup_iff.mpr (List.filter_sublist.nodup hnd)) hsz fun y => ?_
  rw [hpm.mem_iff, List.mem_filter, decide_eq_true_eq]
  exact names_two N cs y
end
end K60
namespace L2
open PySem PySem.Spec
noncomputable def rCatTW (K : PySem.W.Frag) : R2 := fun x y H Q => ∃ a b xs ys, x = .ref a ∧ y = .ref b ∧ SqT K H a xs ∧ H b = some (.tup ys) ∧ ys ≠ [] ∧ xs.length + ys.length ≤ sizeLine ∧ ∀ p H', Same H H' → H' p = some (.tup (xs ++ ys)) → Q (.ref p) H'
theorem op_catTW {X : Cx} : OpR X (binaryOp .Add) (rCatTW X.K) := by
  intro pins s σ H x y v u Q I rx ry h
  obtain ⟨a, b, xs, ys, rfl, rfl, ha, hb, hy, hz, q⟩ := h
  by_cases hx : xs = []
  · cases rx
    cases ry
    obtain ⟨its, r1, p1, _⟩ := I.tuple ha
    obtain ⟨its2, r2, p2, _⟩ := I.tuple (SqT.of hb)
    refine HT.cat_tup0 p1 p2 (r1.nil_iff.mpr hx) ⟨.ref b, H, I, rfl, q b H (Same.refl _) ?_⟩
    rw [hx]; exact hb
  · exact op_catT pins s σ H (.ref a) (.ref b) v u Q I rx ry ⟨a, b, xs, ys, rfl, rfl, ha, SqT.of hb, hx, hz, fun z => absurd z hy, fun _ p hp => q p _ (same_new hp _) upd_same⟩
end L2
namespace K60
open PySem PySem.Spec L2 Mir
noncomputable abbrev sLoops : Stmt := top 33
noncomputable def isl (as : List Addr) : V → Bool
  | .ref a => decide (a ∈ as)
  | _ => false
section
variable {K : PySem.W.Frag} {G : Hp}
theorem lx_lst : ∀ {bs : List Nat} {l : Addr} {ds : List Deed}, ListX K G bs l ds → ∃ ys, G l = some (.lst ys)
  | [], _, _, h => h.elim
  | b :: bs, l, ds, h => by obtain ⟨ts, h1, _⟩ := h; exact ⟨_, h1⟩
theorem isl_strs (as : List Addr) (r : List Str) : (r.map V.str).filter (isl as) = [] := by
  refine List.filter_eq_nil_iff.mpr fun v hv => ?_
  obtain ⟨y, _, rfl⟩ := List.mem_map.mp hv
  exact Bool.false_ne_true
structure Els (K : PySem.W.Frag) (G : Hp) (bs : List Nat) (t : Addr) (d : Deed) (els : List V) (as : List Addr) : Prop where
  at_ : G t = some (.tup els)
  len : els.length ≤ 1000
  inn : Paired (ListX K G bs) as (innL d)
  few : as.length ≤ 2
  fil : els.filter (isl as) = as.map V.ref
  kind : ∀ v ∈ els, (∃ z, v = .str z ∧ isl as v = false) ∨ (∃ a ys, v = .ref a ∧ SqT K G a ys ∧ isl as v = false) ∨ ∃ a ys, v = .ref a ∧ SqL K G a ys ∧ isl as v = true
  side : ∀ s m, as[s]? = some m → Side G t s m
theorem els_of {bs : List Nat} {t : Addr} {d : Deed} (h : DeedX K G (ListX K G bs) t d) : ∃ els as, Els K G bs t d els as := by
  cases h with
  | plain p h1 h2 =>
    cases p with
    | row r =>
      obtain ⟨⟨h', r', fs, rfl, hm, hl⟩, _⟩ := h2
      refine ⟨_, [], h1, ?_, .nil, Nat.zero_le _, isl_strs [] _, fun v hv => ?_, fun s m hs => by cases hs⟩
      · have := forms_len _ hm
        rw [List.length_map, List.length_cons]; dsimp only at this; omega
      · obtain ⟨y, _, rfl⟩ := List.mem_map.mp hv
        exact .inl ⟨y, rfl, rfl⟩
    | call x c vs =>
      obtain ⟨v, g1, g2⟩ := h1
      refine ⟨_, [], g1, (show 4 ≤ 1000 by decide), .nil, Nat.zero_le _, by simp [isl], fun w hw => ?_, fun s m hs => by cases hs⟩
      simp only [List.mem_cons, List.not_mem_nil, or_false] at hw
      rcases hw with rfl | rfl | rfl | rfl
      · exact .inl ⟨_, rfl, rfl⟩
      · exact .inl ⟨_, rfl, rfl⟩
      · exact .inl ⟨_, rfl, rfl⟩
      · exact .inr (.inl ⟨v, _, rfl, SqT.of g2, by simp [isl]⟩)
  | cond c i o r a b h hc okr hi ho =>
    obtain ⟨y1, e1⟩ := lx_lst hi
    obtain ⟨y2, e2⟩ := lx_lst ho
    have n1 : ¬ c = i := fun z => by rw [z, e1] at hc; cases hc
    have n2 : ¬ c = o := fun z => by rw [z, e2] at hc; cases hc
    refine ⟨_, [i, o], h, (show 4 ≤ 1000 by decide), .cons hi (.cons ho .nil), Nat.le_refl _, by simp [isl, n1, n2], fun w hw => ?_, fun s m hs => ?_⟩
    · simp only [List.mem_cons, List.not_mem_nil, or_false] at hw
      rcases hw with rfl | rfl | rfl | rfl
      · exact .inl ⟨_, rfl, rfl⟩
      · exact .inr (.inl ⟨c, _, rfl, SqT.of hc, by simp [isl, n1, n2]⟩)
      · exact .inr (.inr ⟨i, _, rfl, SqL.of e1, by simp [isl]⟩)
      · exact .inr (.inr ⟨o, _, rfl, SqL.of e2, by simp [isl]⟩)
    · match s, hs with
      | 0, hs => exact .cond i o _ h (.inl ⟨rfl, (Option.some.inj hs).symm⟩)
      | 1, hs => exact .cond i o _ h (.inr ⟨rfl, (Option.some.inj hs).symm⟩)
  | loop c td i fa pa r F P a h hc okr htd hF hP okF okP lF lP hi =>
    obtain ⟨y1, e1⟩ := lx_lst hi
    have n1 : ¬ c = i := fun z => by rw [z, e1] at hc; cases hc
    have n2 : ¬ td = i := fun z => by rw [z, e1] at htd; cases htd
    refine ⟨_, [i], h, (show 4 ≤ 1000 by decide), .cons hi .nil, (show 1 ≤ 2 by decide), by simp [isl, n1, n2], fun w hw => ?_, fun s m hs => ?_⟩
    · simp only [List.mem_cons, List.not_mem_nil, or_false] at hw
      rcases hw with rfl | rfl | rfl | rfl
      · exact .inl ⟨_, rfl, rfl⟩
      · exact .inr (.inl ⟨c, _, rfl, SqT.of hc, by simp [isl, n1]⟩)
      · exact .inr (.inl ⟨td, _, rfl, SqT.of htd, by simp [isl, n2]⟩)
      · exact .inr (.inr ⟨i, _, rfl, SqL.of e1, by simp [isl]⟩)
    · match s, hs with
      | 0, hs => cases Option.some.inj hs; exact .loop _ _ h rfl
end
theorem len_all (f : List Deed → List Deed) : ∀ ds : List Deed, ds.length ≤ (ds.flatMap (allD f)).length
  | [] => Nat.le_refl _
  | d :: ds => by
    rw [List.flatMap_cons, List.length_append, List.length_cons]
    have := len_all f ds
    show _ ≤ (d :: (innL d).flatMap f).length + _
    rw [List.length_cons]; omega
noncomputable def LEnt (K : PySem.W.Frag) (xs : List Str) (G H : Hp) (bd e : Addr) : Prop := ∃ (pt u l : Addr) (pr : Pre) (k : Nat) (ts : List Addr) (r : List Str) (F P : List (List Str)) (a : List Deed), H e = some (.tup [.ref pt, .ref u]) ∧ H pt = some (.tup ((flat pr ++ [(k : Int)]).map V.int)) ∧ LFrom G bd pr l ∧ pr.length ≤ 100 ∧ G l = some (.lst (ts.map V.ref)) ∧ ts[k]? = some u ∧ DeedS K G u (.loop r F P a) ∧ DG xs (.loop r F P a)
theorem LEnt.same {K : PySem.W.Frag} {xs : List Str} {G H H' : Hp} {bd e : Addr} (h : LEnt K xs G H bd e) (s : Same H H') : LEnt K xs G H' bd e := by
  obtain ⟨pt, u, l, pr, k, ts, r, F, P, a, h1, h2, h3⟩ := h
  exact ⟨pt, u, l, pr, k, ts, r, F, P, a, s _ _ h1, s _ _ h2, h3⟩
theorem LEnt.put {K : PySem.W.Frag} {xs : List Str} {G H : Hp} {bd e fo : Addr} {ys : List V} {o : HO} (h : LEnt K xs G H bd e) (hf : H fo = some (.lst ys)) : LEnt K xs G (upd H fo o) bd e := by
  obtain ⟨pt, u, l, pr, k, ts, r, F, P, a, h1, h2, h3⟩ := h
  have n1 : e ≠ fo := fun z => by rw [z, hf] at h1; cases h1
  have n2 : pt ≠ fo := fun z => by rw [z, hf] at h2; cases h2
  exact ⟨pt, u, l, pr, k, ts, r, F, P, a, by rw [upd_ne n1]; exact h1, by rw [upd_ne n2]; exact h2, h3⟩
inductive spLoops (K : PySem.W.Frag) (xs : List Str) (bs : List Nat) (vs : List V) (H : Hp) (Q : VK) (E : XK) : Prop
  | mk (G : Hp) (bd l hd : Addr) (ds : List Deed) (pr : Pre) (h0 : vs = [.ref l, .ref hd]) (e : Same G H) (h1 : ListX K G bs l ds) (h2 : LFrom G bd pr l) (h3 : SqT K H hd ((flat pr).map V.int)) (h4 : pr.length + bs.length ≤ 100) (h5 : (allL bs ds).length ≤ 100) (h6 : ∀ d ∈ allL bs ds, DG xs d)
      (q : ∀ fo es H', Same H H' → H fo = none → H' fo = some (.lst ((es : List Addr).map V.ref)) → (∀ e ∈ es, LEnt K xs G H' bd e) → es.length ≤ (allL bs ds).length → Q (.ref fo) H') : spLoops K xs bs vs H Q E
section
variable {P : Program} {w : World} {K : PySem.W.Frag} {mg : Str → Option Value} {base : Heap} {f : Addr} {fd : FuncData}
theorem scLoops : FnScope ["_law_deeds", "_law_head", "_law_found", "_law_k", "_law_inner", "_law_side"] ["_law_deeds", "_law_head"] (defScope sLoops) := ⟨rfl, rfl, rfl, by decide +kernel, rfl, by decide +kernel, by decide +kernel⟩
theorem ok_loops0 {xs : List Str} : FnOk P w K mg base CX0 1 f fd ["_law_deeds", "_law_head"] (spLoops K xs []) :=
  ⟨fun vs H Q E h => by obtain ⟨G, bd, l, hd, ds, pr, _, _, h1, _⟩ := h; exact h1.elim, fun A outer s H args us vs Q E _ _ _ _ h => by obtain ⟨G, bd, l, hd, ds, pr, _, _, h1, _⟩ := h; exact h1.elim⟩
theorem ok_loopsS {n b : Nat} {xs : List Str} {bs : List Nat} (C : Con K mg w) (F : Fun K "_law_loops" "_law_loops" sLoops f fd) (GR : FnOk P w K mg base CX0 (n + 1) f fd ["_law_deeds", "_law_head"] (spLoops K xs bs)) (cR : Cal K mg "_law_loops" f fd ["_law_deeds", "_law_head"]) : FnOk P w K mg base CX0 (n + 1 + 1) f fd ["_law_deeds", "_law_head"] (spLoops K xs (b :: bs)) := by
  refine F.okQ scLoops (fun vs H Q E h => ?_) (fun cdv A outer s0 H vs Q E hr h => ?_)
  · obtain ⟨G, bd, l, hd, ds, pr, rfl, _⟩ := h; rfl
  obtain ⟨G, bd, l, hd, ds, pr, rfl, eG, hLX, hfr, hhd, hpl, hcnt, hdg, q⟩ := h
  obtain ⟨ts, hl', hp, htl⟩ := hLX
  have hl := eG _ _ hl'
  have nd := scLoops.nd
  refine ⟨_, qb_cons (qs_set (i := 2) nd rfl (Or.inl rfl) (qe_lst qa_nil))
    (qb_cons (qs_for PassesOwn.never rfl (qi_range1 rfl C.range (qa_call (qe_callB call_len_seq rfl C.len PySem.boot_len (qa_nm (qv 0) qa_nil)) qa_nil)) (qg_name (i := 3) nd rfl (Or.inl rfl)) (qb_cons (qs_setCG ["_law_part"] [] (i := 4) nd rfl (Or.inl rfl) (qi_tup (qe_ix ix_list (qv 0) (qv 3) (fun _ _ => rfl))) (fun _ _ _ _ => (qts_one (qt_val (qe_callB (call_isi_listX (K := K) rfl) rfl C.isi PyProof.Rows.boot_isinstance (qa_nm (qv 0) (qa_nm ⟨gty C.list PyProof.Rows.boot_list⟩ qa_nil)))))) (fun _ _ _ _ => (qv 0)))
    (qb_cons (qs_if (qt_cmpR op_eq (qe_ix ix_tup (qe_ix ix_list (qv 0) (qv 3) (fun _ _ => rfl)) qe_int (fun _ _ => rfl)) qe_str (nomark _)) (qb_one (qs_expr (qe_bmK (K := K) rfl PySem.F.plainAttrs_list PySem.F.slot_list_append PySem.F.type_list_append mt_append (qv 2) (qa_tp (qa_bop (qe_op op_catTW (qv 1) (qe_tup (qa_nm (qv 3) qa_nil))) (qa_sub (qe_ix ix_list (qv 0) (qv 3) (fun _ _ => rfl)) qa_nil)) qa_nil)))) qb_nil)
    (qb_one (qs_for PassesOwn.never rfl (qi_range1 rfl C.range (qa_call (qe_callB call_len_seq rfl C.len PySem.boot_len (qa_nm (qv 4) qa_nil)) qa_nil)) (qg_name (i := 5) nd rfl (Or.inl rfl)) (qb_one (qs_expr (qe_bmK (K := K) rfl PySem.F.plainAttrs_list PySem.F.slot_list_extend PySem.F.type_list_extend mt_extend (qv 2) (qa_call (qe_call GR hr rfl cR.name cR.keep cR.bind .nil pass0 (qa_sub (qe_ix ix_list (qv 4) (qv 5) (fun _ _ => rfl)) (qa_bop (qe_op op_catTW (qv 1) (qe_tup (qa_nm (qv 3) (qa_nm (qv 5) qa_nil)))) qa_nil))) qa_nil)))))))))
    (qb_one (qs_ret (qv 2)))), ?_⟩
  have hpl' : ts.length = ds.length := Paired.length hp
  have hcnt' : (ds.flatMap (allD (allL bs))).length ≤ 100 := hcnt
  have hfl := flat_len pr
  have hdl := len_all (allL bs) ds
  rw [List.length_cons] at hpl
  refine ⟨Nat.zero_le _, fun fo hfo => ?_⟩
  have s1 := same_new hfo (.lst [])
  have k1 : (upd H fo (.lst [])) fo = some (.lst []) := upd_same
  generalize upd H fo (.lst []) = H1 at s1 k1 ⊢
  dsimp only [gName]
  refine seq_hide (a := tFor _ _ _) fun D1 hN1 hR1 hC1 => ?_
  refine ⟨_, rfl, l, _, rfl, .inl (SqL.of (s1 _ _ hl)), _, rfl, by rw [List.length_map]; omega, by rw [List.length_map]; omega, ?_⟩
  refine for_range (lo := 0) (n := ((ts.map V.ref).length : Int).toNat) (fun i σ H2 => ∃ (es : List Addr) (z3 z4 z5 : Option V), σ = [some (.ref l), some (.ref hd), some (.ref fo), z3, z4, z5] ∧ Same H H2 ∧ H2 fo = some (.lst (es.map V.ref)) ∧ (∀ e ∈ es, LEnt K xs G H2 bd e) ∧ es.length ≤ ((ds.take i).flatMap (allD (allL bs))).length) ⟨[], none, none, none, rfl, s1, k1, (fun e he => by cases he), Nat.zero_le _⟩ ?_ ?_
  · rintro i σ H2 hi ⟨es, z3, z4, z5, rfl, e2, hf2, hes, hel⟩
    rw [Int.zero_add]
    have hi' : i < ts.length := by rw [List.length_map, Int.toNat_natCast] at hi; exact hi
    have ht : ts[i]? = some ts[i] := List.getElem?_eq_getElem hi'
    generalize ts[i] = t at ht
    obtain ⟨d, hd', hX⟩ := Paired.nth hp ht
    obtain ⟨els, as, Y⟩ := els_of hX
    have hsz := fl_mem (g := allD (allL bs)) hd'
    have htk := fl_take (g := allD (allL bs)) hd'
    have hdF : allD (allL bs) d = d :: (innL d).flatMap (allL bs) := rfl
    rw [hdF, List.length_cons] at hsz
    have hat : atI (ts.map V.ref) (i : Int) = some (.ref t) := atI_nat (by rw [List.getElem?_map, ht]; rfl)
    have hin : ∀ x ∈ allD (allL bs) d, DG xs x := fun x hx => hdg x (List.mem_flatMap.mpr ⟨d, List.mem_of_getElem? hd', hx⟩)
    refine ⟨_, rfl, _, rfl, l, _, _, _, rfl, rfl, SqL.of (e2 _ _ hl), hat, t, rfl, ⟨_, SqT.of ((eG.trans e2) _ _ Y.at_)⟩, ?_⟩
    refine comp_map els (isl as) id jseq_tup (SqT.of ((eG.trans e2) _ _ Y.at_)) (le_line Y.len) (fun v hv H3 e3 Q' q' => ?_) (fun v hv _ H3 e3 Q' q' => ⟨_, rfl, q' _ (Same.refl _)⟩) (fun il H3 hil e3 kil => ?_)
    · rcases Y.kind v hv with ⟨z, rfl, hk⟩ | ⟨a', ys, rfl, hq, hk⟩ | ⟨a', ys, rfl, hq, hk⟩
      · rw [hk] at q'
        exact ⟨_, rfl, .inl ⟨z, rfl, _, rfl, q' _ (Same.refl _)⟩⟩
      · rw [hk] at q'
        exact ⟨_, rfl, .inr (.inl ⟨a', ys, rfl, (eG.trans (e2.trans e3)).seqT hq, _, rfl, q' _ (Same.refl _)⟩)⟩
      · rw [hk] at q'
        exact ⟨_, rfl, .inr (.inr ⟨a', ys, rfl, (eG.trans (e2.trans e3)).seq hq, _, rfl, q' _ (Same.refl _)⟩)⟩
    rw [Y.fil, List.map_id] at kil
    dsimp only [gName]
    refine seq_hide (a := tIfS _ _ _) fun D2 hN2 hR2 hC2 => ?_
    have e3' := e2.trans e3
    have hf3 := e3 _ _ hf2
    have nil_fo : il ≠ fo := (ne_of_none hf2 hil).symm
    have hes3 : ∀ e ∈ es, LEnt K xs G H3 bd e := fun e he => (hes e he).same e3
    have hasl := Paired.length Y.inn
    have hfew := Y.few
    have goon : ∀ (es5 : List Addr) (H5 : Hp), Same H H5 → H5 il = some (.lst (as.map V.ref)) → H5 fo = some (.lst (es5.map V.ref)) → (∀ e ∈ es5, LEnt K xs G H5 bd e) → es5.length ≤ ((ds.take i).flatMap (allD (allL bs))).length + 1 → D2.nx [some (.ref l), some (.ref hd), some (.ref fo), some (.int (i : Int)), some (.ref il), z5] H5 := fun es5 H5 e5 hil5 hf5 hes5 hl5 => hN2 _ _ (by
      refine ⟨_, rfl, il, _, rfl, .inl (SqL.of hil5), _, rfl, by rw [List.length_map]; omega, by rw [List.length_map]; omega, ?_⟩
      refine for_range (lo := 0) (n := ((as.map V.ref).length : Int).toNat) (fun j σ H6 => ∃ (es6 : List Addr) (y5 : Option V), σ = [some (.ref l), some (.ref hd), some (.ref fo), some (.int (i : Int)), some (.ref il), y5] ∧ Same H H6 ∧ H6 il = some (.lst (as.map V.ref)) ∧ H6 fo = some (.lst (es6.map V.ref)) ∧ (∀ e ∈ es6, LEnt K xs G H6 bd e) ∧ es6.length ≤ ((ds.take i).flatMap (allD (allL bs))).length + 1 + (((innL d).take j).flatMap (allL bs)).length) ⟨es5, z5, rfl, e5, hil5, hf5, hes5, Nat.le_trans hl5 (Nat.le_add_right _ _)⟩ ?_ ?_
      · rintro j σ H6 hj ⟨es6, y5, rfl, e6, hil6, hf6, hes6, hl6⟩
        rw [Int.zero_add]
        have hj' : j < as.length := by rw [List.length_map, Int.toNat_natCast] at hj; exact hj
        have hc : as[j]? = some as[j] := List.getElem?_eq_getElem hj'
        generalize as[j] = c at hc
        obtain ⟨a', ha', hLa⟩ := Paired.nth Y.inn hc
        have hszj := fl_mem (g := allL bs) ha'
        have hcat : atI (as.map V.ref) (j : Int) = some (.ref c) := atI_nat (by rw [List.getElem?_map, hc]; rfl)
        refine ⟨_, rfl, (.inl ⟨rfl, _, SqL.of hf6⟩), _, rfl, _, rfl, il, _, _, _, rfl, rfl, SqL.of hil6, hcat, ?_⟩
        refine ⟨_, rfl, _, rfl, _, rfl, (show 2 ≤ sizeLine by decide), fun p hp' => ?_⟩
        have s7 := same_new hp' (.tup [.int (i : Int), .int (j : Int)])
        refine ⟨hd, p, _, _, rfl, rfl, s7.seqT (e6.seqT hhd), upd_same, by simp, le_line (by rw [List.length_map]; show _ + 2 ≤ 1000; omega), fun p4 H8 e8' k8 => ?_⟩
        have e8 := s7.trans e8'
        have k8' : H8 p4 = some (.tup ((flat (pr ++ [(i, j)])).map V.int)) := by
          rw [flat_app, List.map_append]; exact k8
        refine ⟨G, bd, c, p4, a', pr ++ [(i, j)], rfl, (eG.trans e6).trans e8, hLa, LFrom.app hfr ⟨ts, t, c, hl', ht, Y.side j c hc, rfl⟩, SqT.of k8', (by rw [List.length_append]; show _ + 1 + _ ≤ 100; omega), (by omega), (fun x hx => hin x ?_), fun fo' es' H9 e9' _ k9 hes9 hl9 => ?_⟩
        · exact List.mem_cons_of_mem _ (List.mem_flatMap.mpr ⟨a', List.mem_of_getElem? ha', hx⟩)
        have e9 := e8.trans e9'
        have hf9 := e9 _ _ hf6
        refine ⟨fo, fo', _, _, rfl, rfl, hf9, k9, le_line (by rw [List.length_map, List.length_map]; omega), ?_⟩
        refine ⟨es6 ++ es', _, rfl, fun b o z => by rw [upd_ne (ne_of_none z hfo)]; exact e9 _ _ (e6 _ _ z), by rw [upd_ne nil_fo]; exact e9 _ _ hil6, by rw [upd_same, List.map_append], fun e he => ?_, ?_⟩
        · rcases List.mem_append.mp he with z | z
          · exact ((hes6 e z).same e9).put hf9
          · exact (hes9 e z).put hf9
        · rw [fl_take (g := allL bs) ha', List.length_append, List.length_append]; omega
      · rintro σ H6 ⟨es6, y5, rfl, e6, hil6, hf6, hes6, hl6⟩
        refine ⟨es6, _, _, _, rfl, e6, hf6, hes6, ?_⟩
        rw [List.length_map, Int.toNat_natCast, hasl, List.take_length] at hl6
        rw [htk, hdF, List.length_append, List.length_cons]; omega)
    obtain ⟨wd, vs', hwd, hlp⟩ := word_of hX
    have hel' : els = .str wd :: vs' := by have := Y.at_; rw [hwd] at this; exact (HO.tup.inj (Option.some.inj this)).symm
    have ht3 := (eG.trans e3') _ _ hwd
    refine ⟨_, rfl, _, rfl, l, _, _, _, rfl, rfl, SqL.of (e3' _ _ hl), hat, t, _, 0, _, rfl, rfl, SqT.of ht3, at0, rfl, _, rfl, iteB (fun c => ?_) (fun c => ?_)⟩
    · have hw : wd = "while" := V.str.inj (of_decide_eq_true c)
      have hlpd := hlp.mp hw
      cases d with
      | plain p => cases hlpd
      | cond r a b => cases hlpd
      | loop r F' P' a' =>
        refine ⟨_, rfl, (.inl ⟨rfl, _, SqL.of hf3⟩), _, rfl, _, rfl, (show 1 ≤ sizeLine by decide), fun p hp' => ?_⟩
        have s4 := same_new hp' (.tup [.int (i : Int)])
        refine ⟨hd, p, _, _, rfl, rfl, s4.seqT (e3'.seqT hhd), upd_same, by simp, le_line (by rw [List.length_map]; show _ + 1 ≤ 1000; omega), fun p4 H5 e5' k5 => ?_⟩
        have e5 := s4.trans e5'
        refine ⟨_, rfl, _, rfl, l, _, _, _, rfl, rfl, SqL.of (e5 _ _ (e3' _ _ hl)), hat, (show 2 ≤ sizeLine by decide), fun en hen => ?_⟩
        have s6 := same_new hen (.tup [.ref p4, .ref t])
        have k6 : (upd H5 en (.tup [.ref p4, .ref t])) en = some (.tup [.ref p4, .ref t]) := upd_same
        generalize upd H5 en (.tup [.ref p4, .ref t]) = H6 at s6 k6 ⊢
        have e36 := e5.trans s6
        have hf6 := e36 _ _ hf3
        refine ⟨fo, _, _, rfl, rfl, hf6, lt_line (by rw [List.length_map]; omega), ?_⟩
        have hent : LEnt K xs G H6 bd en := ⟨p4, t, l, pr, i, ts, r, F', P', a', k6, by rw [List.map_append]; exact s6 _ _ k5, hfr, by omega, hl', ht, DeedX.same hX (Same.refl _) fun _ _ _ => trivial, hin _ (List.mem_cons_self ..)⟩
        refine goon (es ++ [en]) _ (fun b o z => by rw [upd_ne (ne_of_none z hfo)]; exact e36 _ _ (e3' _ _ z)) (by rw [upd_ne nil_fo]; exact e36 _ _ kil) (by rw [upd_same, List.map_append]; rfl) (fun e he => ?_) (by rw [List.length_append]; exact Nat.succ_le_succ hel)
        rcases List.mem_append.mp he with z | z
        · exact ((hes3 e z).same e36).put hf6
        · rw [List.mem_singleton.mp z]; exact hent.put hf6
    · exact goon es H3 e3' kil hf3 hes3 (Nat.le_succ_of_le hel)
  rintro σ H2 ⟨es, z3, z4, z5, rfl, e2, hf2, hes, hel⟩
  rw [List.length_map, Int.toNat_natCast, List.take_of_length_le (by omega)] at hel
  exact hN1 _ _ ⟨_, rfl, q fo es H2 e2 hfo hf2 hes hel⟩
end
end K60
namespace K60
open PySem PySem.Spec L2 Mir
noncomputable abbrev sBegins : Stmt := top 34
theorem call_int_bl {X : Cx} : CallR X (.type "int") (fun xs H Q => ∃ b : Bool, xs = [.bl b] ∧ Q (.int (if b = true then 1 else 0)) H) := by
  intro pins s σ H xs us Q I r h
  obtain ⟨b, rfl, q⟩ := h
  obtain ⟨u, rfl, ru⟩ := r.one
  cases ru
  exact PySem.call_int_bool ⟨.int _, H, I.tok _, ⟨_, rfl⟩, q⟩
section
variable {κ : Type} [DecidableEq κ]
theorem mem_putK {kv : List (κ × V)} {k : κ} {v : V} {q : κ × V} (h : q ∈ putK kv k v) : (q.1 = k ∧ q.2 = v) ∨ q ∈ kv := by
  unfold putK at h
  split at h
  · obtain ⟨p, hp, rfl⟩ := List.mem_map.mp h
    split
    · exact .inl ⟨by assumption, rfl⟩
    · exact .inr hp
  · rcases List.mem_append.mp h with z | z
    · exact .inr z
    · rw [List.mem_singleton.mp z]; exact .inl ⟨rfl, rfl⟩
theorem putK_nd {kv : List (κ × V)} {k : κ} {v : V} (hn : (kv.map (·.1)).Nodup) : ((putK kv k v).map (·.1)).Nodup := by
  unfold putK
  split
  · have e : (kv.map fun kv => if kv.1 = k then (kv.1, v) else kv).map (·.1) = kv.map (·.1) := by
      rw [List.map_map]
      refine List.map_congr_left fun p _ => ?_
      show (if p.1 = k then (p.1, v) else p).1 = p.1
      split <;> rfl
    rw [e]; exact hn
  · rename_i hc
    rw [List.map_append]
    refine List.nodup_append.mpr ⟨hn, List.nodup_cons.mpr ⟨List.not_mem_nil, .nil⟩, fun a ha b hb e => ?_⟩
    have hb' : b = k := by simpa using hb
    rw [hb'] at e
    obtain ⟨p, hp, e2⟩ := List.mem_map.mp ha
    exact hc (List.any_eq_true.mpr ⟨p, hp, by simpa using e2.trans e⟩)
theorem valV_mem {kv : List (κ × V)} {q : κ × V} (hn : (kv.map (·.1)).Nodup) (h : q ∈ kv) : valV kv q.1 = some q.2 := by
  induction kv with
  | nil => cases h
  | cons p kv ih =>
    rw [List.map_cons, List.nodup_cons] at hn
    rcases List.mem_cons.mp h with rfl | z
    · exact valV_pos rfl
    · rw [valV_neg (fun e => hn.1 (by rw [e]; exact List.mem_map.mpr ⟨q, z, rfl⟩))]
      exact ih hn.2 z
end
inductive spToldAt (K : PySem.W.Frag) (bs : List Nat) (vs : List V) (H : Hp) (Q : VK) (E : XK) : Prop
  | mk (pl pt t : Addr) (ts : List Addr) (ns : List Str) (nm : Str) (h0 : vs = [.ref pl, .str nm, .ref pt]) (h1 : H pl = some (.lst (ts.map V.ref))) (h2 : Paired (fun t n => ∃ us, H t = some (.tup (.str n :: us))) ts ns) (h3 : ns.Nodup) (h4 : ts.length ≤ 10) (h5 : (nm, V.ref t) ∈ byK ns ts)
      (q : ∀ H' E', Same H H' → spToldIn K bs [.ref t, .ref pt] H' Q E') : spToldAt K bs vs H Q E
inductive Tells (K : PySem.W.Frag) (G : Hp) (bd : Addr) (xs : List Str) (cs : List Int) : List Int → List (List Str) → List (List Str) → List Str → Prop
  | start (zs : List Str) (hn : zs.Nodup) (hs : PyProof.Rows.sortedS zs = true) (hm : ∀ y, y ∈ zs ↔ isName y = true ∧ y ∈ allW (B 5) (mainP xs cs)) : Tells K G bd xs cs [0] (mainP xs cs).F1 (mainP xs cs).P1 (zs.filter fun y => !decide (y ∈ (mainP xs cs).ps))
  | inner (l : Addr) (pr : Pre) (k : Nat) (ts : List Addr) (u : Addr) (w x y : Str) (F P : List (List Str)) (a : List Deed) (hl : LFrom G bd pr l) (h3 : pr.length ≤ 100) (hts : G l = some (.lst (ts.map V.ref))) (hu : ts[k]? = some u) (hX : DeedS K G u (.loop [w, x, y] F P a)) (hw : w = "is" ∨ w = "not") : Tells K G bd xs cs (flat pr ++ [(k : Int), 0, 0]) (F ++ [[w, x, y]]) P []
  | behind (l : Addr) (pr : Pre) (k : Nat) (ts : List Addr) (u : Addr) (w x y : Str) (F P : List (List Str)) (a : List Deed) (hl : LFrom G bd pr l) (h3 : pr.length ≤ 100) (hts : G l = some (.lst (ts.map V.ref))) (hu : ts[k]? = some u) (hX : DeedS K G u (.loop [w, x, y] F P a)) (hw : w = "is" ∨ w = "not") : Tells K G bd xs cs (flat pr ++ [(k : Int) + 1]) (F ++ [[contr w, x, y]]) P []
noncomputable def ValX (K : PySem.W.Frag) (H : Hp) (v : V) (F P : List (List Str)) (zs : List Str) : Prop := ∃ r tt fa pa zl, v = .ref r ∧ H r = some (.tup [.ref tt, .ref zl]) ∧ H tt = some (.tup [.ref fa, .ref pa]) ∧ RowsAt K H fa F ∧ RowsAt K H pa P ∧ H zl = some (.lst (zs.map V.str)) ∧ (∀ r ∈ F, ∀ y ∈ r, Ok y) ∧ (∀ r ∈ P, ∀ y ∈ r, Ok y) ∧ ∀ y ∈ zs, Ok y
theorem ValX.same {K : PySem.W.Frag} {H H' : Hp} {v : V} {F P : List (List Str)} {zs : List Str} (h : ValX K H v F P zs) (e : Same H H') : ValX K H' v F P zs := by
  obtain ⟨r, tt, fa, pa, zl, h1, h2, h3, h4, h5, h6, h7⟩ := h
  exact ⟨r, tt, fa, pa, zl, h1, e _ _ h2, e _ _ h3, h4.same e, h5.same e, e _ _ h6, h7⟩
structure Tab (K : PySem.W.Frag) (G : Hp) (bd : Addr) (xs : List Str) (cs : List Int) (H : Hp) (kvs : List (List Key × V)) : Prop where
  nd : (kvs.map (·.1)).Nodup
  ok : ∀ kv ∈ kvs, ∃ (ns : List Int) (F P : List (List Str)) (zs : List Str), kv.1 = ns.map Sum.inl ∧ ns ≠ [] ∧ Tells K G bd xs cs ns F P zs ∧ ValX K H kv.2 F P zs
theorem Tab.same {K : PySem.W.Frag} {G H H' : Hp} {bd : Addr} {xs : List Str} {cs : List Int} {kvs : List (List Key × V)} (T : Tab K G bd xs cs H kvs) (e : Same H H') : Tab K G bd xs cs H' kvs :=
  ⟨T.nd, fun kv hkv => by obtain ⟨ns, F, P, zs, h1, h2, h3, h4⟩ := T.ok kv hkv; exact ⟨ns, F, P, zs, h1, h2, h3, h4.same e⟩⟩
theorem Tab.put {K : PySem.W.Frag} {G H : Hp} {bd : Addr} {xs : List Str} {cs : List Int} {kvs : List (List Key × V)} (T : Tab K G bd xs cs H kvs) {ns : List Int} {F P : List (List Str)} {zs : List Str} {v : V} (hn : ns ≠ []) (h : Tells K G bd xs cs ns F P zs) (hv : ValX K H v F P zs) : Tab K G bd xs cs H (putK kvs (ns.map Sum.inl) v) := by
  refine ⟨putK_nd T.nd, fun kv hkv => ?_⟩
  rcases mem_putK hkv with ⟨e1, e2⟩ | z
  · exact ⟨ns, F, P, zs, e1, hn, h, by rw [e2]; exact hv⟩
  · exact T.ok kv z
theorem kV_ints (ns : List Int) : (ns.map (Sum.inl : Int → Key)).map kV = ns.map V.int := by rw [List.map_map]; rfl
theorem rmd {H : Hp} {d c : Addr} (h : c ≠ d) : rm (fun c => c = d) H c = H c := rm_at (X := fun c => c = d) h
theorem sd_put {H : Hp} {d : Addr} {o : HO} : rm (fun c => c = d) (upd H d o) = rm (fun c => c = d) H := rm_upd rfl
theorem rm_rowsD {K : PySem.W.Frag} {H : Hp} {d a : Addr} {kvs : List (List Key × V)} {rs : List (List Str)} (hd : H d = some (.dT kvs)) (h : RowsAt K H a rs) : RowsAt K (rm (fun c => c = d) H) a rs := by
  obtain ⟨as, h1, h2⟩ := h
  refine ⟨as, by rw [rmd (fun z => by rw [z, hd] at h1; cases h1)]; exact h1, Paired.mapP h2 fun b r k => ?_⟩
  rcases k with (k | ⟨o, k⟩) | k
  · exact .inl (.inl (by rw [rmd (fun z => by rw [z, hd] at k; cases k)]; exact k))
  · exact .inl (.inr ⟨o, by rw [rmd (fun z => by rw [z, hd] at k; cases k)]; exact k⟩)
  · exact .inr k
theorem ValX.rm {K : PySem.W.Frag} {H : Hp} {d : Addr} {kvs : List (List Key × V)} {v : V} {F P : List (List Str)} {zs : List Str} (hd : H d = some (.dT kvs)) (h : ValX K H v F P zs) : ValX K (rm (fun c => c = d) H) v F P zs := by
  obtain ⟨r, tt, fa, pa, zl, h1, h2, h3, h4, h5, h6, h7⟩ := h
  exact ⟨r, tt, fa, pa, zl, h1, by rw [rmd (fun z => by rw [z, hd] at h2; cases h2)]; exact h2, by rw [rmd (fun z => by rw [z, hd] at h3; cases h3)]; exact h3, rm_rowsD hd h4, rm_rowsD hd h5, by rw [rmd (fun z => by rw [z, hd] at h6; cases h6)]; exact h6, h7⟩
theorem LEnt.putD {K : PySem.W.Frag} {xs : List Str} {G H : Hp} {bd e fo : Addr} {kvs : List (List Key × V)} {o : HO} (h : LEnt K xs G H bd e) (hf : H fo = some (.dT kvs)) : LEnt K xs G (upd H fo o) bd e := by
  obtain ⟨pt, u, l, pr, k, ts, r, F, P, a, h1, h2, h3⟩ := h
  have n1 : e ≠ fo := fun z => by rw [z, hf] at h1; cases h1
  have n2 : pt ≠ fo := fun z => by rw [z, hf] at h2; cases h2
  exact ⟨pt, u, l, pr, k, ts, r, F, P, a, by rw [upd_ne n1]; exact h1, by rw [upd_ne n2]; exact h2, h3⟩
theorem val_new {K : PySem.W.Frag} {H : Hp} {v tt nf pa nz tw : Addr} {as : List Addr} {F P : List (List Str)} {r : List Str} (h1 : H v = some (.tup [.ref tt, .ref nz])) (h2 : H tt = some (.tup [.ref nf, .ref pa])) (h3 : H nf = some (.lst (as.map V.ref ++ [.ref tw]))) (h4 : Paired (fun b r => RowAt K H b r) as F) (h5 : H tw = some (.tup (r.map V.str))) (h6 : RowsAt K H pa P) (h7 : H nz = some (.lst [])) (okF : ∀ r ∈ F, ∀ y ∈ r, Ok y) (okP : ∀ r ∈ P, ∀ y ∈ r, Ok y) (okr : ∀ y ∈ r, Ok y) : ValX K H (.ref v) (F ++ [r]) P [] := by
  refine ⟨v, tt, nf, pa, nz, rfl, h1, h2, ⟨as ++ [tw], by rw [List.map_append]; exact h3, Paired.snocP h4 (SqT.of h5)⟩, h6, h7, fun s hs => ?_, okP, fun y hy => by cases hy⟩
  rcases List.mem_append.mp hs with z | z
  · exact okF s z
  · rw [List.mem_singleton.mp z]; exact okr
inductive spBegins (K : PySem.W.Frag) (vs : List V) (H : Hp) (Q : VK) (E : XK) : Prop
  | mk (t zl bd : Addr) (v0 v1 v2 v3 v4 : V) (xs : List Str) (cs : List Int) (zs : List Str) (h0 : vs = [.ref t, .ref zl]) (h1 : PrcAt K H (B 5) t (mainP xs cs)) (hbd : H t = some (.tup [v0, v1, v2, v3, v4, .ref bd])) (N : Names8 xs) (hz : H zl = some (.lst (zs.map V.str))) (hn : zs.Nodup) (hs : PyProof.Rows.sortedS zs = true) (hm : ∀ y, y ∈ zs ↔ isName y = true ∧ y ∈ allW (B 5) (mainP xs cs))
      (q : ∀ d kvs H', Same H H' → H' d = some (.dT kvs) → Tab K H bd xs cs H' kvs → kvs.length ≤ 60 → Q (.ref d) H') : spBegins K vs H Q E
section
variable {P : Program} {w : World} {K : PySem.W.Frag} {mg : Str → Option Value} {base : Heap} {f gB gI gL : Addr} {fd dB dI dL : FuncData}
theorem scToldAt : FnScope ["program", "name", "path"] ["program", "name", "path"] (defScope sToldAt) := ⟨rfl, rfl, rfl, by decide +kernel, rfl, by decide +kernel, by decide +kernel⟩
theorem ok_toldAt {n : Nat} {bs : List Nat} (hn1 : 1 ≤ n) (C : Con K mg w) (F : Fun K "told_at" "told_at" sToldAt f fd) (GB : FnOk P w K mg base CX0 1 gB dB ["program"] (spBy K)) (cB : Cal K mg "by_names" gB dB ["program"]) (GI : FnOk P w K mg base CX0 n gI dI ["procedure", "path"] (spToldIn K bs)) (cI : Cal K mg "told_in" gI dI ["procedure", "path"]) : FnOk P w K mg base CX0 (n + 1) f fd ["program", "name", "path"] (spToldAt K bs) := by
  refine F.okQ scToldAt (fun vs H Q E h => ?_) (fun cdv A outer s0 H vs Q E hr h => ?_)
  · obtain ⟨pl, pt, t, ts, ns, nm, rfl, _⟩ := h; rfl
  obtain ⟨pl, pt, t, ts, ns, nm, rfl, hpl, hts, hnd, h10, hin, q⟩ := h
  have nd := scToldAt.nd
  have hr1 := hr.mono (j := 1) (by omega)
  have hu1 := hu_of hr
  refine ⟨_, (qb_one (qs_ret (qe_call GI hr rfl cI.name cI.keep cI.bind .nil pass0 (qa_sub (qe_dget hu1 (qe_call GB hr1 rfl cB.name cB.keep cB.bind .nil pass0 (qa_nm (qv 0) qa_nil)) (qv 1) (fun _ _ => rfl)) (qa_nm (qv 2) qa_nil))))), ?_⟩
  have hkn : ((byK ns ts).map (·.1)).Nodup := by
    unfold byK
    rw [List.map_map]
    show ((ns.zip ts).map (·.1)).Nodup
    rw [List.map_fst_zip (by rw [Paired.length hts]; exact Nat.le_refl _)]
    exact hnd
  refine ⟨_, rfl, pl, ts, ns, rfl, hpl, hts, hnd, h10, fun d H1 e1 kd => ?_⟩
  have hval : valV ((byK ns ts).map kk) (Sum.inr nm) = some (.ref t) := by
    have h1 : (Sum.inr nm, V.ref t) ∈ (byK ns ts).map kk := List.mem_map.mpr ⟨_, hin, rfl⟩
    refine valV_mem (q := ((Sum.inr nm : Key), V.ref t)) ?_ h1
    rw [List.map_map]
    have e : ((byK ns ts).map ((fun x => x.1) ∘ kk)) = ((byK ns ts).map (·.1)).map (Sum.inr : Str → Key) := by rw [List.map_map]; rfl
    rw [e]
    exact List.Pairwise.map _ (fun a b h z => h (Sum.inr.inj z)) hkn
  have hg := DGet.k (k := Sum.inr nm) kd
  rw [hval] at hg
  exact ⟨_, rfl, d, _, rfl, hg, _, rfl, q H1 _ e1⟩
theorem scBegins : FnScope ["_law_procedure", "_law_names_here", "_law_found", "_law_path", "_law_deed", "_law_word", "_law_one", "_law_other", "_law_contrary"] ["_law_procedure", "_law_names_here"] (defScope sBegins) := ⟨rfl, rfl, rfl, by decide +kernel, rfl, by decide +kernel, by decide +kernel⟩
theorem ok_begins {n : Nat} (C : Con K mg w) (F : Fun K "_law_begins" "_law_begins" sBegins f fd) (GL : ∀ xs, FnOk P w K mg base CX0 (n + 1) gL dL ["_law_deeds", "_law_head"] (spLoops K xs (B 5))) (cL : Cal K mg "_law_loops" gL dL ["_law_deeds", "_law_head"]) : FnOk P w K mg base CX0 (n + 1 + 1) f fd ["_law_procedure", "_law_names_here"] (spBegins K) := by
  refine F.okQ scBegins (fun vs H Q E h => ?_) (fun cdv A outer s0 H vs Q E hr h => ?_)
  · obtain ⟨t, zl, bd, v0, v1, v2, v3, v4, xs, cs, zs, rfl, _⟩ := h; rfl
  obtain ⟨t, zl, bd, v0, v1, v2, v3, v4, xs, cs, zs, rfl, hP, hbd, N, hz, hzn, hzs, hzm, q⟩ := h
  have GLx := GL xs
  have nd := scBegins.nd
  have hu1 := hu_of hr
  have hu0 := Nat.lt_of_succ_lt hu1
  refine ⟨_, qb_cons (qs_set (i := 2) nd rfl (Or.inl rfl) (qe_disp1T hu0 (qe_tup (qa_int qa_nil)) (qe_tup (qa_sub (qe_ix ix_tup (qv 0) qe_int (fun _ _ => rfl)) (qa_cons (qe_compG ["_law_name", "_law_procedure"] [0] (qi_list (qv 1)) (fun _ _ _ _ => (qts_one (qt_cmpR (show OpR _ _ (rIn K true) from op_notIn_seq) (qv 0) (qe_ix (ixTK (K := K) rfl) (qv 1) qe_int (fun _ _ => rfl)) (by with_unfolding_all rfl)))) (fun _ _ _ _ => (qv 0))) qa_nil)))))
    (qb_cons (qs_for PassesOwn.never rfl (qi_list (qe_call GLx hr rfl cL.name cL.keep cL.bind .nil pass0 (qa_sub (qe_ix ix_tup (qv 0) qe_int (fun _ _ => rfl)) (qa_tp qa_nil qa_nil)))) (qg_tup2 (qg_name (i := 3) nd rfl (Or.inl rfl)) (qg_name (i := 4) nd rfl (Or.inl rfl))) (qb_cons (qs_asg (qe_ix ix_tup (qv 4) qe_int (fun _ _ => rfl)) (qg_tup3 (qg_name (i := 5) nd rfl (Or.inl rfl)) (qg_name (i := 6) nd rfl (Or.inl rfl)) (qg_name (i := 7) nd rfl (Or.inl rfl))))
    (qb_cons (qs_set (i := 8) nd rfl (Or.inl rfl) (qe_ix ix_list (qe_lst (qa_str (qa_str qa_nil))) (qe_callTy call_int_bl rfl C.int PyProof.Rows.boot_int (qa_cons (qe_cmpR op_eq (qv 5) qe_str (nomark _)) qa_nil)) (fun _ _ => rfl)))
    (qb_cons (qs_dput hu1 (qv 2) (qe_op op_catTW (qv 3) (qe_tup (qa_int (qa_int qa_nil)))) (qe_tup (qa_tp (qa_bop (qe_op op_cat (qe_ix ix_tup (qe_ix ix_tup (qv 4) qe_int (fun _ _ => rfl)) qe_int (fun _ _ => rfl)) (qe_lst (qa_tp (qa_nm (qv 5) (qa_nm (qv 6) (qa_nm (qv 7) qa_nil))) qa_nil))) (qa_sub (qe_ix ix_tup (qe_ix ix_tup (qv 4) qe_int (fun _ _ => rfl)) qe_int (fun _ _ => rfl)) qa_nil)) (qa_ls qa_nil qa_nil))))
    (qb_one (qs_dput hu1 (qv 2) (qe_op op_catTW (qe_slice sl_tupU (qv 3) qo_none (qo_some (qe_un un_neg qe_int))) (qe_tup (qa_bop (qe_op op_add (qe_ix ix_tup (qv 3) (qe_un un_neg qe_int) (fun _ _ => rfl)) qe_int) qa_nil))) (qe_tup (qa_tp (qa_bop (qe_op op_cat (qe_ix ix_tup (qe_ix ix_tup (qv 4) qe_int (fun _ _ => rfl)) qe_int (fun _ _ => rfl)) (qe_lst (qa_tp (qa_nm (qv 8) (qa_nm (qv 6) (qa_nm (qv 7) qa_nil))) qa_nil))) (qa_sub (qe_ix ix_tup (qe_ix ix_tup (qv 4) qe_int (fun _ _ => rfl)) qe_int (fun _ _ => rfl)) qa_nil)) (qa_ls qa_nil qa_nil)))))))))
    (qb_one (qs_ret (qv 2)))), ?_⟩
  obtain ⟨pt, t1, t2, f1, p1, f2, p2, bd', x⟩ := id hP
  have hbb : bd' = bd := by
    have h1 := x.tup
    rw [hbd] at h1
    have h2 := HO.tup.inj (Option.some.inj h1)
    injection h2 with _ h2; injection h2 with _ h2; injection h2 with _ h2; injection h2 with _ h2; injection h2 with _ h2; injection h2 with h2 _
    exact (V.ref.inj h2).symm
  subst hbb
  intro d hd
  have s1 := same_new hd (.dT [])
  have k1 : (upd H d (.dT [])) d = some (.dT []) := upd_same
  generalize upd H d (.dT []) = H1 at s1 k1 ⊢
  refine ⟨(show 1 ≤ sizeLine by decide), fun b0 hb0 => ?_⟩
  have s2' := same_new hb0 (.tup [.int 0])
  have k2 : (upd H1 b0 (.tup [.int 0])) b0 = some (.tup [.int 0]) := upd_same
  generalize upd H1 b0 (.tup [.int 0]) = H2 at s2' k2 ⊢
  have s2 := s1.trans s2'
  refine ⟨_, rfl, t, _, 3, _, rfl, rfl, SqT.of (s2 _ _ x.tup), rfl, ?_⟩
  have hzl : zs.length ≤ 20 := Nat.le_trans (List.Nodup.length_le_of_subset hzn fun y hy => (main_ok N cs).names y ((hzm y).mp hy).2 ((hzm y).mp hy).1) (main_ok N cs).len
  refine ⟨_, rfl, zl, rfl, ⟨_, SqL.of (s2 _ _ hz)⟩, ?_⟩
  refine comp_words zs (fun y => !decide (y ∈ (mainP xs cs).ps)) jseq_list (SqL.of (s2 _ _ hz)) (by omega) (fun y hy H3 e3 Q' q' => ?_) (fun y H3 Q' q' => ⟨_, rfl, q'⟩) (fun D H3 hD e3' kD => ?_)
  · have e := s2.trans e3
    refine ⟨_, rfl, _, rfl, t, _, 1, _, rfl, rfl, SqT.of (e _ _ x.tup), rfl, pt, _, rfl, .inr (SqT.of (e _ _ x.pt)), rfl, flat_strs _, _, rfl, ?_⟩
    rw [inV_strs]
    exact q' _ (Same.refl _)
  have e3 := s2.trans e3'
  have kd3 := e3' _ _ (s2' _ _ k1)
  have nDd : D ≠ d := fun z => by rw [z, kd3] at kD; cases kD
  refine ⟨(show 2 ≤ sizeLine by decide), fun vv hvv => ?_⟩
  have s4 := same_new hvv (.tup [.ref t1, .ref D])
  have k4 : (upd H3 vv (.tup [.ref t1, .ref D])) vv = some (.tup [.ref t1, .ref D]) := upd_same
  generalize upd H3 vv (.tup [.ref t1, .ref D]) = H4 at s4 k4 ⊢
  have kd4 := s4 _ _ kd3
  refine ⟨b0, [Sum.inl 0], rfl, kd4, (e3'.trans s4) _ _ k2, ?_⟩
  have e4 := e3.trans s4
  have ned : ∀ {H' : Hp} {c : Addr} {o : HO}, H c = some o → c ≠ d := fun h => ne_of_none h hd
  have hold : ∀ {H' : Hp}, Same H H' → Same H (rm (fun c => c = d) H') := fun e b o z => by rw [rmd (ned (H' := H) z)]; exact e _ _ z
  have V0 : ValX K (rm (fun c => c = d) H4) (.ref vv) (mainP xs cs).F1 (mainP xs cs).P1 (zs.filter fun y => !decide (y ∈ (mainP xs cs).ps)) := by
    refine ⟨vv, t1, f1, p1, D, rfl, ?_, hold e4 _ _ x.t1, x.f1.same (hold e4), x.p1.same (hold e4), ?_, x.ok1.1, x.ok1.2, fun y hy => ?_⟩
    · rw [rmd (fun z => by rw [z, kd4] at k4; cases k4)]; exact k4
    · rw [rmd nDd]; exact s4 _ _ kD
    · exact ok_name ((hzm y).mp (List.mem_filter.mp hy).1).1
  have T0 : Tab K H bd' xs cs (rm (fun c => c = d) H4) [([Sum.inl 0], .ref vv)] := by
    refine ⟨List.pairwise_singleton _ _, fun kv hkv => ?_⟩
    rw [List.mem_singleton.mp hkv]
    exact ⟨[0], _, _, _, rfl, by simp, .start zs hzn hzs hzm, V0⟩
  have T0' : Tab K H bd' xs cs (rm (fun c => c = d) (upd H4 d (.dT [([Sum.inl 0], .ref vv)]))) [([Sum.inl 0], .ref vv)] := by rw [sd_put]; exact T0
  have e5 : Same H (upd H4 d (.dT [([Sum.inl 0], .ref vv)])) := fun b o z => by rw [upd_ne (ned (H' := H) z)]; exact e4 _ _ z
  have k5 : (upd H4 d (.dT [([Sum.inl 0], .ref vv)])) d = some (.dT [([Sum.inl 0], .ref vv)]) := upd_same
  generalize upd H4 d (.dT [([Sum.inl 0], .ref vv)]) = H5 at e5 k5 T0' ⊢
  clear T0 V0 kd4 kd3 k4 s4 e4 e3 e3' s2' s2 k2 k1 s1
  dsimp only [gName]
  refine seq_hide (a := tFor _ _ _) fun D1 hN1 hR1 hC1 => ?_
  refine ⟨_, rfl, t, _, 5, _, rfl, rfl, SqT.of (e5 _ _ x.tup), rfl, Nat.zero_le _, fun p0 hp0 => ?_⟩
  have s6 := same_new hp0 (.tup [])
  have G20 := main_few N cs
  refine ⟨H, bd', bd', p0, (mainP xs cs).body, [], rfl, e5.trans s6, x.body, rfl, SqT.of upd_same, by decide, Nat.le_trans (G20.len _) (by decide), fun dd hdd => G20.ok _ dd hdd, fun fo es H7 e7' hfo kfo hes hel => ?_⟩
  refine ⟨fo, rfl, ⟨_, SqL.of kfo⟩, ?_⟩
  have e7 := e5.trans (s6.trans e7')
  have kd7 := (s6.trans e7') _ _ k5
  have T7 : Tab K H bd' xs cs (rm (fun c => c = d) H7) [([Sum.inl 0], .ref vv)] := T0'.same (rm_same (s6.trans e7'))
  have nfd : fo ≠ d := fun z => by rw [z, kd7] at kfo; cases kfo
  refine for_list (xs := es.map V.ref) (fun i σ H8 => ∃ (kvs : List (List Key × V)) (z3 z4 z5 z6 z7 z8 : Option V), σ = [some (.ref t), some (.ref zl), some (.ref d), z3, z4, z5, z6, z7, z8] ∧ Same H H8 ∧ H8 fo = some (.lst (es.map V.ref)) ∧ (∀ e ∈ es, LEnt K xs H H8 bd' e) ∧ H8 d = some (.dT kvs) ∧ Tab K H bd' xs cs (rm (fun c => c = d) H8) kvs ∧ kvs.length ≤ 1 + 2 * i) ⟨_, none, none, none, none, none, none, rfl, e7, kfo, hes, kd7, T7, Nat.le_refl _⟩ (fun i σ H' _ z => by obtain ⟨_, _, _, _, _, _, _, _, _, h, _⟩ := z; exact SqL.of h) ?_ ?_
  · rintro i v σ H8 hv ⟨kvs, z3, z4, z5, z6, z7, z8, rfl, e8, hfo8, hes8, kd8, T8, hkl⟩
    rw [List.getElem?_map] at hv
    obtain ⟨en, hen, rfl⟩ := Option.map_eq_some_iff.mp hv
    have hi20 : i < 20 := Nat.lt_of_lt_of_le (List.getElem?_eq_some_iff.mp hen).1 (Nat.le_trans hel (G20.len _))
    obtain ⟨pp, u, l, pr, k, ts, r, F', P', a', he1, he2, hlf, hpl, hts, hku, hX, hDG⟩ := hes8 en (List.mem_of_getElem? hen)
    obtain ⟨⟨wd, x1, x2, rfl, hw⟩, _⟩ := id hDG
    obtain ⟨c, td, i', fa, pa, hu, hcd, okr, htd, hF, hP', okF, okP, lF, lP⟩ : ∃ c td i' fa pa, H u = some (.tup [.str "while", .ref c, .ref td, .ref i']) ∧ H c = some (.tup (([wd, x1, x2] : List Str).map V.str)) ∧ (∀ y ∈ ([wd, x1, x2] : List Str), Ok y) ∧ H td = some (.tup [.ref fa, .ref pa]) ∧ RowsAt K H fa F' ∧ RowsAt K H pa P' ∧ (∀ r ∈ F', ∀ y ∈ r, Ok y) ∧ (∀ r ∈ P', ∀ y ∈ r, Ok y) ∧ F'.length ≤ 10 ∧ P'.length ≤ 10 := by
      cases hX with
      | loop c td i' fa pa r F P a h hc okr htd hF hP okF okP lF lP hi => exact ⟨c, td, i', fa, pa, h, hc, okr, htd, hF, hP, okF, okP, lF, lP⟩
    obtain ⟨asF, hF1, hF2⟩ := id hF
    have hal := Paired.length hF2
    have hfl := flat_len pr
    refine ⟨en, _, rfl, SqT.of he1, rfl, _, _, rfl, _, _, rfl, rfl, ?_⟩
    refine ⟨_, rfl, u, _, 1, _, rfl, rfl, SqT.of (e8 _ _ hu), rfl, c, _, rfl, SqT.of (e8 _ _ hcd), rfl, _, _, rfl, _, _, rfl, _, _, rfl, rfl, ?_⟩
    refine ⟨(show 2 ≤ sizeLine by decide), fun l1 hl1 => ?_⟩
    have s9 := same_new hl1 (.lst [.str "is", .str "not"])
    have k9 : (upd H8 l1 (.lst [.str "is", .str "not"])) l1 = some (.lst [.str "is", .str "not"]) := upd_same
    generalize upd H8 l1 (.lst [.str "is", .str "not"]) = H9 at s9 k9 ⊢
    have hcon : atI [V.str "is", V.str "not"] (if decide (V.str wd = V.str "is") = true then 1 else 0) = some (.str (contr wd)) := by
      unfold contr
      by_cases g : wd = "is"
      · rw [if_pos g, g, if_pos (by simp)]; rfl
      · rw [if_neg g, if_neg (by simp [g])]; rfl
    refine ⟨_, rfl, rfl, _, rfl, l1, _, _, _, rfl, rfl, SqL.of k9, hcon, ?_⟩
    have e9 := e8.trans s9
    have OKWa : ∀ y ∈ ([wd, x1, x2] : List Str), Ok y := okr
    have okc : Ok (contr wd) := by
      unfold contr
      split <;> exact ok_words _ (by simp)
    have OKWb : ∀ y ∈ ([contr wd, x1, x2] : List Str), Ok y := fun y hy => by
      rcases List.mem_cons.mp hy with rfl | z
      · exact okc
      · exact okr y (List.mem_cons_of_mem _ z)
    refine ⟨_, rfl, u, _, 2, _, rfl, rfl, SqT.of (e9 _ _ hu), rfl, td, _, 0, _, rfl, rfl, SqT.of (e9 _ _ htd), rfl, ?_⟩
    refine ⟨_, rfl, _, rfl, _, rfl, (show 3 ≤ sizeLine by decide), fun twa htwa => ?_⟩
    have a1a := same_new htwa (.tup [.str wd, .str x1, .str x2])
    have b1a : (upd H9 twa (.tup [.str wd, .str x1, .str x2])) twa = some (.tup [.str wd, .str x1, .str x2]) := upd_same
    generalize upd H9 twa (.tup [.str wd, .str x1, .str x2]) = J1a at a1a b1a ⊢
    refine ⟨(show 1 ≤ sizeLine by decide), fun lwa hlwa => ?_⟩
    have a2a := same_new hlwa (.lst [.ref twa])
    have b2a : (upd J1a lwa (.lst [.ref twa])) lwa = some (.lst [.ref twa]) := upd_same
    generalize upd J1a lwa (.lst [.ref twa]) = J2a at a2a b2a ⊢
    have c2a := e9.trans (a1a.trans a2a)
    refine ⟨fa, lwa, _, _, rfl, rfl, c2a _ _ hF1, b2a, le_line (by rw [List.length_map]; show _ + 1 ≤ 1000; omega), fun nfa hnfa => ?_⟩
    have a3a := same_new hnfa (.lst (asF.map V.ref ++ [.ref twa]))
    have b3a : (upd J2a nfa (.lst (asF.map V.ref ++ [.ref twa]))) nfa = some (.lst (asF.map V.ref ++ [.ref twa])) := upd_same
    generalize upd J2a nfa (.lst (asF.map V.ref ++ [.ref twa])) = J3a at a3a b3a ⊢
    have c3a := c2a.trans a3a
    refine ⟨_, rfl, u, _, 2, _, rfl, rfl, SqT.of (c3a _ _ hu), rfl, td, _, 1, _, rfl, rfl, SqT.of (c3a _ _ htd), rfl, (show 2 ≤ sizeLine by decide), fun tta htta => ?_⟩
    have a4a := same_new htta (.tup [.ref nfa, .ref pa])
    have b4a : (upd J3a tta (.tup [.ref nfa, .ref pa])) tta = some (.tup [.ref nfa, .ref pa]) := upd_same
    generalize upd J3a tta (.tup [.ref nfa, .ref pa]) = J4a at a4a b4a ⊢
    refine ⟨Nat.zero_le _, fun nza hnza => ?_⟩
    have a5a := same_new hnza (.lst [])
    have b5a : (upd J4a nza (.lst [])) nza = some (.lst []) := upd_same
    generalize upd J4a nza (.lst []) = J5a at a5a b5a ⊢
    refine ⟨(show 2 ≤ sizeLine by decide), fun vva hvva => ?_⟩
    have a6a := same_new hvva (.tup [.ref tta, .ref nza])
    have b6a : (upd J5a vva (.tup [.ref tta, .ref nza])) vva = some (.tup [.ref tta, .ref nza]) := upd_same
    generalize upd J5a vva (.tup [.ref tta, .ref nza]) = J6a at a6a b6a ⊢
    have c46a := a4a.trans (a5a.trans a6a)
    have c6a := c3a.trans c46a
    have VVa : ValX K J6a (.ref vva) (F' ++ [[wd, x1, x2]]) P' [] := val_new (r := [wd, x1, x2]) b6a ((a5a.trans a6a) _ _ b4a) (c46a _ _ b3a) (Paired.mapP hF2 fun _ _ z => RowAt.same z c6a) ((a2a.trans (a3a.trans c46a)) _ _ b1a) (hP'.same c6a) (a6a _ _ b5a) okF okP OKWa
    have q6a := (s9.trans (a1a.trans (a2a.trans (a3a.trans c46a))))
    refine ⟨_, rfl, _, rfl, (show 2 ≤ sizeLine by decide), fun p hp => ?_⟩
    have a7 := same_new hp (.tup [.int 0, .int 0])
    refine ⟨pp, p, _, _, rfl, rfl, SqT.of (a7 _ _ (q6a _ _ he2)), upd_same, by simp, le_line (by rw [List.length_map, List.length_append, hfl]; show _ + 1 + 2 ≤ 1000; omega), fun p4 H10 e10' k10 => ?_⟩
    have e10 := a7.trans e10'
    have q10 := q6a.trans e10
    have kd10 := q10 _ _ kd8
    have k10' : H10 p4 = some (.tup (((flat pr ++ [(k : Int), 0, 0]).map (Sum.inl : Int → Key)).map kV)) := by
      rw [kV_ints, List.map_append]
      have : H10 p4 = some (.tup ((flat pr ++ [(k : Int)]).map V.int ++ [.int 0, .int 0])) := k10
      rw [List.map_append, List.append_assoc] at this; exact this
    refine ⟨d, _, rfl, .inr ⟨kvs, _, p4, kd10, rfl, k10', lt_line (by omega), rfl⟩, ?_⟩
    have T10 := (T8.same (rm_same q10)).put (ns := flat pr ++ [(k : Int), 0, 0]) (by simp) (.inner l pr k ts u wd x1 x2 F' P' a' hlf hpl hts hku hX hw) ((VVa.same e10).rm kd10)
    have kl10 := length_putK kvs ((flat pr ++ [(k : Int), 0, 0]).map (Sum.inl : Int → Key)) (.ref vva)
    have e11 : Same H (upd H10 d (.dT (putK kvs ((flat pr ++ [(k : Int), 0, 0]).map Sum.inl) (.ref vva)))) := fun b o z => by rw [upd_ne (ned (H' := H) z)]; exact q10 _ _ (e8 _ _ z)
    have k11 : (upd H10 d (.dT (putK kvs ((flat pr ++ [(k : Int), 0, 0]).map Sum.inl) (.ref vva)))) d = some (.dT (putK kvs ((flat pr ++ [(k : Int), 0, 0]).map Sum.inl) (.ref vva))) := upd_same
    have T11 : Tab K H bd' xs cs (rm (fun c => c = d) (upd H10 d (.dT (putK kvs ((flat pr ++ [(k : Int), 0, 0]).map Sum.inl) (.ref vva))))) (putK kvs ((flat pr ++ [(k : Int), 0, 0]).map Sum.inl) (.ref vva)) := by rw [sd_put]; exact T10
    have hfo11 : (upd H10 d (.dT (putK kvs ((flat pr ++ [(k : Int), 0, 0]).map Sum.inl) (.ref vva)))) fo = some (.lst (es.map V.ref)) := by rw [upd_ne nfd]; exact q10 _ _ hfo8
    have hes11 : ∀ e ∈ es, LEnt K xs H (upd H10 d (.dT (putK kvs ((flat pr ++ [(k : Int), 0, 0]).map Sum.inl) (.ref vva)))) bd' e := fun e he => ((hes8 e he).same q10).putD kd10
    have he11 : (upd H10 d (.dT (putK kvs ((flat pr ++ [(k : Int), 0, 0]).map Sum.inl) (.ref vva)))) pp = some (.tup ((flat pr ++ [(k : Int)]).map V.int)) := by rw [upd_ne (fun z => by rw [z, kd8] at he2; cases he2)]; exact q10 _ _ he2
    generalize putK kvs ((flat pr ++ [(k : Int), 0, 0]).map Sum.inl) (.ref vva) = kvs2 at kl10 e11 k11 T11 hfo11 hes11 he11 ⊢
    generalize upd H10 d (.dT kvs2) = H11 at e11 k11 T11 hfo11 hes11 he11 ⊢
    clear T10 T8 VVa kd10 k10 k10' q10 e10 e10' q6a
    refine ⟨_, rfl, u, _, 2, _, rfl, rfl, SqT.of (e11 _ _ hu), rfl, td, _, 0, _, rfl, rfl, SqT.of (e11 _ _ htd), rfl, ?_⟩
    refine ⟨_, rfl, _, rfl, _, rfl, (show 3 ≤ sizeLine by decide), fun twb htwb => ?_⟩
    have a1b := same_new htwb (.tup [.str (contr wd), .str x1, .str x2])
    have b1b : (upd H11 twb (.tup [.str (contr wd), .str x1, .str x2])) twb = some (.tup [.str (contr wd), .str x1, .str x2]) := upd_same
    generalize upd H11 twb (.tup [.str (contr wd), .str x1, .str x2]) = J1b at a1b b1b ⊢
    refine ⟨(show 1 ≤ sizeLine by decide), fun lwb hlwb => ?_⟩
    have a2b := same_new hlwb (.lst [.ref twb])
    have b2b : (upd J1b lwb (.lst [.ref twb])) lwb = some (.lst [.ref twb]) := upd_same
    generalize upd J1b lwb (.lst [.ref twb]) = J2b at a2b b2b ⊢
    have c2b := e11.trans (a1b.trans a2b)
    refine ⟨fa, lwb, _, _, rfl, rfl, c2b _ _ hF1, b2b, le_line (by rw [List.length_map]; show _ + 1 ≤ 1000; omega), fun nfb hnfb => ?_⟩
    have a3b := same_new hnfb (.lst (asF.map V.ref ++ [.ref twb]))
    have b3b : (upd J2b nfb (.lst (asF.map V.ref ++ [.ref twb]))) nfb = some (.lst (asF.map V.ref ++ [.ref twb])) := upd_same
    generalize upd J2b nfb (.lst (asF.map V.ref ++ [.ref twb])) = J3b at a3b b3b ⊢
    have c3b := c2b.trans a3b
    refine ⟨_, rfl, u, _, 2, _, rfl, rfl, SqT.of (c3b _ _ hu), rfl, td, _, 1, _, rfl, rfl, SqT.of (c3b _ _ htd), rfl, (show 2 ≤ sizeLine by decide), fun ttb httb => ?_⟩
    have a4b := same_new httb (.tup [.ref nfb, .ref pa])
    have b4b : (upd J3b ttb (.tup [.ref nfb, .ref pa])) ttb = some (.tup [.ref nfb, .ref pa]) := upd_same
    generalize upd J3b ttb (.tup [.ref nfb, .ref pa]) = J4b at a4b b4b ⊢
    refine ⟨Nat.zero_le _, fun nzb hnzb => ?_⟩
    have a5b := same_new hnzb (.lst [])
    have b5b : (upd J4b nzb (.lst [])) nzb = some (.lst []) := upd_same
    generalize upd J4b nzb (.lst []) = J5b at a5b b5b ⊢
    refine ⟨(show 2 ≤ sizeLine by decide), fun vvb hvvb => ?_⟩
    have a6b := same_new hvvb (.tup [.ref ttb, .ref nzb])
    have b6b : (upd J5b vvb (.tup [.ref ttb, .ref nzb])) vvb = some (.tup [.ref ttb, .ref nzb]) := upd_same
    generalize upd J5b vvb (.tup [.ref ttb, .ref nzb]) = J6b at a6b b6b ⊢
    have c46b := a4b.trans (a5b.trans a6b)
    have c6b := c3b.trans c46b
    have VVb : ValX K J6b (.ref vvb) (F' ++ [[(contr wd), x1, x2]]) P' [] := val_new (r := [(contr wd), x1, x2]) b6b ((a5b.trans a6b) _ _ b4b) (c46b _ _ b3b) (Paired.mapP hF2 fun _ _ z => RowAt.same z c6b) ((a2b.trans (a3b.trans c46b)) _ _ b1b) (hP'.same c6b) (a6b _ _ b5b) okF okP OKWb
    have q6b := (a1b.trans (a2b.trans (a3b.trans c46b)))
    have he12 := q6b _ _ he11
    have he12' : J6b pp = some (.tup ((flat pr).map V.int ++ [(k : Int)].map V.int)) := by rw [← List.map_append]; exact he12
    refine ⟨_, rfl, _, rfl, _, rfl, _, rfl, pp, _, rfl, SqT.of he12', fun p5 H12 e12 k12 => ?_⟩
    rw [show cutV ((flat pr).map V.int ++ [(k : Int)].map V.int) none (some (-(1 : Int))) = (flat pr).map V.int from cut_neg _ _ (m := 1) rfl (by decide)] at k12
    refine ⟨_, rfl, _, rfl, pp, _, _, _, rfl, rfl, SqT.of (e12 _ _ he12'), atI_last, _, _, rfl, rfl, (show 1 ≤ sizeLine by decide), fun p6 hp6 => ?_⟩
    have s13 := same_new hp6 (.tup [.int ((k : Int) + 1)])
    refine ⟨p5, p6, _, _, rfl, rfl, s13.seqT k12, upd_same, by simp, le_line (by rw [List.length_map, hfl]; show _ + 1 ≤ 1000; omega), fun p7 H14 e14' k14 => ?_⟩
    have e614 := e12.trans (s13.trans e14')
    have q14 := q6b.trans e614
    have kd14 := q14 _ _ k11
    have k14' : H14 p7 = some (.tup (((flat pr ++ [(k : Int) + 1]).map (Sum.inl : Int → Key)).map kV)) := by
      rw [kV_ints, List.map_append]; exact k14
    have e14 := e11.trans q14
    refine ⟨d, _, rfl, .inr ⟨kvs2, _, p7, kd14, rfl, k14', lt_line (by omega), rfl⟩, ?_⟩
    have T14 := (T11.same (rm_same q14)).put (ns := flat pr ++ [(k : Int) + 1]) (by simp) (.behind l pr k ts u wd x1 x2 F' P' a' hlf hpl hts hku hX hw) ((VVb.same e614).rm kd14)
    have kl14 := length_putK kvs2 ((flat pr ++ [(k : Int) + 1]).map (Sum.inl : Int → Key)) (.ref vvb)
    refine ⟨_, _, _, _, _, _, _, rfl, fun b o z => by rw [upd_ne (ned (H' := H) z)]; exact e14 _ _ z, by rw [upd_ne nfd]; exact q14 _ _ hfo11, fun e he => ((hes11 e he).same q14).putD kd14, upd_same, by rw [sd_put]; exact T14, by omega⟩
  rintro σ H8 ⟨kvs, z3, z4, z5, z6, z7, z8, rfl, e8, hfo8, hes8, kd8, T8, hkl⟩
  rw [List.length_map] at hkl
  have hel20 := G20.len (B 5)
  exact hN1 _ _ ⟨_, rfl, q d kvs H8 e8 kd8 (T8.same rm_back) (by omega)⟩
end
end K60
namespace K60
open PySem PySem.Spec L2 Mir
noncomputable abbrev sRight : Stmt := top 35
noncomputable abbrev sLaw : Stmt := top 36
theorem told_of {K : PySem.W.Frag} {G H : Hp} {bd t pt : Addr} {v0 v1 v2 v3 v4 : V} {xs : List Str} {cs : List Int} {ns : List Int} {F P : List (List Str)} {zs : List Str} {Q : VK} {E : XK} (T : Tells K G bd xs cs ns F P zs) (N : Names8 xs) (eG : Same G H) (hP : PrcAt K G (B 5) t (mainP xs cs)) (hbd : G t = some (.tup [v0, v1, v2, v3, v4, .ref bd])) (hp : SqT K H pt (ns.map V.int))
    (q : ∀ r tt fa pa zl H', TRes K H H' r tt fa pa zl F P zs → Q (.ref r) H') : spToldIn K (B 5) [.ref t, .ref pt] H Q E := by
  cases T with
  | start zs0 hn hs hm =>
    refine .start G t pt (mainP xs cs) (xs.take 6) rfl eG hP (main_ok N cs) hp fun r tt fa pa zl zs' H' R hn' hs' hm' => q r tt fa pa zl H' ?_
    have e : zs' = zs0 := same_names (ws := []) (ws' := []) hs' hs hn' hn fun y => (hm' y).trans (hm y).symm
    rw [e] at R; exact R
  | inner l pr k ts u w x y F P a hl h3 hts hu hX hw => exact .inner G t pt v0 v1 v2 v3 v4 bd l pr k ts u w x y F P a rfl eG hbd hp hl h3 hts hu hX hw q
  | behind l pr k ts u w x y F P a hl h3 hts hu hX hw => exact .behind G t pt v0 v1 v2 v3 v4 bd l pr k ts u w x y F P a rfl eG hbd hp hl h3 hts hu hX hw q
theorem Tells.len {K : PySem.W.Frag} {G : Hp} {bd : Addr} {xs : List Str} {cs : List Int} {ns : List Int} {F P : List (List Str)} {zs : List Str} (T : Tells K G bd xs cs ns F P zs) (N : Names8 xs) : zs.length ≤ 20 := by
  cases T with
  | start zs0 hn hs hm =>
    have := Nat.le_trans (List.Nodup.length_le_of_subset hn fun y hy => (main_ok N cs).names y ((hm y).mp hy).2 ((hm y).mp hy).1) (main_ok N cs).len
    exact Nat.le_trans (List.length_filter_le ..) this
  | inner => exact Nat.zero_le _
  | behind => exact Nat.zero_le _
theorem progs_dp {K : PySem.W.Frag} {H : Hp} {pl : Addr} {ts : List Addr} {ps : List Prc} (h : H pl = some (.lst (ts.map V.ref))) (hp : Paired (PrcAt K H (B 5)) ts ps) : Dp K H (.ref pl) (.list (ps.map (prcD (B 5)))) := .lst (SqL.of h) (dp_pair hp fun _ _ z => z.dp)
theorem progs_dn {K : PySem.W.Frag} {H : Hp} {ts : List Addr} {ps : List Prc} (hp : Paired (PrcAt K H (B 5)) ts ps) : Dn 15 (.list (ps.map (prcD (B 5)))) := by
  refine Dn.lst fun d hd => ?_
  obtain ⟨p, hpm, rfl⟩ := List.mem_map.mp hd
  obtain ⟨i, hi⟩ := List.getElem?_of_mem hpm
  have hlt : i < ts.length := by rw [Paired.length hp]; exact (List.getElem?_eq_some_iff.mp hi).1
  obtain ⟨p', hp', hx⟩ := Paired.nth hp (List.getElem?_eq_getElem hlt)
  rw [hi] at hp'; cases hp'
  exact hx.dn
inductive spRight (K : PySem.W.Frag) (vs : List V) (H : Hp) (Q : VK) (E : XK) : Prop
  | mk (r tt fa pa zl : Addr) (v : V) (F P : List (List Str)) (zs : List Str) (h0 : vs = [.ref r, v]) (h1 : H r = some (.tup [.ref tt, .ref zl])) (h2 : H tt = some (.tup [.ref fa, .ref pa])) (h3 : RowsAt K H fa F) (h4 : RowsAt K H pa P) (h5 : H zl = some (.lst (zs.map V.str))) (h6 : ValX K H v F P zs)
      (q : ∀ H', Same H H' → Q (.bl true) H') : spRight K vs H Q E
theorem dn_strs {zs : List Str} (h : ∀ y ∈ zs, Ok y) : Dn 1 (.list (dStrs zs)) := Dn.lst fun d hd => by
  obtain ⟨y, hy, rfl⟩ := List.mem_map.mp hd; exact Dn.str (h y hy)
structure Asked (K : PySem.W.Frag) (H : Hp) (ts : List Addr) (xs : List Str) (cs : List Int) (tm : Addr) (ns : List Str) : Prop where
  at_ : PrcAt K H (B 5) tm (mainP xs cs)
  fil : (ts.map V.ref).filter (isl [tm]) = [.ref tm]
  tst : ∀ t ∈ ts, ∃ nm us, H t = some (.tup (.str nm :: us)) ∧ decide (V.str nm = V.str (nx xs 6)) = isl [tm] (.ref t)
  nms : Paired (fun t n => ∃ us, H t = some (.tup (.str n :: us))) ts ns
  nd : ns.Nodup
  len : ts.length = 2
  mem : (nx xs 6, V.ref tm) ∈ byK ns ts
theorem asked {K : PySem.W.Frag} {H : Hp} {ts : List Addr} {xs : List Str} {cs : List Int} (N : Names8 xs) (h : Paired (PrcAt K H (B 5)) ts (progF xs cs)) : ∃ tm ns, Asked K H ts xs cs tm ns := by
  have n67 : nx xs 6 ≠ nx xs 7 := fun z => by
    have h8 := N.len
    have hnd := N.nd
    have h6 : xs[6]? = some (nx xs 6) := by unfold nx; rw [List.getD_eq_getElem?_getD, List.getElem?_eq_getElem (by omega)]; rfl
    have h7 : xs[7]? = some (nx xs 7) := by unfold nx; rw [List.getD_eq_getElem?_getD, List.getElem?_eq_getElem (by omega)]; rfl
    have := (List.getElem?_inj (by omega) hnd).mp (h6.trans (z ▸ h7.symm))
    omega
  have key : ∀ {tm to : Addr}, PrcAt K H (B 5) tm (mainP xs cs) → PrcAt K H (B 5) to (otherP xs) → ∃ u1 u2, H tm = some (.tup (.str (nx xs 6) :: u1)) ∧ H to = some (.tup (.str (nx xs 7) :: u2)) ∧ ¬ to = tm := fun {tm to} h1 h2 => by
    obtain ⟨_, _, _, _, _, _, _, _, x1⟩ := h1
    obtain ⟨_, _, _, _, _, _, _, _, x2⟩ := h2
    refine ⟨_, _, x1.tup, x2.tup, fun z => ?_⟩
    have a1 := x1.tup
    have a2 := x2.tup
    rw [z, a1] at a2
    have a3 := HO.tup.inj (Option.some.inj a2)
    injection a3 with a4 _
    exact n67 (V.str.inj a4)
  unfold progF at h
  by_cases g : cellAt cs 2 / 9 % 2 = 0
  · rw [if_pos g] at h
    cases h with
    | cons h1 h => cases h with
      | cons h2 h =>
        cases h
        rename_i tm to
        obtain ⟨u1, u2, a1, a2, ne⟩ := key h1 h2
        refine ⟨tm, [nx xs 6, nx xs 7], h1, by simp [isl, ne], fun t ht => ?_, .cons ⟨_, a1⟩ (.cons ⟨_, a2⟩ .nil), by simp [n67], rfl, by simp [byK]⟩
        simp only [List.mem_cons, List.not_mem_nil, or_false] at ht
        rcases ht with rfl | rfl
        · exact ⟨_, _, a1, by simp [isl]⟩
        · exact ⟨_, _, a2, by simp [isl, ne, n67.symm]⟩
  · rw [if_neg g] at h
    cases h with
    | cons h2 h => cases h with
      | cons h1 h =>
        cases h
        rename_i to tm
        obtain ⟨u1, u2, a1, a2, ne⟩ := key h1 h2
        refine ⟨tm, [nx xs 7, nx xs 6], h1, by simp [isl, ne], fun t ht => ?_, .cons ⟨_, a2⟩ (.cons ⟨_, a1⟩ .nil), by simp [n67.symm], rfl, by simp [byK]⟩
        simp only [List.mem_cons, List.not_mem_nil, or_false] at ht
        rcases ht with rfl | rfl
        · exact ⟨_, _, a2, by simp [isl, ne, n67.symm]⟩
        · exact ⟨_, _, a1, by simp [isl]⟩
theorem tab_ints {K : PySem.W.Frag} {G H : Hp} {bd : Addr} {xs : List Str} {cs : List Int} {kvs : List (List Key × V)} (T : Tab K G bd xs cs H kvs) : ∃ nss : List (List Int), kvs.map (·.1) = nss.map (fun ns => ns.map (Sum.inl : Int → Key)) ∧ ∀ ns ∈ nss, ns ≠ [] := by
  have h : ∀ kv ∈ kvs, ∃ ns : List Int, kv.1 = ns.map (Sum.inl : Int → Key) ∧ ns ≠ [] := fun kv hkv => by
    obtain ⟨ns, _, _, _, h1, h2, _⟩ := T.ok kv hkv; exact ⟨ns, h1, h2⟩
  clear T
  induction kvs with
  | nil => exact ⟨[], rfl, fun ns h => by cases h⟩
  | cons kv kvs ih =>
    obtain ⟨nss, h1, h2⟩ := ih fun kv hkv => h kv (List.mem_cons_of_mem _ hkv)
    obtain ⟨ns, h3, h4⟩ := h kv (List.mem_cons_self ..)
    refine ⟨ns :: nss, by rw [List.map_cons, List.map_cons, h1, h3], fun m hm => ?_⟩
    rcases List.mem_cons.mp hm with rfl | z
    · exact h4
    · exact h2 m z
theorem tab_pair {H : Hp} : ∀ {kvs : List (List Key × V)} {bs : List Addr} {nss : List (List Int)} {all : List (List Key × V)}, Paired (fun (q : List Key × V) b => H b = some (.tup (q.1.map kV))) kvs bs → kvs.map (·.1) = nss.map (fun ns => ns.map (Sum.inl : Int → Key)) → (∀ q ∈ kvs, q ∈ all) → Paired (fun b (ns : List Int) => H b = some (.tup (ns.map V.int)) ∧ ∃ v, (ns.map (Sum.inl : Int → Key), v) ∈ all) bs nss
  | _, _, [], _, .nil, _, _ => .nil
  | _, _, _ :: _, _, .nil, e, _ => by cases e
  | _, _, [], _, .cons _ _, e, _ => by cases e
  | q :: _, _, ns :: nss, all, .cons h1 h2, e, ha => by
    rw [List.map_cons, List.map_cons] at e
    injection e with e1 e2
    refine .cons ⟨by rw [h1, e1, kV_ints], q.2, ?_⟩ (tab_pair h2 e2 fun q hq => ha q (List.mem_cons_of_mem _ hq))
    rw [← e1]; exact ha q (List.mem_cons_self ..)
section
variable {P : Program} {w : World} {K : PySem.W.Frag} {mg : Str → Option Value} {base : Heap} {f gC gN gP gL gB gT gR : Addr} {fd dC dN dP dL dB dT dR : FuncData}
theorem scRight : FnScope ["_law_found", "_law_due"] ["_law_found", "_law_due"] (defScope sRight) := ⟨rfl, rfl, rfl, by decide +kernel, rfl, by decide +kernel, by decide +kernel⟩
theorem ok_right (C : Con K mg w) (F : Fun K "_law_right" "_law_right" sRight f fd) : FnOk P w K mg base CX0 1 f fd ["_law_found", "_law_due"] (spRight K) := by
  refine F.okQ scRight (fun vs H Q E h => ?_) (fun cdv A outer s0 H vs Q E hr h => ?_)
  · obtain ⟨r, tt, fa, pa, zl, v, F, P, zs, rfl, _⟩ := h; rfl
  obtain ⟨r, tt, fa, pa, zl, v, F', P', zs, rfl, hr', htt, hF, hP, hz, hV, q⟩ := h
  have nd := scRight.nd
  have hu := Nat.lt_of_le_of_lt (Nat.add_le_add_left (show 32 ≤ 64 by decide) _) hr.units
  refine ⟨_, qb_cons (qs_if (QW.qt (qw_or (qt_not (qt_val (qe_callB call_isi_tuple rfl C.isi PyProof.Rows.boot_isinstance (qa_nm (qv 0) (qa_nm ⟨gty C.tuple PyProof.Rows.boot_tuple⟩ qa_nil))))) (qw_or (qt_cmpR op_ne (qe_callB call_len_seq rfl C.len PySem.boot_len (qa_nm (qv 0) qa_nil)) qe_int (nomark _)) (qw_or (qt_not (qt_val (qe_callB call_isi_tuple rfl C.isi PyProof.Rows.boot_isinstance (qa_sub (qe_ix ix_tup (qv 0) qe_int (fun _ _ => rfl)) (qa_nm ⟨gty C.tuple PyProof.Rows.boot_tuple⟩ qa_nil))))) (qw_or1 (qt_cmpR op_ne (qe_callB call_len_seq rfl C.len PySem.boot_len (qa_sub (qe_ix ix_tup (qv 0) qe_int (fun _ _ => rfl)) qa_nil)) qe_int (nomark _))))))) (qb_one (qs_ret qe_bl)) qb_nil)
    (qb_cons (qs_if (QW.qt (qw_or (qt_not (qt_val (qe_callB call_isi_list rfl C.isi PyProof.Rows.boot_isinstance (qa_sub (qe_ix ix_tup (qe_ix ix_tup (qv 0) qe_int (fun _ _ => rfl)) qe_int (fun _ _ => rfl)) (qa_nm ⟨gty C.list PyProof.Rows.boot_list⟩ qa_nil))))) (qw_or (qt_not (qt_val (qe_callB call_isi_list rfl C.isi PyProof.Rows.boot_isinstance (qa_sub (qe_ix ix_tup (qe_ix ix_tup (qv 0) qe_int (fun _ _ => rfl)) qe_int (fun _ _ => rfl)) (qa_nm ⟨gty C.list PyProof.Rows.boot_list⟩ qa_nil))))) (qw_or1 (qt_not (qt_val (qe_callB call_isi_list rfl C.isi PyProof.Rows.boot_isinstance (qa_sub (qe_ix ix_tup (qv 0) qe_int (fun _ _ => rfl)) (qa_nm ⟨gty C.list PyProof.Rows.boot_list⟩ qa_nil))))))))) (qb_one (qs_ret qe_bl)) qb_nil)
    (qb_one (qs_ret (qe_and (qe_cmpR (op_eqD hu) (qe_ix ix_tup (qe_ix ix_tup (qv 0) qe_int (fun _ _ => rfl)) qe_int (fun _ _ => rfl)) (qe_callTy call_list_of rfl C.list PyProof.Rows.boot_list (qa_sub (qe_ix ix_tup (qe_ix ix_tup (qv 1) qe_int (fun _ _ => rfl)) qe_int (fun _ _ => rfl)) qa_nil)) (nomark _)) (qe_and (qe_cmpR (op_eqD hu) (qe_ix ix_tup (qe_ix ix_tup (qv 0) qe_int (fun _ _ => rfl)) qe_int (fun _ _ => rfl)) (qe_callTy call_list_of rfl C.list PyProof.Rows.boot_list (qa_sub (qe_ix ix_tup (qe_ix ix_tup (qv 1) qe_int (fun _ _ => rfl)) qe_int (fun _ _ => rfl)) qa_nil)) (nomark _)) (qe_one (qe_cmpR (op_eqD hu) (qe_ix ix_tup (qv 0) qe_int (fun _ _ => rfl)) (qe_ix ix_tup (qv 1) qe_int (fun _ _ => rfl)) (nomark _)))))))), ?_⟩
  obtain ⟨r2, tt2, fa2, pa2, zl2, rfl, g1, g2, g3, g4, g5, okF, okP, okz⟩ := hV
  obtain ⟨as1, hF1, hF2⟩ := id hF
  obtain ⟨as2, hP1, hP2⟩ := id hP
  refine ⟨_, rfl, r, _, rfl, SqT.of hr', _, rfl, iteN rfl ?_⟩
  refine ⟨_, rfl, r, _, rfl, .inr (SqT.of hr'), rfl, _, rfl, iteB (fun c => absurd c (by simp)) (fun _ => ?_)⟩
  refine ⟨_, rfl, r, _, 0, _, rfl, rfl, SqT.of hr', rfl, tt, _, rfl, SqT.of htt, _, rfl, iteN rfl ?_⟩
  refine ⟨_, rfl, r, _, 0, _, rfl, rfl, SqT.of hr', rfl, tt, _, rfl, .inr (SqT.of htt), rfl, _, rfl, iteB (fun c => absurd c (by simp)) (fun _ => ?_)⟩
  refine ⟨_, rfl, r, _, 0, _, rfl, rfl, SqT.of hr', rfl, tt, _, 0, _, rfl, rfl, SqT.of htt, rfl, fa, _, rfl, SqL.of hF1, _, rfl, iteN rfl ?_⟩
  refine ⟨_, rfl, r, _, 0, _, rfl, rfl, SqT.of hr', rfl, tt, _, 1, _, rfl, rfl, SqT.of htt, rfl, pa, _, rfl, SqL.of hP1, _, rfl, iteN rfl ?_⟩
  refine ⟨_, rfl, r, _, 1, _, rfl, rfl, SqT.of hr', rfl, zl, _, rfl, SqL.of hz, _, rfl, iteN rfl ?_⟩
  obtain ⟨as3, hF3, hF4⟩ := id g3
  obtain ⟨as4, hP3, hP4⟩ := id g4
  have okA : EqOk (.list (F'.map dRow)) := (dn_rows okF).ok (by decide)
  have okB : EqOk (.list (P'.map dRow)) := (dn_rows okP).ok (by decide)
  have okC : EqOk (.list (dStrs zs)) := (dn_strs okz).ok (by decide)
  refine ⟨_, rfl, r, _, 0, _, rfl, rfl, SqT.of hr', rfl, tt, _, 0, _, rfl, rfl, SqT.of htt, rfl, ?_⟩
  refine ⟨_, rfl, r2, _, 0, _, rfl, rfl, SqT.of g1, rfl, tt2, _, 0, _, rfl, rfl, SqT.of g2, rfl, fa2, _, rfl, .inl (SqL.of hF3), fun na hna => ?_⟩
  have s1 := same_new hna (.lst (as3.map V.ref))
  have k1 : (upd H na (.lst (as3.map V.ref))) na = some (.lst (as3.map V.ref)) := upd_same
  generalize upd H na (.lst (as3.map V.ref)) = H1 at s1 k1 ⊢
  have d1 : RowsAt K H1 na F' := ⟨as3, k1, Paired.mapP hF4 fun _ _ z => RowAt.same z s1⟩
  refine ⟨_, _, (hF.same s1).dp, d1.dp, okA, okA, ?_⟩
  rw [SeqAt.eqv_refl _ okA.1]
  refine ⟨_, rfl, (if_pos rfl).mpr ?_⟩
  refine ⟨_, rfl, r, _, 0, _, rfl, rfl, SqT.of (s1 _ _ hr'), rfl, tt, _, 1, _, rfl, rfl, SqT.of (s1 _ _ htt), rfl, ?_⟩
  refine ⟨_, rfl, r2, _, 0, _, rfl, rfl, SqT.of (s1 _ _ g1), rfl, tt2, _, 1, _, rfl, rfl, SqT.of (s1 _ _ g2), rfl, pa2, _, rfl, .inl (SqL.of (s1 _ _ hP3)), fun nb hnb => ?_⟩
  have s2' := same_new hnb (.lst (as4.map V.ref))
  have k2 : (upd H1 nb (.lst (as4.map V.ref))) nb = some (.lst (as4.map V.ref)) := upd_same
  generalize upd H1 nb (.lst (as4.map V.ref)) = H2 at s2' k2 ⊢
  have s2 := s1.trans s2'
  have d2 : RowsAt K H2 nb P' := ⟨as4, k2, Paired.mapP hP4 fun _ _ z => RowAt.same z s2⟩
  refine ⟨_, _, (hP.same s2).dp, d2.dp, okB, okB, ?_⟩
  rw [SeqAt.eqv_refl _ okB.1]
  refine ⟨_, rfl, (if_pos rfl).mpr ?_⟩
  refine ⟨_, rfl, r, _, 1, _, rfl, rfl, SqT.of (s2 _ _ hr'), rfl, _, rfl, r2, _, 1, _, rfl, rfl, SqT.of (s2 _ _ g1), rfl, ?_⟩
  refine ⟨_, _, .lst (SqL.of (s2 _ _ hz)) (dp_strs zs), .lst (SqL.of (s2 _ _ g5)) (dp_strs zs), okC, okC, ?_⟩
  rw [SeqAt.eqv_refl _ okC.1]
  exact q _ s2
theorem scLaw : FnScope ["_law_script", "_law_n", "_law_program_here", "_law_procedure", "_law_names_here", "_law_starts", "_law_paths", "_law_path", "_law_found"] ["_law_script"] (defScope sLaw) := ⟨rfl, rfl, rfl, by decide +kernel, rfl, by decide +kernel, by decide +kernel⟩
theorem ok_law (C : Con K mg w) (F : Fun K "law" "law" sLaw f fd) (GC : FnOk P w K mg base CX0 1 gC dC ["_law_script", "_law_k"] (spCell K)) (cC : Cal K mg "_law_cell_at" gC dC ["_law_script", "_law_k"]) (GN : FnOk P w K mg base CX0 2 gN dN ["_law_cell"] spN8) (cN : Cal K mg "_law_names" gN dN ["_law_cell"])
    (GP : FnOk P w K mg base CX0 4 gP dP ["_law_script", "_law_n"] (spProg K)) (cP : Cal K mg "_law_program" gP dP ["_law_script", "_law_n"]) (GL : FnOk P w K mg base CX0 17 gL dL ["_law_procedure", "_law_n"] (spLNames K)) (cL : Cal K mg "_law_names_of" gL dL ["_law_procedure", "_law_n"])
    (GB : FnOk P w K mg base CX0 7 gB dB ["_law_procedure", "_law_names_here"] (spBegins K)) (cB : Cal K mg "_law_begins" gB dB ["_law_procedure", "_law_names_here"]) (GT : FnOk P w K mg base CX0 9 gT dT ["program", "name", "path"] (spToldAt K (B 5))) (cT : Cal K mg "told_at" gT dT ["program", "name", "path"]) (GR : FnOk P w K mg base CX0 1 gR dR ["_law_found", "_law_due"] (spRight K)) (cR : Cal K mg "_law_right" gR dR ["_law_found", "_law_due"]) : FnOk P w K mg base CX0 18 f fd ["_law_script"] (spLaw K) := by
  refine F.okQ scLaw (fun vs H Q E h => ?_) (fun cdv A outer s0 H vs Q E hr h => ?_)
  · obtain ⟨a, cs, rfl, _⟩ := h; rfl
  obtain ⟨a, cs, rfl, hS, q⟩ := h
  have nd := scLaw.nd
  have hu := Nat.lt_of_le_of_lt (Nat.add_le_add_left (show 32 ≤ 64 by decide) _) hr.units
  have hu1 := hu_of hr
  have hr1 := hr.mono (j := 1) (by omega)
  have hr2 := hr.mono (j := 2) (by omega)
  have hr4 := hr.mono (j := 4) (by omega)
  have hr7 := hr.mono (j := 7) (by omega)
  have hr9 := hr.mono (j := 9) (by omega)
  refine ⟨_, qb_cons (qs_set (i := 1) nd rfl (Or.inr rfl) (qe_call GN hr2 rfl cN.name cN.keep cN.bind .nil pass0 (qa_call (qe_call GC hr1 rfl cC.name cC.keep cC.bind .nil pass0 (qa_nm (qv 0) (qa_int qa_nil))) qa_nil)))
    (qb_cons (qs_set (i := 2) nd rfl (Or.inl rfl) (qe_call GP hr4 rfl cP.name cP.keep cP.bind .nil pass0 (qa_nm (qv 0) (qa_nm (qv 1) qa_nil))))
    (qb_cons (qs_set (i := 3) nd rfl (Or.inl rfl) (qe_ix ix_list (qe_compG ["_law_one", "_law_n"] [1] (qi_list (qv 2)) (fun _ _ _ _ => (qts_one (qt_cmpR op_eq (qe_ix (ixTK (K := K) rfl) (qv 0) qe_int (fun _ _ => rfl)) (qe_ix (ixK (K := K) rfl) (qv 1) qe_int (fun _ _ => rfl)) (nomark _)))) (fun _ _ _ _ => (qv 0))) qe_int (fun _ _ => rfl)))
    (qb_cons (qs_set (i := 4) nd rfl (Or.inl rfl) (qe_call GL hr rfl cL.name cL.keep cL.bind .nil pass0 (qa_nm (qv 3) (qa_nm (qv 1) qa_nil))))
    (qb_cons (qs_set (i := 5) nd rfl (Or.inl rfl) (qe_call GB hr7 rfl cB.name cB.keep cB.bind .nil pass0 (qa_nm (qv 3) (qa_nm (qv 4) qa_nil))))
    (qb_cons (qs_set (i := 6) nd rfl (Or.inl rfl) (qe_callB (call_sorted_tupsR (K := K) rfl) rfl C.sorted PyProof.Rows.boot_sorted (qa_call (qe_callTy (call_list_dictT rfl) rfl C.list PyProof.Rows.boot_list (qa_nm (qv 5) qa_nil)) qa_nil)))
    (qb_cons (qs_for PassesOwn.never rfl (qi_list (qe_op op_cat (qv 6) (qe_rev (qv 6)))) (qg_name (i := 7) nd rfl (Or.inl rfl)) (qb_cons (qs_set (i := 8) nd rfl (Or.inl rfl) (qe_call GT hr9 rfl cT.name cT.keep cT.bind .nil pass0 (qa_nm (qv 2) (qa_sub (qe_ix ix_list (qv 1) qe_int (fun _ _ => rfl)) (qa_nm (qv 7) qa_nil)))))
    (qb_cons (qs_if (qt_not (qt_val (qe_call GR hr1 rfl cR.name cR.keep cR.bind .nil pass0 (qa_nm (qv 8) (qa_sub (qe_dget hu1 (qv 5) (qv 7) (fun _ _ => rfl)) qa_nil))))) (qb_one (qs_ret qe_bl)) qb_nil)
    (qb_cons (qs_expr (qe_bm0 PySem.F.plainAttrs_list PySem.F.slot_list_clear PySem.F.type_list_clear mt_clear (qe_ix ix_tup (qe_ix ix_tup (qv 8) qe_int (fun _ _ => rfl)) qe_int (fun _ _ => rfl))))
    (qb_cons (qs_expr (qe_bm0 PySem.F.plainAttrs_list PySem.F.slot_list_clear PySem.F.type_list_clear mt_clear (qe_ix ix_tup (qe_ix ix_tup (qv 8) qe_int (fun _ _ => rfl)) qe_int (fun _ _ => rfl))))
    (qb_one (qs_expr (qe_bmK (K := K) rfl PySem.F.plainAttrs_list PySem.F.slot_list_append PySem.F.type_list_append mt_append (qe_ix ix_tup (qv 8) qe_int (fun _ _ => rfl)) (qa_str qa_nil)))))))))
    (qb_one (qs_ret (qe_cmpR (op_eqD hu) (qv 2) (qe_call GP hr4 rfl cP.name cP.keep cP.bind .nil pass0 (qa_nm (qv 0) (qa_nm (qv 1) qa_nil))) (nomark _)))))))))), ?_⟩
  refine ⟨_, rfl, a, cs, 0, rfl, hS, cellAt cs 0, rfl, fun l xs H1 e1 hl h8 hnd hok => ?_⟩
  have N : Names8 xs := ⟨h8, hnd, hok⟩
  refine ⟨_, rfl, _, rfl, a, l, cs, xs, rfl, e1.seq hS, hl, N, fun pl ts H2 e2' hpl hpp => ?_⟩
  have e2 := e1.trans e2'
  have hl2 := e2' _ _ hl
  obtain ⟨tm, nms, Z⟩ := asked N hpp
  have a6 : atI (xs.map V.str) 6 = some (.str (nx xs 6)) := nx_at (j := 6) rfl (by rw [N.len]; decide)
  refine ⟨_, rfl, pl, rfl, ⟨_, SqL.of hpl⟩, ?_⟩
  refine comp_map (ts.map V.ref) (isl [tm]) id jseq_list (SqL.of hpl) (le_line (by rw [List.length_map, Z.len]; decide)) (fun v hv H3 e3 Q' q' => ?_) (fun v hv _ H3 e3 Q' q' => ⟨_, rfl, q' _ (Same.refl _)⟩) (fun D H3 hD e3 kD => ?_)
  · obtain ⟨t, ht, rfl⟩ := List.mem_map.mp hv
    obtain ⟨nm, us, h1, h2⟩ := Z.tst t ht
    rw [← h2] at q'
    exact ⟨_, rfl, t, _, 0, _, rfl, rfl, SqT.of (e3 _ _ h1), at0, _, rfl, l, _, _, _, rfl, rfl, SqL.of (e3 _ _ hl2), a6, rfl, _, rfl, q' _ (Same.refl _)⟩
  rw [Z.fil, List.map_id] at kD
  refine ⟨D, _, _, _, rfl, rfl, SqL.of kD, rfl, ?_⟩
  have hP3 := Z.at_.same e3
  refine ⟨_, rfl, _, rfl, tm, l, cs, xs, rfl, hP3, e3 _ _ hl2, N, fun zl zs H4 e4 kz hzn hzs hzm => ?_⟩
  have hP4 := hP3.same e4
  obtain ⟨v0, v1, v2, v3, v4, bd, hbd⟩ : ∃ v0 v1 v2 v3 v4 bd, H4 tm = some (.tup [v0, v1, v2, v3, v4, .ref bd]) := by
    obtain ⟨_, _, _, _, _, _, _, _, x⟩ := hP4
    exact ⟨_, _, _, _, _, _, x.tup⟩
  refine ⟨_, rfl, _, rfl, tm, zl, bd, v0, v1, v2, v3, v4, xs, cs, zs, rfl, hP4, hbd, N, kz, hzn, hzs, hzm, fun d kvs H5 e5 kd T hkl => ?_⟩
  refine ⟨_, rfl, d, kvs, rfl, kd, fun lp bs hlp hbs => ?_⟩
  obtain ⟨nss, hns, hne⟩ := tab_ints T
  have s6 := same_new hlp (.lst (bs.map V.ref))
  have k6 : (upd H5 lp (.lst (bs.map V.ref))) lp = some (.lst (bs.map V.ref)) := upd_same
  generalize upd H5 lp (.lst (bs.map V.ref)) = H6 at s6 k6 ⊢
  have hpair := tab_pair (H := H6) (all := kvs) (Paired.mapP hbs fun _ _ z => s6 _ _ z) hns (fun q hq => hq)
  have hnd' : nss.Nodup := by
    have := T.nd
    rw [hns] at this
    exact List.Pairwise.of_map _ (fun a b h e => h (congrArg _ e)) this
  have hbl := Paired.length hbs
  refine ⟨lp, bs, nss, rfl, SqL.of k6, Paired.mapP hpair fun _ _ z => SqT.of z.1, hne, hnd', by omega, fun ps us mss hps hR hperm _ => ?_⟩
  have hus := hR _ hpair
  have hul := Paired.length hus
  have hml := hperm.length_eq
  have hbn := Paired.length hpair
  have s7 := same_new hps (.lst (us.map V.ref))
  have k7 : (upd H6 ps (.lst (us.map V.ref))) ps = some (.lst (us.map V.ref)) := upd_same
  generalize upd H6 ps (.lst (us.map V.ref)) = H7 at s7 k7 ⊢
  have e67 := s6.trans s7
  have e27 := e3.trans (e4.trans (e5.trans e67))
  have hall : ∀ t ∈ us, ∃ (ns : List Int) (v : V), H7 t = some (.tup (ns.map V.int)) ∧ (ns.map (Sum.inl : Int → Key), v) ∈ kvs := fun t ht => by
    obtain ⟨i, hi⟩ := List.getElem?_of_mem ht
    obtain ⟨ns, _, h1, v, h2⟩ := Paired.nth hus hi
    exact ⟨ns, v, s7 _ _ h1, h2⟩
  dsimp only [gName]
  refine seq_hide (a := tFor _ _ _) fun D1 hN1 hR1 hC1 => ?_
  refine ⟨_, rfl, _, rfl, ps, _, rfl, SqL.of k7, fun rv hrv => ?_⟩
  have s8 := same_new hrv (.lst (us.map V.ref).reverse)
  have k8 : (upd H7 rv (.lst (us.map V.ref).reverse)) rv = some (.lst (us.map V.ref).reverse) := upd_same
  generalize upd H7 rv (.lst (us.map V.ref).reverse) = H8 at s8 k8 ⊢
  refine ⟨ps, rv, _, _, rfl, rfl, s8 _ _ k7, k8, le_line (by rw [List.length_reverse, List.length_map]; omega), fun lc hlc => ?_⟩
  have s9 := same_new hlc (.lst (us.map V.ref ++ (us.map V.ref).reverse))
  have k9 : (upd H8 lc (.lst (us.map V.ref ++ (us.map V.ref).reverse))) lc = some (.lst (us.map V.ref ++ (us.map V.ref).reverse)) := upd_same
  generalize upd H8 lc (.lst (us.map V.ref ++ (us.map V.ref).reverse)) = H9 at s9 k9 ⊢
  have e79 := s8.trans s9
  have e49 := e5.trans (e67.trans e79)
  have e29 := e27.trans e79
  refine ⟨lc, rfl, ⟨_, SqL.of k9⟩, ?_⟩
  refine for_list (xs := us.map V.ref ++ (us.map V.ref).reverse) (fun i σ H10 => ∃ z7 z8 : Option V, σ = [some (.ref a), some (.ref l), some (.ref pl), some (.ref tm), some (.ref zl), some (.ref d), some (.ref ps), z7, z8] ∧ Same H9 H10) ⟨none, none, rfl, Same.refl _⟩ (fun i σ H' _ z => by obtain ⟨_, _, _, e⟩ := z; exact SqL.of (e _ _ k9)) ?_ ?_
  · rintro i v σ H10 hv ⟨z7, z8, rfl, e10⟩
    obtain ⟨t, ht, rfl⟩ : ∃ t ∈ us, v = .ref t := by
      rcases List.mem_append.mp (List.mem_of_getElem? hv) with z | z
      · obtain ⟨t, ht, rfl⟩ := List.mem_map.mp z; exact ⟨t, ht, rfl⟩
      · obtain ⟨t, ht, rfl⟩ := List.mem_map.mp (List.mem_reverse.mp z); exact ⟨t, ht, rfl⟩
    obtain ⟨ns, v, htt, hin⟩ := hall t ht
    obtain ⟨ns', F', P', zs', hk, _, hT, hV⟩ := T.ok _ hin
    have hnn : ns' = ns := (List.map_inj_right (f := (Sum.inl : Int → Key)) (fun x y z => Sum.inl.inj z)).mp hk.symm
    subst hnn
    have g10 := e79.trans e10
    have f10 := e29.trans e10
    have q10 := e49.trans e10
    have ht10 := g10 _ _ htt
    refine ⟨_, rfl, _, rfl, l, _, _, _, rfl, rfl, SqL.of (f10 _ _ hl2), a6, _, rfl, ?_⟩
    refine ⟨pl, t, tm, ts, nms, nx xs 6, rfl, f10 _ _ hpl, Paired.mapP Z.nms fun _ _ z => (let ⟨us, h⟩ := z; ⟨us, f10 _ _ h⟩), Z.nd, by rw [Z.len]; decide, Z.mem, fun H11 E' e11 => ?_⟩
    refine told_of hT N (q10.trans e11) hP4 hbd (SqT.of (e11 _ _ ht10)) fun r tt fa pa zl2 H12 R => ?_
    dsimp only [gName]
    have e12 := R.e
    have g12 := g10.trans (e11.trans e12)
    have q512 := (e67.trans e79).trans (e10.trans (e11.trans e12))
    have hg := DGet.t (H := H12) (k := ns'.map (Sum.inl : Int → Key)) (q512 _ _ kd) (b := t) (by rw [kV_ints]; exact g12 _ _ htt)
    rw [valV_mem (q := (ns'.map (Sum.inl : Int → Key), v)) T.nd hin] at hg
    refine ⟨_, rfl, _, rfl, _, rfl, d, _, rfl, hg, r, tt, fa, pa, zl2, v, F', P', zs', rfl, R.at_, R.tt, R.f, R.p, R.z, hV.same q512, fun H13 e13 => ⟨_, rfl, iteN rfl ?_⟩⟩
    obtain ⟨as1, hF1, _⟩ := R.f
    obtain ⟨as2, hP1, _⟩ := R.p
    have k1 := e13 _ _ R.at_
    have k2 := e13 _ _ R.tt
    have k3 := e13 _ _ hF1
    have k4 := e13 _ _ hP1
    have k5 := e13 _ _ R.z
    have n1 : r ≠ fa := fun z => by rw [z, k3] at k1; cases k1
    have n2 : tt ≠ fa := fun z => by rw [z, k3] at k2; cases k2
    have n3 : r ≠ pa := fun z => by rw [z, k4] at k1; cases k1
    have n4 : tt ≠ pa := fun z => by rw [z, k4] at k2; cases k2
    have e911 := e10.trans e11
    have n5 := e911.free R.nf
    have n6 := e911.free R.np
    have n7 := e911.free R.nz
    have e913 := e911.trans (e12.trans e13)
    have hz20 := hT.len N
    refine ⟨_, rfl, r, _, 0, _, rfl, rfl, SqT.of k1, rfl, tt, _, 0, _, rfl, rfl, SqT.of k2, rfl, (.inl ⟨rfl, _, SqL.of k3⟩), fa, _, rfl, rfl, k3, ?_⟩
    have k1a : (upd H13 fa (.lst [])) r = some (.tup [.ref tt, .ref zl2]) := by rw [upd_ne n1]; exact k1
    have k2a : (upd H13 fa (.lst [])) tt = some (.tup [.ref fa, .ref pa]) := by rw [upd_ne n2]; exact k2
    have k4a : (upd H13 fa (.lst [])) pa = some (.lst (as2.map V.ref)) := by rw [upd_ne R.fp.symm]; exact k4
    have k5a : (upd H13 fa (.lst [])) zl2 = some (.lst (zs'.map V.str)) := by rw [upd_ne R.fz.symm]; exact k5
    have e14 : Same H9 (upd H13 fa (.lst [])) := fun b o z => by rw [upd_ne (ne_of_none z n5)]; exact e913 _ _ z
    generalize upd H13 fa (.lst []) = H14 at k1a k2a k4a k5a e14 ⊢
    refine ⟨_, rfl, r, _, 0, _, rfl, rfl, SqT.of k1a, rfl, tt, _, 1, _, rfl, rfl, SqT.of k2a, rfl, (.inl ⟨rfl, _, SqL.of k4a⟩), pa, _, rfl, rfl, k4a, ?_⟩
    have k1b : (upd H14 pa (.lst [])) r = some (.tup [.ref tt, .ref zl2]) := by rw [upd_ne n3]; exact k1a
    have k5b : (upd H14 pa (.lst [])) zl2 = some (.lst (zs'.map V.str)) := by rw [upd_ne R.pz.symm]; exact k5a
    have e15 : Same H9 (upd H14 pa (.lst [])) := fun b o z => by rw [upd_ne (ne_of_none z n6)]; exact e14 _ _ z
    generalize upd H14 pa (.lst []) = H15 at k1b k5b e15 ⊢
    refine ⟨_, rfl, r, _, 1, _, rfl, rfl, SqT.of k1b, rfl, (.inl ⟨rfl, _, SqL.of k5b⟩), zl2, _, _, rfl, rfl, k5b, lt_line (by rw [List.length_map]; omega), ?_⟩
    exact ⟨_, _, rfl, fun b o z => by rw [upd_ne (ne_of_none z n7)]; exact e15 _ _ z⟩
  rintro σ H10 ⟨z7, z8, rfl, e10⟩
  refine hN1 _ _ ?_
  have f10 := e29.trans e10
  refine ⟨_, rfl, _, rfl, _, rfl, a, l, cs, xs, rfl, (e2.trans f10).seq hS, f10 _ _ hl2, N, fun pl2 ts2 H11 e11 hpl2 hpp2 => ?_⟩
  have h1 : Paired (PrcAt K H11 (B 5)) ts (progF xs cs) := Paired.mapP hpp fun _ _ z => z.same (f10.trans e11)
  have ok := (progs_dn h1).ok (by decide)
  refine ⟨_, _, progs_dp ((f10.trans e11) _ _ hpl) h1, progs_dp hpl2 hpp2, ok, ok, ?_⟩
  rw [SeqAt.eqv_refl _ ok.1]
  exact q _
end
end K60
namespace K60
open PySem PySem.Spec L2 Mir
theorem glob_ref {K : PySem.W.Frag} {h : Heap} {mg : Str → Option Value} {x : Str} {a : Addr} (X : K.In h) (G : h.Ns mainGlobals mg) (e : PySem.W.nsIn K mainGlobals x = some (some (.ref a))) : Glob mg x (.ref a) := ⟨_, PySem.W.mg_of X G e, rfl⟩
theorem glob_str {K : PySem.W.Frag} {h : Heap} {mg : Str → Option Value} {x y z : Str} {t : Tok} (X : K.In h) (G : h.Ns mainGlobals mg) (e : PySem.W.nsIn K mainGlobals x = some (some (.str y t))) (hy : y = z) : Glob mg x (.str z) := ⟨_, PySem.W.mg_of X G e, t, by rw [hy]⟩
theorem glob_int {K : PySem.W.Frag} {h : Heap} {mg : Str → Option Value} {x : Str} {i j : Int} {t : Tok} (X : K.In h) (G : h.Ns mainGlobals mg) (e : PySem.W.nsIn K mainGlobals x = some (some (.int i t))) (hj : i = j) : Glob mg x (.int j) := ⟨_, PySem.W.mg_of X G e, t, by rw [hj]⟩
theorem rel_find {es : Array DictEntry} {kvs : List (Str × V)} (h : Paired (fun (kv : Str × V) (e : DictEntry) => ∃ hh t u, e = ⟨hh, .str kv.1 t, u⟩ ∧ RelV kv.2 u) kvs es.toList) (x : Str) : RelO (kvs.lookup x) (findBy Value.isStrOf es x) := by
  unfold findBy
  rw [← Array.find?_toList]
  generalize es.toList = l at h
  have b : ∀ y t, Value.isStrOf x (.str y t) = (x == y) := fun y t => by
    show (y == x) = (x == y)
    exact Bool.eq_iff_iff.mpr ⟨fun z => beq_iff_eq.mpr (beq_iff_eq.mp z).symm, fun z => beq_iff_eq.mpr (beq_iff_eq.mp z).symm⟩
  induction h with
  | nil => exact trivial
  | cons h1 _ ih =>
    rename_i kv e _ _ _
    obtain ⟨k, v⟩ := kv
    obtain ⟨hh, t, u, rfl, r⟩ := h1
    simp only [List.find?_cons, b, List.lookup_cons]
    dsimp only at r ih ⊢
    cases x == k with
    | true => exact r
    | false => exact ih
theorem all_mk {l : PySem.W.OpenLaw} {w : World} {K : PySem.W.Frag} {h : Heap} {mg : Str → Option Value} {fa f1 f2 f3 f4 f5 f6 f7 f8 f9 f10 f11 f12 f13 f14 f15 f16 f17 f18 f19 f20 f21 f22 f23 f24 f25 f26 : Addr} (X : K.In h) (G : h.Ns mainGlobals mg) (hfa : mg "law" = some (.ref fa))
    {d1 d2 d3 d4 d5 d6 d7 d8 d9 d10 d11 d12 d13 d14 d15 d16 d17 d18 d19 d20 d21 d22 d23 d24 d25 d26 : FuncData}
    (a1 : PySem.W.nsIn K mainGlobals "is_name" = some (some (.ref f1)))
    (F1 : Fun K "is_name" "is_name" sIsName f1 d1)
    (a2 : PySem.W.nsIn K mainGlobals "names_of" = some (some (.ref f2)))
    (F2 : Fun K "names_of" "names_of" sNamesOf f2 d2)
    (a3 : PySem.W.nsIn K mainGlobals "lists_in" = some (some (.ref f3)))
    (F3 : Fun K "lists_in" "lists_in" sListsIn f3 d3)
    (a4 : PySem.W.nsIn K mainGlobals "all_deeds" = some (some (.ref f4)))
    (F4 : Fun K "all_deeds" "all_deeds" sAll f4 d4)
    (a5 : PySem.W.nsIn K mainGlobals "words_of" = some (some (.ref f5)))
    (F5 : Fun K "words_of" "words_of" sWords f5 d5)
    (a6 : PySem.W.nsIn K mainGlobals "names_in" = some (some (.ref f6)))
    (F6 : Fun K "names_in" "names_in" sNamesIn f6 d6)
    (a7 : PySem.W.nsIn K mainGlobals "by_names" = some (some (.ref f7)))
    (F7 : Fun K "by_names" "by_names" sByNames f7 d7)
    (a8 : PySem.W.nsIn K mainGlobals "list_of" = some (some (.ref f8)))
    (F8 : Fun K "list_of" "list_of" sListOf f8 d8)
    (a9 : PySem.W.nsIn K mainGlobals "found_at" = some (some (.ref f9)))
    (F9 : Fun K "found_at" "found_at" sFound f9 d9)
    (a10 : PySem.W.nsIn K mainGlobals "with_condition" = some (some (.ref f10)))
    (F10 : Fun K "with_condition" "with_condition" sWith f10 d10)
    (a11 : PySem.W.nsIn K mainGlobals "told_in" = some (some (.ref f11)))
    (F11 : Fun K "told_in" "told_in" sToldIn f11 d11)
    (a12 : PySem.W.nsIn K mainGlobals "told_at" = some (some (.ref f12)))
    (F12 : Fun K "told_at" "told_at" sToldAt f12 d12)
    (a13 : PySem.W.nsIn K mainGlobals "_law_cell_at" = some (some (.ref f13)))
    (F13 : Fun K "_law_cell_at" "_law_cell_at" sCell f13 d13)
    (a14 : PySem.W.nsIn K mainGlobals "_law_mixed" = some (some (.ref f14)))
    (F14 : Fun K "_law_mixed" "_law_mixed" sMixed f14 d14)
    (a15 : PySem.W.nsIn K mainGlobals "_law_free_names" = some (some (.ref f15)))
    (F15 : Fun K "_law_free_names" "_law_free_names" sFree f15 d15)
    (a16 : PySem.W.nsIn K mainGlobals "_law_names" = some (some (.ref f16)))
    (F16 : Fun K "_law_names" "_law_names" sNames f16 d16)
    (a17 : PySem.W.nsIn K mainGlobals "_law_words_in" = some (some (.ref f17)))
    (F17 : Fun K "_law_words_in" "_law_words_in" sWIn f17 d17)
    (a18 : PySem.W.nsIn K mainGlobals "_law_names_of" = some (some (.ref f18)))
    (F18 : Fun K "_law_names_of" "_law_names_of" sLNamesOf f18 d18)
    (a19 : PySem.W.nsIn K mainGlobals "_law_telling" = some (some (.ref f19)))
    (F19 : Fun K "_law_telling" "_law_telling" sTelling f19 d19)
    (a20 : PySem.W.nsIn K mainGlobals "_law_condition" = some (some (.ref f20)))
    (F20 : Fun K "_law_condition" "_law_condition" sCond f20 d20)
    (a21 : PySem.W.nsIn K mainGlobals "_law_body" = some (some (.ref f21)))
    (F21 : Fun K "_law_body" "_law_body" sBody f21 d21)
    (a22 : PySem.W.nsIn K mainGlobals "_law_program" = some (some (.ref f22)))
    (F22 : Fun K "_law_program" "_law_program" sProg f22 d22)
    (a23 : PySem.W.nsIn K mainGlobals "_law_loops" = some (some (.ref f23)))
    (F23 : Fun K "_law_loops" "_law_loops" sLoops f23 d23)
    (a24 : PySem.W.nsIn K mainGlobals "_law_begins" = some (some (.ref f24)))
    (F24 : Fun K "_law_begins" "_law_begins" sBegins f24 d24)
    (a25 : PySem.W.nsIn K mainGlobals "_law_right" = some (some (.ref f25)))
    (F25 : Fun K "_law_right" "_law_right" sRight f25 d25)
    (a26 : PySem.W.nsIn K mainGlobals "law" = some (some (.ref f26)))
    (F26 : Fun K "law" "law" sLaw f26 d26)
    (z1 : PySem.W.nsIn K mainGlobals "len" = some none)
    (z2 : PySem.W.nsIn K mainGlobals "all" = some none)
    (z3 : PySem.W.nsIn K mainGlobals "any" = some none)
    (z4 : PySem.W.nsIn K mainGlobals "isinstance" = some none)
    (z5 : PySem.W.nsIn K mainGlobals "list" = some none)
    (z6 : PySem.W.nsIn K mainGlobals "int" = some none)
    (z7 : PySem.W.nsIn K mainGlobals "bool" = some none)
    (z8 : PySem.W.nsIn K mainGlobals "str" = some none)
    (z9 : PySem.W.nsIn K mainGlobals "dict" = some none)
    (z10 : PySem.W.nsIn K mainGlobals "sorted" = some none)
    (z11 : PySem.W.nsIn K mainGlobals "set" = some none)
    (z12 : PySem.W.nsIn K mainGlobals "sum" = some none)
    (z13 : PySem.W.nsIn K mainGlobals "range" = some none)
    (z14 : PySem.W.nsIn K mainGlobals "tuple" = some none)
    (z15 : PySem.W.nsIn K mainGlobals "max" = some none)
    (z16 : PySem.W.nsIn K mainGlobals "zip" = some none)
    (z17 : PySem.W.nsIn K mainGlobals "min" = some none)
    (z18 : PySem.W.nsIn K mainGlobals "enumerate" = some none)
    {yL yF : Str} {tL tF : Tok} (gL : PySem.W.nsIn K mainGlobals "LETTERS" = some (some (.str yL tL))) (eL : yL = Mir.letters) (gF : PySem.W.nsIn K mainGlobals "FIGURES" = some (some (.str yF tF))) (eF : yF = Mir.figures)
    {jS : Int} {tS : Tok} (gS : PySem.W.nsIn K mainGlobals "MOST_SIGNS" = some (some (.int jS tS))) (eS : jS = 8)
    {aN aP aC t1 t2 t3 t4 t5 : Addr} {oN o1 o2 o3 o4 o5 : Obj} {itN it1 it2 it3 it4 it5 : Array Value} {nN nP nC n1 n2 n3 n4 n5 : Nat} {es ec : Array DictEntry}
    (gN : PySem.W.nsIn K mainGlobals "NO_NAMES" = some (some (.ref aN))) (lN : K.lookup aN = some oN) (cN : oN.cls = .type "tuple") (dN : oN.data = .seq itN nN) (sN : itN.size ≤ 100) (vN : Vals (Mir.noNames.map V.str) itN.toList)
    (gP : PySem.W.nsIn K mainGlobals "PLAIN_FORMS" = some (some (.ref aP))) (lP : K.lookup aP = some ⟨.type "dict", none, .dict es nP, #[]⟩) (hP : PySem.W.KeysLit w.params es.toList) (mP : (aP == sysModules) = false) (rP : ∀ x, RelO (([("set", .ref t1), ("read", .ref t2), ("write", .ref t3), ("new", .ref t4), ("free", .ref t5)] : List (Str × V)).lookup x) (findBy Value.isStrOf es x))
    (lT1 : K.lookup t1 = some o1) (cT1 : o1.cls = .type "tuple") (dT1 : o1.data = .seq it1 n1) (sT1 : it1.size ≤ 100) (vT1 : Vals ((["name", "value"] : List Str).map V.str) it1.toList)
    (lT2 : K.lookup t2 = some o2) (cT2 : o2.cls = .type "tuple") (dT2 : o2.data = .seq it2 n2) (sT2 : it2.size ≤ 100) (vT2 : Vals ((["name", "name", "field"] : List Str).map V.str) it2.toList)
    (lT3 : K.lookup t3 = some o3) (cT3 : o3.cls = .type "tuple") (dT3 : o3.data = .seq it3 n3) (sT3 : it3.size ≤ 100) (vT3 : Vals ((["name", "field", "value"] : List Str).map V.str) it3.toList)
    (lT4 : K.lookup t4 = some o4) (cT4 : o4.cls = .type "tuple") (dT4 : o4.data = .seq it4 n4) (sT4 : it4.size ≤ 100) (vT4 : Vals ((["name", "value", "value"] : List Str).map V.str) it4.toList)
    (lT5 : K.lookup t5 = some o5) (cT5 : o5.cls = .type "tuple") (dT5 : o5.data = .seq it5 n5) (sT5 : it5.size ≤ 100) (vT5 : Vals ((["name"] : List Str).map V.str) it5.toList)
    (gC : PySem.W.nsIn K mainGlobals "CONTRARIES" = some (some (.ref aC))) (lC : K.lookup aC = some ⟨.type "dict", none, .dict ec nC, #[]⟩) (hC : PySem.W.KeysLit w.params ec.toList) (mC : (aC == sysModules) = false) (rC : ∀ x, RelO (([("is", .str "not"), ("not", .str "is")] : List (Str × V)).lookup x) (findBy Value.isStrOf ec x)) :
    ∃ fd : FuncData, (∀ (s : Shared) (v : Value), BindsTo s fd ⟨[v], []⟩ [("_law_script", v)]) ∧ ∀ base : Heap, K.In base → base.Ns mainGlobals mg → FnOk l.prog w K mg base CX0 18 fa fd ["_law_script"] (spLaw K) := by
  have e := hfa.symm.trans (PySem.W.mg_of X G a26)
  cases e
  have B1 := F1.binds (ps := ["text"]) fun _ _ _ _ _ _ us hl => match us, hl with | [_], _ => rfl
  have C1 : Cal K mg "is_name" f1 _ ["text"] := ⟨PySem.W.mg_of X G a1, F1.kp, B1⟩
  have B2 := F2.binds (ps := ["telling"]) fun _ _ _ _ _ _ us hl => match us, hl with | [_], _ => rfl
  have C2 : Cal K mg "names_of" f2 _ ["telling"] := ⟨PySem.W.mg_of X G a2, F2.kp, B2⟩
  have B3 := F3.binds (ps := ["deed"]) fun _ _ _ _ _ _ us hl => match us, hl with | [_], _ => rfl
  have C3 : Cal K mg "lists_in" f3 _ ["deed"] := ⟨PySem.W.mg_of X G a3, F3.kp, B3⟩
  have B4 := F4.binds (ps := ["deeds"]) fun _ _ _ _ _ _ us hl => match us, hl with | [_], _ => rfl
  have C4 : Cal K mg "all_deeds" f4 _ ["deeds"] := ⟨PySem.W.mg_of X G a4, F4.kp, B4⟩
  have B5 := F5.binds (ps := ["deed"]) fun _ _ _ _ _ _ us hl => match us, hl with | [_], _ => rfl
  have C5 : Cal K mg "words_of" f5 _ ["deed"] := ⟨PySem.W.mg_of X G a5, F5.kp, B5⟩
  have B6 := F6.binds (ps := ["procedure"]) fun _ _ _ _ _ _ us hl => match us, hl with | [_], _ => rfl
  have C6 : Cal K mg "names_in" f6 _ ["procedure"] := ⟨PySem.W.mg_of X G a6, F6.kp, B6⟩
  have B7 := F7.binds (ps := ["program"]) fun _ _ _ _ _ _ us hl => match us, hl with | [_], _ => rfl
  have C7 : Cal K mg "by_names" f7 _ ["program"] := ⟨PySem.W.mg_of X G a7, F7.kp, B7⟩
  have B8 := F8.binds (ps := ["body", "path"]) fun _ _ _ _ _ _ us hl => match us, hl with | [_, _], _ => rfl
  have C8 : Cal K mg "list_of" f8 _ ["body", "path"] := ⟨PySem.W.mg_of X G a8, F8.kp, B8⟩
  have B9 := F9.binds (ps := ["body", "path"]) fun _ _ _ _ _ _ us hl => match us, hl with | [_, _], _ => rfl
  have C9 : Cal K mg "found_at" f9 _ ["body", "path"] := ⟨PySem.W.mg_of X G a9, F9.kp, B9⟩
  have B10 := F10.binds (ps := ["loop", "holding"]) fun _ _ _ _ _ _ us hl => match us, hl with | [_, _], _ => rfl
  have C10 : Cal K mg "with_condition" f10 _ ["loop", "holding"] := ⟨PySem.W.mg_of X G a10, F10.kp, B10⟩
  have B11 := F11.binds (ps := ["procedure", "path"]) fun _ _ _ _ _ _ us hl => match us, hl with | [_, _], _ => rfl
  have C11 : Cal K mg "told_in" f11 _ ["procedure", "path"] := ⟨PySem.W.mg_of X G a11, F11.kp, B11⟩
  have B12 := F12.binds (ps := ["program", "name", "path"]) fun _ _ _ _ _ _ us hl => match us, hl with | [_, _, _], _ => rfl
  have C12 : Cal K mg "told_at" f12 _ ["program", "name", "path"] := ⟨PySem.W.mg_of X G a12, F12.kp, B12⟩
  have B13 := F13.binds (ps := ["_law_script", "_law_k"]) fun _ _ _ _ _ _ us hl => match us, hl with | [_, _], _ => rfl
  have C13 : Cal K mg "_law_cell_at" f13 _ ["_law_script", "_law_k"] := ⟨PySem.W.mg_of X G a13, F13.kp, B13⟩
  have B14 := F14.binds (ps := ["_law_cell", "_law_k"]) fun _ _ _ _ _ _ us hl => match us, hl with | [_, _], _ => rfl
  have C14 : Cal K mg "_law_mixed" f14 _ ["_law_cell", "_law_k"] := ⟨PySem.W.mg_of X G a14, F14.kp, B14⟩
  have B15 := F15.binds (ps := ["_law_cell"]) fun _ _ _ _ _ _ us hl => match us, hl with | [_], _ => rfl
  have C15 : Cal K mg "_law_free_names" f15 _ ["_law_cell"] := ⟨PySem.W.mg_of X G a15, F15.kp, B15⟩
  have B16 := F16.binds (ps := ["_law_cell"]) fun _ _ _ _ _ _ us hl => match us, hl with | [_], _ => rfl
  have C16 : Cal K mg "_law_names" f16 _ ["_law_cell"] := ⟨PySem.W.mg_of X G a16, F16.kp, B16⟩
  have B17 := F17.binds (ps := ["_law_thing"]) fun _ _ _ _ _ _ us hl => match us, hl with | [_], _ => rfl
  have C17 : Cal K mg "_law_words_in" f17 _ ["_law_thing"] := ⟨PySem.W.mg_of X G a17, F17.kp, B17⟩
  have B18 := F18.binds (ps := ["_law_procedure", "_law_n"]) fun _ _ _ _ _ _ us hl => match us, hl with | [_, _], _ => rfl
  have C18 : Cal K mg "_law_names_of" f18 _ ["_law_procedure", "_law_n"] := ⟨PySem.W.mg_of X G a18, F18.kp, B18⟩
  have B19 := F19.binds (ps := ["_law_cell", "_law_n", "_law_many"]) fun _ _ _ _ _ _ us hl => match us, hl with | [_, _, _], _ => rfl
  have C19 : Cal K mg "_law_telling" f19 _ ["_law_cell", "_law_n", "_law_many"] := ⟨PySem.W.mg_of X G a19, F19.kp, B19⟩
  have B20 := F20.binds (ps := ["_law_cell", "_law_n"]) fun _ _ _ _ _ _ us hl => match us, hl with | [_, _], _ => rfl
  have C20 : Cal K mg "_law_condition" f20 _ ["_law_cell", "_law_n"] := ⟨PySem.W.mg_of X G a20, F20.kp, B20⟩
  have B21 := F21.binds (ps := ["_law_cells", "_law_n"]) fun _ _ _ _ _ _ us hl => match us, hl with | [_, _], _ => rfl
  have C21 : Cal K mg "_law_body" f21 _ ["_law_cells", "_law_n"] := ⟨PySem.W.mg_of X G a21, F21.kp, B21⟩
  have B22 := F22.binds (ps := ["_law_script", "_law_n"]) fun _ _ _ _ _ _ us hl => match us, hl with | [_, _], _ => rfl
  have C22 : Cal K mg "_law_program" f22 _ ["_law_script", "_law_n"] := ⟨PySem.W.mg_of X G a22, F22.kp, B22⟩
  have B23 := F23.binds (ps := ["_law_deeds", "_law_head"]) fun _ _ _ _ _ _ us hl => match us, hl with | [_, _], _ => rfl
  have C23 : Cal K mg "_law_loops" f23 _ ["_law_deeds", "_law_head"] := ⟨PySem.W.mg_of X G a23, F23.kp, B23⟩
  have B24 := F24.binds (ps := ["_law_procedure", "_law_names_here"]) fun _ _ _ _ _ _ us hl => match us, hl with | [_, _], _ => rfl
  have C24 : Cal K mg "_law_begins" f24 _ ["_law_procedure", "_law_names_here"] := ⟨PySem.W.mg_of X G a24, F24.kp, B24⟩
  have B25 := F25.binds (ps := ["_law_found", "_law_due"]) fun _ _ _ _ _ _ us hl => match us, hl with | [_, _], _ => rfl
  have C25 : Cal K mg "_law_right" f25 _ ["_law_found", "_law_due"] := ⟨PySem.W.mg_of X G a25, F25.kp, B25⟩
  have C : Con K mg w := {
    len := PySem.W.mg_none_of X G z1
    all := PySem.W.mg_none_of X G z2
    any := PySem.W.mg_none_of X G z3
    isi := PySem.W.mg_none_of X G z4
    list := PySem.W.mg_none_of X G z5
    int := PySem.W.mg_none_of X G z6
    bool := PySem.W.mg_none_of X G z7
    str := PySem.W.mg_none_of X G z8
    dict := PySem.W.mg_none_of X G z9
    sorted := PySem.W.mg_none_of X G z10
    set := PySem.W.mg_none_of X G z11
    sum := PySem.W.mg_none_of X G z12
    range := PySem.W.mg_none_of X G z13
    tuple := PySem.W.mg_none_of X G z14
    max := PySem.W.mg_none_of X G z15
    zip := PySem.W.mg_none_of X G z16
    min := PySem.W.mg_none_of X G z17
    enumerate := PySem.W.mg_none_of X G z18
    letters := glob_str X G gL eL
    figures := glob_str X G gF eF
    mostSigns := glob_int X G gS eS
    noNames := ⟨aN, glob_ref X G gN, fun _ => .inr ⟨oN, itN, nN, lN, cN, dN, Nat.le_trans sN (by decide), vN⟩⟩
    contr := ⟨aC, glob_ref X G gC, ec, nC, lC, hC, mC, rC⟩
    forms := ⟨aP, [("set", t1), ("read", t2), ("write", t3), ("new", t4), ("free", t5)], glob_ref X G gP, ⟨es, nP, lP, hP, mP, rP⟩, rfl, fun w t r h1 h2 H => by
      have S1 : SqT K H t1 (([("name" : Str), "value"] : List Str).map V.str) := .inr ⟨o1, it1, n1, lT1, cT1, dT1, Nat.le_trans sT1 (by decide), vT1⟩
      have S2 : SqT K H t2 (([("name" : Str), "name", "field"] : List Str).map V.str) := .inr ⟨o2, it2, n2, lT2, cT2, dT2, Nat.le_trans sT2 (by decide), vT2⟩
      have S3 : SqT K H t3 (([("name" : Str), "field", "value"] : List Str).map V.str) := .inr ⟨o3, it3, n3, lT3, cT3, dT3, Nat.le_trans sT3 (by decide), vT3⟩
      have S4 : SqT K H t4 (([("name" : Str), "value", "value"] : List Str).map V.str) := .inr ⟨o4, it4, n4, lT4, cT4, dT4, Nat.le_trans sT4 (by decide), vT4⟩
      have S5 : SqT K H t5 (([("name" : Str)] : List Str).map V.str) := .inr ⟨o5, it5, n5, lT5, cT5, dT5, Nat.le_trans sT5 (by decide), vT5⟩
      have hl := look_mem forms_nd h2
      simp only [List.mem_cons, List.not_mem_nil, or_false, Prod.mk.injEq] at h1
      rcases h1 with ⟨rfl, rfl⟩ | ⟨rfl, rfl⟩ | ⟨rfl, rfl⟩ | ⟨rfl, rfl⟩ | ⟨rfl, rfl⟩
      · rw [show forms.lookup ("set" : Str) = some [("name" : Str), "value"] by decide +kernel] at hl; cases hl; exact S1
      · rw [show forms.lookup ("read" : Str) = some [("name" : Str), "name", "field"] by decide +kernel] at hl; cases hl; exact S2
      · rw [show forms.lookup ("write" : Str) = some [("name" : Str), "field", "value"] by decide +kernel] at hl; cases hl; exact S3
      · rw [show forms.lookup ("new" : Str) = some [("name" : Str), "value", "value"] by decide +kernel] at hl; cases hl; exact S4
      · rw [show forms.lookup ("free" : Str) = some [("name" : Str)] by decide +kernel] at hl; cases hl; exact S5⟩ }
  obtain ⟨_, _, kV, dc, pm, an, cd, ct, _, rfl, _, _⟩ := id F26.ex
  refine ⟨PySem.W.fnOf "law" "law" (defArgs sLaw) (defBody sLaw) (defScope sLaw) .none kV dc pm an cd ct, fun s v => .of_eq rfl, fun base _ _ => ?_⟩
  have O1 := ok_isName (P := l.prog) (base := base) C F1
  have O2 := ok_namesOf (P := l.prog) (base := base) C F2
  have O3 := ok_listsIn (P := l.prog) (base := base) C F3
  have s0 : FnOk l.prog w K mg base CX0 1 f4 d4 ["deeds"] (spAll K []) := ok_all0
  have s1 := ok_allS (n := 0) (b := 30) C F4 O3 C3 s0 C4
  have s2 := ok_allS (n := 1) (b := 30) C F4 O3 C3 s1 C4
  have s3 := ok_allS (n := 2) (b := 30) C F4 O3 C3 s2 C4
  have s4 := ok_allS (n := 3) (b := 30) C F4 O3 C3 s3 C4
  have s5 := ok_allS (n := 4) (b := 30) C F4 O3 C3 s4 C4
  have O5 := ok_words_of  C F5 O2 C2
  have O6 := ok_namesIn (n := 5) (bs := B 5) (by decide) C F6 O2 C2 s5 C4 O5 C5 O1 C1
  have O7 := ok_byNames (P := l.prog) (base := base) C F7
  have O8 := ok_listOf  C F8 O3 C3
  have O9 := ok_found  C F9 O8 C8
  have O10 := ok_with (P := l.prog) (base := base) C F10
  have O11 := ok_toldIn (n := 7) (bs := B 5) (by decide) C F11 O6 C6 O10 C10 O9 C9
  have O12 := ok_toldAt (n := 8) (bs := B 5) (by decide) C F12 O7 C7 O11 C11
  have O13 := ok_cellAt (P := l.prog) (base := base) C F13
  have O14 := ok_mixed (P := l.prog) (base := base) C F14
  have O15 := ok_free (P := l.prog) (base := base) C F15
  have O16 := ok_names  C F16 O15 C15
  have x0 : FnOk l.prog w K mg base CX0 1 f17 d17 ["_law_thing"] spNo := ⟨fun _ _ _ _ h => h.elim, fun _ _ _ _ _ _ _ _ _ _ _ _ _ h => h.elim⟩
  have w0 := ok_wIn0 C F17 x0 C17
  have w1 := ok_wInS C F17 w0 C17
  have w2 := ok_wInS C F17 w1 C17
  have w3 := ok_wInS C F17 w2 C17
  have w4 := ok_wInS C F17 w3 C17
  have w5 := ok_wInS C F17 w4 C17
  have w6 := ok_wInS C F17 w5 C17
  have w7 := ok_wInS C F17 w6 C17
  have w8 := ok_wInS C F17 w7 C17
  have w9 := ok_wInS C F17 w8 C17
  have w10 := ok_wInS C F17 w9 C17
  have w11 := ok_wInS C F17 w10 C17
  have w12 := ok_wInS C F17 w11 C17
  have w13 := ok_wInS C F17 w12 C17
  have w14 := ok_wInS C F17 w13 C17
  have O18 := ok_lnames C F18 w14 C17
  have O19 := ok_telling  C F19 O14 C14
  have O20 := ok_cond  C F20 O14 C14
  have O21 := ok_body  C F21 O20 C20 O19 C19
  have O22 := ok_prog  C F22 O13 C13 O19 C19 O21 C21
  have k5 : ∀ xs, FnOk l.prog w K mg base CX0 6 f23 d23 ["_law_deeds", "_law_head"] (spLoops K xs (B 5)) := fun xs => by
    have k0 : FnOk l.prog w K mg base CX0 1 f23 d23 ["_law_deeds", "_law_head"] (spLoops K xs []) := ok_loops0
    have k1 := ok_loopsS (n := 0) (b := 30) C F23 k0 C23
    have k2 := ok_loopsS (n := 1) (b := 30) C F23 k1 C23
    have k3 := ok_loopsS (n := 2) (b := 30) C F23 k2 C23
    have k4 := ok_loopsS (n := 3) (b := 30) C F23 k3 C23
    have k5 := ok_loopsS (n := 4) (b := 30) C F23 k4 C23
    exact k5
  have O24 := ok_begins (n := 5) C F24 k5 C23
  have O25 := ok_right (P := l.prog) (base := base) C F25
  exact ok_law C F26 O13 C13 O16 C16 O22 C22 O18 C18 O24 C24 O12 C12 O25 C25
theorem walk {l : PySem.W.OpenLaw} {q : Program} {loose : List Str} {XP : (Str → Option Value) → Heap → Prop} {YP : World → Heap → Prop} {d : DefRec} {K : Params → PySem.W.Frag} (hn : l.most = some 63) (hdf : d.params.defaults = [])
    (hY : ∀ (w : World) (h : Heap), YP w h → (K w.params).In h)
    (F : ∀ (w : World) (mg : Str → Option Value) (fa : Addr) (h : Heap), (K w.params).In h → h.Ns mainGlobals mg → mg d.name = some (.ref fa) →
      ∃ fd : FuncData, (∀ (s : Shared) (u : Value), BindsTo s fd ⟨[u], []⟩ [("_law_script", u)]) ∧ ∀ base : Heap, (K w.params).In base → base.Ns mainGlobals mg → FnOk l.prog w (K w.params) mg base CX0 18 fa fd ["_law_script"] (spLaw (K w.params))) :
    PySem.W.WalkO q loose XP YP l.row.toRowW d [] (fun f vs => PySem.call f vs) :=
  L2.walk_of (n := 63) (k := 18) (x := "_law_script") (CX := fun _ => CX0) (sp := fun w => spLaw (K w.params)) hn (by decide) hdf ⟨rfl, by decide, by decide⟩ hY F (fun _ _ a ns hl _ hS => ⟨a, ns, rfl, hS, fun _ => rfl⟩) fun _ _ _ _ _ z => z
end K60
open PySem PySem.W PyProof.Rows
set_option maxRecDepth 100000 in
set_option maxHeartbeats 0 in
theorem PySem.Challenge.cw_apart_k60_told_where_sections_begin_holds : PySem.Challenge.rw_apart_k60_told_where_sections_begin.Holds := by
  w_on; o_law; k_head; (case hw => w_witness2)
  k_fill
  refine K60.walk (l := PySem.Challenge.rw_apart_k60_told_where_sections_begin) rfl rfl (fun w h Y => PySem.W.kIn_of Y) ?F
  case F =>
    intro w mg fa h KX G hmg
    refine' K60.all_mk KX G hmg ?a1 ?F1 ?a2 ?F2 ?a3 ?F3 ?a4 ?F4 ?a5 ?F5 ?a6 ?F6 ?a7 ?F7 ?a8 ?F8 ?a9 ?F9 ?a10 ?F10 ?a11 ?F11 ?a12 ?F12 ?a13 ?F13 ?a14 ?F14 ?a15 ?F15 ?a16 ?F16 ?a17 ?F17 ?a18 ?F18 ?a19 ?F19 ?a20 ?F20 ?a21 ?F21 ?a22 ?F22 ?a23 ?F23 ?a24 ?F24 ?a25 ?F25 ?a26 ?F26 ?z1 ?z2 ?z3 ?z4 ?z5 ?z6 ?z7 ?z8 ?z9 ?z10 ?z11 ?z12 ?z13 ?z14 ?z15 ?z16 ?z17 ?z18 ?gL ?eL ?gF ?eF ?gS ?eS ?gN ?lN ?cN ?dN ?sN ?vN ?gP ?lP ?hP ?mP ?rP ?lT1 ?cT1 ?dT1 ?sT1 ?vT1 ?lT2 ?cT2 ?dT2 ?sT2 ?vT2 ?lT3 ?cT3 ?dT3 ?sT3 ?vT3 ?lT4 ?cT4 ?dT4 ?sT4 ?vT4 ?lT5 ?cT5 ?dT5 ?sT5 ?vT5 ?gC ?lC ?hC ?mC ?rC
    (case a1 => k_is)
    (case F1 => (refine' L2.fun_mk ?l ?c ?k; (case l => k_is); (case c => k_is); (case k => k_is)))
    (case a2 => k_is)
    (case F2 => (refine' L2.fun_mk ?l ?c ?k; (case l => k_is); (case c => k_is); (case k => k_is)))
    (case a3 => k_is)
    (case F3 => (refine' L2.fun_mk ?l ?c ?k; (case l => k_is); (case c => k_is); (case k => k_is)))
    (case a4 => k_is)
    (case F4 => (refine' L2.fun_mk ?l ?c ?k; (case l => k_is); (case c => k_is); (case k => k_is)))
    (case a5 => k_is)
    (case F5 => (refine' L2.fun_mk ?l ?c ?k; (case l => k_is); (case c => k_is); (case k => k_is)))
    (case a6 => k_is)
    (case F6 => (refine' L2.fun_mk ?l ?c ?k; (case l => k_is); (case c => k_is); (case k => k_is)))
    (case a7 => k_is)
    (case F7 => (refine' L2.fun_mk ?l ?c ?k; (case l => k_is); (case c => k_is); (case k => k_is)))
    (case a8 => k_is)
    (case F8 => (refine' L2.fun_mk ?l ?c ?k; (case l => k_is); (case c => k_is); (case k => k_is)))
    (case a9 => k_is)
    (case F9 => (refine' L2.fun_mk ?l ?c ?k; (case l => k_is); (case c => k_is); (case k => k_is)))
    (case a10 => k_is)
    (case F10 => (refine' L2.fun_mk ?l ?c ?k; (case l => k_is); (case c => k_is); (case k => k_is)))
    (case a11 => k_is)
    (case F11 => (refine' L2.fun_mk ?l ?c ?k; (case l => k_is); (case c => k_is); (case k => k_is)))
    (case a12 => k_is)
    (case F12 => (refine' L2.fun_mk ?l ?c ?k; (case l => k_is); (case c => k_is); (case k => k_is)))
    (case a13 => k_is)
    (case F13 => (refine' L2.fun_mk ?l ?c ?k; (case l => k_is); (case c => k_is); (case k => k_is)))
    (case a14 => k_is)
    (case F14 => (refine' L2.fun_mk ?l ?c ?k; (case l => k_is); (case c => k_is); (case k => k_is)))
    (case a15 => k_is)
    (case F15 => (refine' L2.fun_mk ?l ?c ?k; (case l => k_is); (case c => k_is); (case k => k_is)))
    (case a16 => k_is)
    (case F16 => (refine' L2.fun_mk ?l ?c ?k; (case l => k_is); (case c => k_is); (case k => k_is)))
    (case a17 => k_is)
    (case F17 => (refine' L2.fun_mk ?l ?c ?k; (case l => k_is); (case c => k_is); (case k => k_is)))
    (case a18 => k_is)
    (case F18 => (refine' L2.fun_mk ?l ?c ?k; (case l => k_is); (case c => k_is); (case k => k_is)))
    (case a19 => k_is)
    (case F19 => (refine' L2.fun_mk ?l ?c ?k; (case l => k_is); (case c => k_is); (case k => k_is)))
    (case a20 => k_is)
    (case F20 => (refine' L2.fun_mk ?l ?c ?k; (case l => k_is); (case c => k_is); (case k => k_is)))
    (case a21 => k_is)
    (case F21 => (refine' L2.fun_mk ?l ?c ?k; (case l => k_is); (case c => k_is); (case k => k_is)))
    (case a22 => k_is)
    (case F22 => (refine' L2.fun_mk ?l ?c ?k; (case l => k_is); (case c => k_is); (case k => k_is)))
    (case a23 => k_is)
    (case F23 => (refine' L2.fun_mk ?l ?c ?k; (case l => k_is); (case c => k_is); (case k => k_is)))
    (case a24 => k_is)
    (case F24 => (refine' L2.fun_mk ?l ?c ?k; (case l => k_is); (case c => k_is); (case k => k_is)))
    (case a25 => k_is)
    (case F25 => (refine' L2.fun_mk ?l ?c ?k; (case l => k_is); (case c => k_is); (case k => k_is)))
    (case a26 => k_is)
    (case F26 => (refine' L2.fun_mk ?l ?c ?k; (case l => k_is); (case c => k_is); (case k => k_is)))
    (case z1 => k_is)
    (case z2 => k_is)
    (case z3 => k_is)
    (case z4 => k_is)
    (case z5 => k_is)
    (case z6 => k_is)
    (case z7 => k_is)
    (case z8 => k_is)
    (case z9 => k_is)
    (case z10 => k_is)
    (case z11 => k_is)
    (case z12 => k_is)
    (case z13 => k_is)
    (case z14 => k_is)
    (case z15 => k_is)
    (case z16 => k_is)
    (case z17 => k_is)
    (case z18 => k_is)
    (case gL => k_is)
    (case eL => decide +kernel)
    (case gF => k_is)
    (case eF => decide +kernel)
    (case gS => k_is)
    (case eS => rfl)
    (case gN => k_is)
    (case lN => k_is)
    (case cN => rfl)
    (case dN => rfl)
    (case sN => decide)
    (case vN => repeat (first | exact .nil | refine .cons ⟨_, rfl⟩ ?_))
    (case gP => k_is)
    (case lP => k_is)
    (case hP => exact ⟨⟨_, _, rfl, rfl⟩, ⟨_, _, rfl, rfl⟩, ⟨_, _, rfl, rfl⟩, ⟨_, _, rfl, rfl⟩, ⟨_, _, rfl, rfl⟩, trivial⟩)
    (case mP => rfl)
    (case rP => exact K60.rel_find (.cons ⟨_, _, _, rfl, rfl⟩ (.cons ⟨_, _, _, rfl, rfl⟩ (.cons ⟨_, _, _, rfl, rfl⟩ (.cons ⟨_, _, _, rfl, rfl⟩ (.cons ⟨_, _, _, rfl, rfl⟩ (.nil)))))))
    (case lT1 => k_is)
    (case cT1 => rfl)
    (case dT1 => rfl)
    (case sT1 => decide)
    (case vT1 => repeat (first | exact .nil | refine .cons ⟨_, rfl⟩ ?_))
    (case lT2 => k_is)
    (case cT2 => rfl)
    (case dT2 => rfl)
    (case sT2 => decide)
    (case vT2 => repeat (first | exact .nil | refine .cons ⟨_, rfl⟩ ?_))
    (case lT3 => k_is)
    (case cT3 => rfl)
    (case dT3 => rfl)
    (case sT3 => decide)
    (case vT3 => repeat (first | exact .nil | refine .cons ⟨_, rfl⟩ ?_))
    (case lT4 => k_is)
    (case cT4 => rfl)
    (case dT4 => rfl)
    (case sT4 => decide)
    (case vT4 => repeat (first | exact .nil | refine .cons ⟨_, rfl⟩ ?_))
    (case lT5 => k_is)
    (case cT5 => rfl)
    (case dT5 => rfl)
    (case sT5 => decide)
    (case vT5 => repeat (first | exact .nil | refine .cons ⟨_, rfl⟩ ?_))
    (case gC => k_is)
    (case lC => k_is)
    (case hC => exact ⟨⟨_, _, rfl, rfl⟩, ⟨_, _, rfl, rfl⟩, trivial⟩)
    (case mC => rfl)
    (case rC => exact K60.rel_find (.cons ⟨_, _, _, rfl, ⟨_, rfl⟩⟩ (.cons ⟨_, _, _, rfl, ⟨_, rfl⟩⟩ (.nil))))
