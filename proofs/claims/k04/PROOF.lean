import PyProof.Rows.All
import Wide.All
import OpenK.AllK
import Wide.FinOn
import Lean
import PyProof.EqAt
import PyProof.EqKinds
import PyProof.TupleCall
import PySem.Challenge.RW_apart_k04_no_tellings
set_option Elab.async false
set_option linter.all false
set_option maxRecDepth 100000
namespace L2
open PySem PySem.Spec PyProof.Rows
abbrev Key := Sum Int Str
noncomputable def keyIs : Key → Value → Bool
  | .inl k, v => Value.isInt k v
  | .inr x, v => Value.isStrOf x v
noncomputable def keyH (w : World) : Key → Int
  | .inl k => hashInt k
  | .inr x => hashStr w x
theorem keyIs_shape : ∀ {k : Key} {v : Value}, keyIs k v = true → (∃ i t, k = Sum.inl i ∧ v = Value.int i t) ∨ (∃ x t, k = Sum.inr x ∧ v = Value.str x t)
  | .inl i, v, h => by
    obtain ⟨t, e⟩ := Value.isInt_shape (k := i) (v := v) h
    exact .inl ⟨i, t, rfl, e⟩
  | .inr x, v, h => by
    obtain ⟨t, e⟩ := Value.isStrOf_shape (x := x) (v := v) h
    exact .inr ⟨x, t, rfl, e⟩
theorem key_ll (a b : Int) : decide ((Sum.inl a : Key) = Sum.inl b) = (a == b) := by
  by_cases e : a = b
  · subst e; simp
  · have h : ¬ (Sum.inl a : Key) = Sum.inl b := fun q => e (Sum.inl.inj q)
    rw [decide_eq_false h]
    exact (beq_eq_false_iff_ne.mpr e).symm
theorem key_rr (a b : Str) : decide ((Sum.inr a : Key) = Sum.inr b) = decide (a = b) := by
  by_cases e : a = b
  · subst e; simp
  · have h : ¬ (Sum.inr a : Key) = Sum.inr b := fun q => e (Sum.inr.inj q)
    rw [decide_eq_false h, decide_eq_false e]
theorem key_lr (a : Int) (b : Str) : decide ((Sum.inl a : Key) = Sum.inr b) = false := decide_eq_false (fun q => nomatch q)
theorem key_rl (a : Str) (b : Int) : decide ((Sum.inr a : Key) = Sum.inl b) = false := decide_eq_false (fun q => nomatch q)
noncomputable def mixKind (prog : Program) (w : World) : PySem.KeyKind prog w Key where
  is := keyIs
  hash := keyH w
  inj := fun v a b ha hb => by
    rcases keyIs_shape ha with ⟨i, t, rfl, rfl⟩ | ⟨x, t, rfl, rfl⟩
    · rcases keyIs_shape hb with ⟨j, u, rfl, e⟩ | ⟨y, u, rfl, e⟩
      · injection e with e1 _; rw [e1]
      · exact nomatch e
    · rcases keyIs_shape hb with ⟨j, u, rfl, e⟩ | ⟨y, u, rfl, e⟩
      · exact nomatch e
      · injection e with e1 _; rw [e1]
  byValue := fun k v h => by
    rcases keyIs_shape h with ⟨i, t, rfl, rfl⟩ | ⟨x, t, rfl, rfl⟩ <;> rfl
  pyHash := fun hv h => by
    rcases keyIs_shape hv with ⟨i, t, rfl, rfl⟩ | ⟨x, t, rfl, rfl⟩
    · exact wpAny_pyHash_int h
    · exact wpAny_pyHash_str h
  eqBool := fun hu hv h => by
    rcases keyIs_shape hu with ⟨i, t, rfl, rfl⟩ | ⟨x, t, rfl, rfl⟩
    · rcases keyIs_shape hv with ⟨j, u, rfl, rfl⟩ | ⟨y, u, rfl, rfl⟩
      · rw [key_ll] at h; exact wpAny_eqBool_int h
      · rw [key_lr] at h; exact SeqAt.EqAt.int_str i t y u _ _ _ _ h
    · rcases keyIs_shape hv with ⟨j, u, rfl, rfl⟩ | ⟨y, u, rfl, rfl⟩
      · rw [key_rl] at h; exact SeqAt.EqAt.str_int x t j u _ _ _ _ h
      · rw [key_rr] at h; exact wpAny_eqBool_str h
  «strs» := fun k x t v h => by
    rcases keyIs_shape h with ⟨i, u, rfl, e⟩ | ⟨y, u, rfl, e⟩
    · exact nomatch e
    · injection e with e1 _
      subst e1
      cases v <;> rfl
end L2
namespace L2
open PySem PySem.Spec PyProof.Rows
inductive V where
  | non | bl (b : Bool) | int (i : Int) | str (x : Str) | byt (b : Array UInt8) | flt (b : UInt64) | ref (a : Addr) | ty (n : String)
  deriving DecidableEq
noncomputable def RelV : V → Value → Prop
  | .non, u => u = Value.none
  | .bl b, u => u = Value.bool b
  | .int i, u => ∃ t, u = Value.int i t
  | .str x, u => ∃ t, u = Value.str x t
  | .byt b, u => ∃ t, u = Value.bytes b t
  | .flt b, u => ∃ t, u = Value.float b t
  | .ref a, u => u = Value.ref a
  | .ty n, u => u = Value.type n
abbrev Vals : List V → List Value → Prop := Paired RelV
theorem Vals.length {xs : List V} {us : List Value} (r : Vals xs us) : xs.length = us.length := Paired.length r
theorem Vals.get : ∀ {xs : List V} {us : List Value} {i : Nat} {x : V}, Vals xs us → xs[i]? = some x → ∃ u, us[i]? = some u ∧ RelV x u
  | _, _, _, _, .nil, e => by simp at e
  | _, _, 0, _, .cons r _, e => by simp at e; subst e; exact ⟨_, rfl, r⟩
  | _, _, i + 1, x, .cons _ t, e => by
    obtain ⟨u, h1, h2⟩ := Vals.get (i := i) (x := x) t (by simpa using e)
    exact ⟨u, by simpa using h1, h2⟩
theorem Vals.set {x : V} {u : Value} (r : RelV x u) : ∀ {xs : List V} {us : List Value} (i : Nat), Vals xs us → Vals (xs.set i x) (us.set i u)
  | _, _, _, .nil => .nil
  | _, _, 0, .cons _ t => .cons r t
  | _, _, i + 1, .cons q t => .cons q (Vals.set r i t)
theorem Vals.append : ∀ {xs ys : List V} {us ws : List Value}, Vals xs us → Vals ys ws → Vals (xs ++ ys) (us ++ ws)
  | _, _, _, _, .nil, s => s
  | _, _, _, _, .cons r t, s => .cons r (Vals.append t s)
theorem Vals.take : ∀ {xs : List V} {us : List Value} (n : Nat), Vals xs us → Vals (xs.take n) (us.take n)
  | _, _, 0, _ => .nil
  | _, _, _ + 1, .nil => .nil
  | _, _, n + 1, .cons r t => .cons r (Vals.take n t)
theorem Vals.drop : ∀ {xs : List V} {us : List Value} (n : Nat), Vals xs us → Vals (xs.drop n) (us.drop n)
  | _, _, 0, r => r
  | _, _, _ + 1, .nil => .nil
  | _, _, n + 1, .cons _ t => Vals.drop n t
noncomputable def RelO : Option V → Option Value → Prop
  | some v, some u => RelV v u
  | none, none => True
  | _, _ => False
noncomputable def KV {κ : Type} : List (κ × V) → List (κ × Value) → Prop := Paired fun (p : κ × V) (q : κ × Value) => p.1 = q.1 ∧ RelV p.2 q.2
noncomputable def kV : Key → V
  | .inl i => .int i
  | .inr x => .str x
inductive HO where
  /-- a list -/
  | lst (xs : List V)
  /-- a tuple (never changes) -/
  | tup (xs : List V)
  /-- a dict whose keys are ints and texts; one whose keys are tuples of ints and texts (the empty one is both) -/
  | dK (kvs : List (Key × V)) | dT (kvs : List (List Key × V))
  /-- a set of ints: its members, its size -/
  | set (S : Int → Bool) (n : Nat)
  /-- an instance of the class at C, its dict at dx, its attributes -/
  | ins (C dx : Addr) (fs : List (Str × V))
  /-- the dict of the instance at x -/
  | own (x : Addr)
  /-- the dict of an exception -/
  | xd (fs : List (Str × V))
  /-- a bound method, f of x -/
  | met (f x : Addr)
  /-- a range object lo, lo + 1, .. below hi -/
  | rng (lo hi : Int)
  /-- a thing that is known to the object (the script; a dict while a loop walks it): read, never written while it is so -/
  | frz (o : Obj) (u : HO)
  /-- a code object's table -/
  | tbl (ps : Array Value)
  /-- any other thing, by what is true of its one object (a def of one's own: SetO a S n := HO.ext fun h => ..) -/
  | ext (φ : Heap → Prop)
abbrev Hp := Addr → Option HO
noncomputable def upd (H : Hp) (a : Addr) (o : HO) : Hp := fun b => if b = a then some o else H b
theorem upd_same {H : Hp} {a : Addr} {o : HO} : upd H a o a = some o := by unfold upd; rw [if_pos rfl]
theorem upd_ne {H : Hp} {a b : Addr} {o : HO} (h : b ≠ a) : upd H a o b = H b := by unfold upd; rw [if_neg h]
theorem ne_of_none {H : Hp} {a b : Addr} {o : HO} (h : H a = some o) (h' : H b = none) : a ≠ b := by
  intro e; subst e; rw [h] at h'; cases h'
section
variable (P : Program) (w : World)
noncomputable def ObjOk (H : Hp) (h : Heap) (a : Addr) : HO → Prop
  | .lst xs => xs.length ≤ sizeLine ∧ ∃ (its : List Value) (n : Nat), Vals xs its ∧ h.get? a = some { cls := .type "list", data := .seq its.toArray n }
  | .tup xs => xs.length ≤ sizeLine ∧ ∃ its : List Value, Vals xs its ∧ IsTup h a its.toArray
  | .dK kvs => kvs.length ≤ sizeLine ∧ (a == sysModules) = false ∧ ∃ vs, KV kvs vs ∧ h.DictOf (mixKind P w) a vs
  | .dT kvs => kvs.length ≤ sizeLine ∧ (a == sysModules) = false ∧ ∃ xs : List (List Key × Addr × Value),
      Paired (fun (p : List Key × V) (q : List Key × Addr × Value) => p.1 = q.1 ∧ H q.2.1 = some (.tup (p.1.map kV)) ∧ RelV p.2 q.2.2) kvs xs ∧
      ∃ o es ep, h.get? a = some o ∧ o.ExactDict ∧ o.data = .dict es ep ∧ es.toList = xs.map (entryOfKey (tupleKind (mixKind P w))) ∧ (xs.map (·.1)).Nodup
  | .set S n => h.SetOf (intKind P w) a S n
  | .ins C dx fs => H dx = some (.own a) ∧ fs.length ≤ 1000 ∧ dx ≠ a ∧ h.get? a = some (PySem.W.instObj C dx) ∧
      ∃ mA, h.Ns1 dx mA ∧ (∀ f, RelO (fs.lookup f) (mA f)) ∧ PySem.Within mA (fs.map (·.1))
  | .own _ => ∃ o, h.get? a = some o
  | .xd fs => ∃ mA, h.Ns1 a mA ∧ ∀ f, RelO (fs.lookup f) (mA f)
  | .rng lo hi => ∃ t u v, h.get? a = some { cls := .type "range", data := .fields #[.int lo t, .int hi u, .int 1 v] }
  | .frz o u => h.get? a = some o ∧ ObjOk H h a u
  | .tbl ps => h.get? a = some { cls := .none, data := .fields ps }
  | .met f x => h.get? a = some (PySem.W.methodObj (.ref f) (.ref x))
  | .ext φ => φ h ∧ (∃ o, h.get? a = some o) ∧ ∀ h1 h2 : Heap, φ h1 → (∀ o, h1.get? a = some o → h2.get? a = some o) → φ h2
noncomputable def HOk (H : Hp) (h : Heap) : Prop := ∀ a o, H a = some o → ObjOk P w H h a o
end
section
variable {P : Program} {w : World} {H H' : Hp} {h h' : Heap} {a : Addr} {o : HO}
theorem ObjOk.lt (x : ObjOk P w H h a o) : a < h.objs.size := by
  cases o with
  | lst xs => obtain ⟨_, _, _, _, e⟩ := x; exact Heap.lt_size e
  | tup xs => obtain ⟨_, _, _, p⟩ := x; exact p.lt
  | dK kvs => obtain ⟨_, _, _, _, o, _, _, e, _⟩ := x; exact Heap.lt_size e
  | dT kvs => obtain ⟨_, _, _, _, o, _, _, e, _⟩ := x; exact Heap.lt_size e
  | set S n => obtain ⟨o, _, _, _, e, _⟩ := x; exact Heap.lt_size e
  | ins C dx fs => obtain ⟨_, _, _, e, _⟩ := x; exact Heap.lt_size e
  | own y => obtain ⟨_, e⟩ := x; exact Heap.lt_size e
  | xd fs => obtain ⟨_, ⟨_, _, _, e, _⟩, _⟩ := x; exact Heap.lt_size e
  | rng lo hi => obtain ⟨_, _, _, e⟩ := x; exact Heap.lt_size e
  | frz ob u => obtain ⟨e, _⟩ := x; exact Heap.lt_size e
  | tbl ps => exact Heap.lt_size (show h.get? a = some _ from x)
  | met f y => exact Heap.lt_size (show h.get? a = some _ from x)
  | ext φ => obtain ⟨_, ⟨_, e⟩, _⟩ := x; exact Heap.lt_size e
theorem Paired.mapP {α β : Type} {F G : α → β → Prop} : ∀ {l₁ : List α} {l₂ : List β}, Paired F l₁ l₂ → (∀ a b, F a b → G a b) → Paired G l₁ l₂
  | _, _, .nil, _ => .nil
  | _, _, .cons r t, f => .cons (f _ _ r) (Paired.mapP t f)
theorem ObjOk.stay (x : ObjOk P w H h a o) (k : ∀ b u, (b = a ∨ H b = some (.own a)) → h.get? b = some u → h'.get? b = some u)
    (ho : ∀ b, H b = some (.own a) → H' b = some (.own a)) (ht : ∀ b xs, H b = some (.tup xs) → H' b = some (.tup xs)) : ObjOk P w H' h' a o := by
  induction o with
  | lst xs => obtain ⟨z, its, n, r, e⟩ := x; exact ⟨z, its, n, r, k _ _ (.inl rfl) e⟩
  | tup xs => obtain ⟨z, its, r, ob, e, c⟩ := x; exact ⟨z, its, r, ob, k _ _ (.inl rfl) e, c⟩
  | dK kvs => obtain ⟨z, y, vs, r, ob, es, ep, e, c⟩ := x; exact ⟨z, y, vs, r, ob, es, ep, k _ _ (.inl rfl) e, c⟩
  | dT kvs =>
    obtain ⟨z, y, xs, r, ob, es, ep, e, c⟩ := x
    exact ⟨z, y, xs, Paired.mapP r fun p q z => ⟨z.1, ht _ _ z.2.1, z.2.2⟩, ob, es, ep, k _ _ (.inl rfl) e, c⟩
  | set S n => obtain ⟨ob, es, ep, t, e, c⟩ := x; exact ⟨ob, es, ep, t, k _ _ (.inl rfl) e, c⟩
  | ins C dx fs =>
    obtain ⟨d, z, ne, e, mA, ⟨od, es, ep, e2, c⟩, r⟩ := x
    exact ⟨ho _ d, z, ne, k _ _ (.inl rfl) e, mA, ⟨od, es, ep, k _ _ (.inr d) e2, c⟩, r⟩
  | own y => obtain ⟨ob, e⟩ := x; exact ⟨ob, k _ _ (.inl rfl) e⟩
  | xd fs => obtain ⟨mA, ⟨od, es, ep, e, c⟩, r⟩ := x; exact ⟨mA, ⟨od, es, ep, k _ _ (.inl rfl) e, c⟩, r⟩
  | rng lo hi => obtain ⟨t, u, v, e⟩ := x; exact ⟨t, u, v, k _ _ (.inl rfl) e⟩
  | frz ob u ih => obtain ⟨e, q⟩ := x; exact ⟨k _ _ (.inl rfl) e, ih q⟩
  | tbl ps =>
    have e : h.get? a = some { cls := .none, data := .fields ps } := x
    show h'.get? a = some { cls := .none, data := .fields ps }
    exact k a _ (.inl rfl) e
  | met f y =>
    have e : h.get? a = some (PySem.W.methodObj (.ref f) (.ref y)) := x
    show h'.get? a = some (PySem.W.methodObj (.ref f) (.ref y))
    exact k a _ (.inl rfl) e
  | ext φ => obtain ⟨p, ⟨o, e⟩, st⟩ := x; exact ⟨st _ _ p fun o q => k _ _ (.inl rfl) q, ⟨o, k _ _ (.inl rfl) e⟩, st⟩
theorem HOk.lt (x : HOk P w H h) (e : H a = some o) : a < h.objs.size := (x a o e).lt
theorem HOk.fresh (x : HOk P w H h) (e : h.objs.size ≤ a) : H a = none := by
  cases q : H a with
  | none => rfl
  | some u => exact absurd (Nat.lt_of_lt_of_le (x.lt q) e) (Nat.lt_irrefl _)
theorem HOk.kept (x : HOk P w H h) (k : ∀ b u, h.get? b = some u → h'.get? b = some u) : HOk P w H h' := fun a o e =>
  (x a o e).stay (fun b u _ q => k b u q) (fun _ q => q) fun _ _ q => q
theorem HOk.laid (x : HOk P w H h) (k : ∀ b u, h.get? b = some u → h'.get? b = some u) (hp : h.objs.size ≤ a) (new : ObjOk P w (upd H a o) h' a o) : HOk P w (upd H a o) h' := fun b u e => by
  have hn := x.fresh hp
  by_cases hb : b = a
  · subst hb; rw [upd_same] at e; cases e; exact new
  · rw [upd_ne hb] at e
    exact (x b u e).stay (fun c v _ q => k c v q) (fun c q => by rw [upd_ne (ne_of_none q hn)]; exact q) fun c xs q => by rw [upd_ne (ne_of_none q hn)]; exact q
end
noncomputable def Rd (H : Hp) (a : Addr) (u : HO) : Prop := H a = some u ∨ ∃ o, H a = some (.frz o u)
theorem Rd.ok {P : Program} {w : World} {H : Hp} {h : Heap} {a : Addr} {u : HO} (r : Rd H a u) (x : HOk P w H h) : ObjOk P w H h a u := by
  rcases r with r | ⟨o, r⟩
  · exact x a u r
  · obtain ⟨_, q⟩ := x a _ r
    exact q
noncomputable def Mut : Option HO → Prop
  | some (.lst _) => True
  | some (.dK _) => True
  | some (.dT _) => True
  | some (.set _ _) => True
  | some (.ins _ _ _) => True
  | some (.ext _) => True
  | _ => False
section
variable {P : Program} {w : World} {H : Hp} {h h' : Heap} {x e : Addr} {o' : HO}
theorem HOk.write (ok : HOk P w H h) (mu : Mut (H x)) (he : e = x ∨ H e = some (.own x)) (k : ∀ b u, b ≠ e → h.get? b = some u → h'.get? b = some u) (heo : ∃ u, h'.get? e = some u)
    (new : ObjOk P w (upd H x o') h' x o') : HOk P w (upd H x o') h' := fun b u q => by
  have nown : ∀ c y, H c = some (.own y) → c ≠ x := fun c y r z => by subst z; rw [r] at mu; exact mu
  have ntup : ∀ c xs, H c = some (.tup xs) → c ≠ x := fun c xs r z => by subst z; rw [r] at mu; exact mu
  by_cases hb : b = x
  · subst hb; rw [upd_same] at q; cases q; exact new
  · rw [upd_ne hb] at q
    by_cases hbe : b = e
    · have q' : H b = some (.own x) := by
        rcases he with z | z
        · exact absurd (hbe.trans z) hb
        · rw [hbe]; exact z
      rw [q] at q'; cases q'
      obtain ⟨v, hv⟩ := heo
      exact ⟨v, by rw [hbe]; exact hv⟩
    · refine (ok b u q).stay (fun c v hc r => k c v ?_ r) (fun c r => by rw [upd_ne (nown c b r)]; exact r) fun c xs r => by rw [upd_ne (ntup c xs r)]; exact r
      rcases hc with rfl | hc
      · exact hbe
      · rintro rfl
        rcases he with z | z
        · exact nown c b hc z
        · rw [hc] at z; cases z; exact hb rfl
end
structure Un (fs ex : List Addr) (H H' : Hp) (h h' : Heap) : Prop where
  keep : ∀ b o, h.get? b = some o → H b = none → b ∉ fs → b ∉ ex → h'.get? b = some o
  slot : ∀ b o, h.get? b = some o → H b = none → b ∈ fs → b ∉ ex → ∃ sl, h'.get? b = some { o with slots := sl }
  free : ∀ b o, h.get? b = some o → H b = none → b ∉ ex → H' b = none
  there : ∀ b o, h.get? b = some o → b ∉ ex → ∃ o', h'.get? b = some o'
  tups : ∀ b xs, H b = some (.tup xs) → H' b = some (.tup xs)
  frzs : ∀ b o u, H b = some (.frz o u) → H' b = some (.frz o u)
  tbls : ∀ b ps, H b = some (.tbl ps) → ∃ more, H' b = some (.tbl (ps ++ more))
section
variable {fs fs' ex ex' : List Addr} {H H1 H2 : Hp} {h h1 h2 h' : Heap} {a x e : Addr} {o : HO}
theorem Un.any (u : Un fs ex H H1 h h1) {b : Addr} {ob : Obj} (q : h.get? b = some ob) (n : H b = none) (hx : b ∉ ex) : ∃ sl, h1.get? b = some { ob with slots := sl } := by
  by_cases hb : b ∈ fs
  · exact u.slot b ob q n hb hx
  · exact ⟨ob.slots, u.keep b ob q n hb hx⟩
theorem Un.kept (k : ∀ b u, h.get? b = some u → h'.get? b = some u) : Un fs ex H H h h' :=
  ⟨fun b ob q _ _ _ => k b ob q, fun b ob q _ _ _ => ⟨ob.slots, k b ob q⟩, fun _ _ _ n _ => n, fun b ob q _ => ⟨ob, k b ob q⟩, fun _ _ q => q, fun _ _ _ q => q, fun _ ps q => ⟨#[], by rw [q]; simp⟩⟩
theorem Un.refl : Un fs ex H H h h := Un.kept fun _ _ q => q
theorem Un.laid (k : ∀ b u, h.get? b = some u → h'.get? b = some u) (hp : h.objs.size ≤ a) (hn : H a = none) : Un fs ex H (upd H a o) h h' where
  keep := fun b u q _ _ _ => k b u q
  slot := fun b u q _ _ _ => ⟨u.slots, k b u q⟩
  free := fun b u q n _ => by rw [upd_ne (Nat.ne_of_lt (Nat.lt_of_lt_of_le (Heap.lt_size q) hp))]; exact n
  there := fun b u q _ => ⟨u, k b u q⟩
  tups := fun b xs q => by rw [upd_ne (ne_of_none q hn)]; exact q
  frzs := fun b u xs q => by rw [upd_ne (ne_of_none q hn)]; exact q
  tbls := fun b ps q => ⟨#[], by rw [upd_ne (ne_of_none q hn), q]; simp⟩
theorem Un.write (mu : Mut (H x)) (he : e = x ∨ H e = some (.own x)) (k : ∀ b u, b ≠ e → h.get? b = some u → h'.get? b = some u) (heo : ∃ u, h'.get? e = some u) : Un fs ex H (upd H x o) h h' := by
  have hx : ∀ b, H b = none → b ≠ x := fun b n z => by subst z; rw [n] at mu; exact mu
  have hb : ∀ b, H b = none → b ≠ e := fun b n z => by
    subst z
    rcases he with r | r
    · exact hx b n r
    · rw [n] at r; cases r
  have hm : ∀ b u, H b = some u → ¬ Mut (some u) → b ≠ x := fun b u q nm z => by subst z; rw [q] at mu; exact nm mu
  refine ⟨fun b u q n _ _ => k b u (hb b n) q, fun b u q n _ _ => ⟨u.slots, k b u (hb b n) q⟩, fun b u q n _ => by rw [upd_ne (hx b n)]; exact n, fun b u q _ => ?_,
    fun b xs q => by rw [upd_ne (hm b _ q fun z => z)]; exact q, fun b u xs q => by rw [upd_ne (hm b _ q fun z => z)]; exact q, fun b ps q => ⟨#[], by rw [upd_ne (hm b _ q fun z => z), q]; simp⟩⟩
  by_cases hbe : b = e
  · subst hbe; exact heo
  · exact ⟨u, k b u hbe q⟩
end
noncomputable def trk (h : Heap) (H : Hp) : List Addr := (List.range h.objs.size).filter fun a => (H a).isSome
noncomputable def hidT (h : Heap) (H : Hp) : Heap := PySem.W.hideAll h (trk h H)
theorem hidT_size (h : Heap) (H : Hp) : (hidT h H).objs.size = h.objs.size := PySem.W.hideAll_size _ _
theorem hidT_get {h : Heap} {H : Hp} {b : Addr} {o : Obj} (e : h.get? b = some o) (n : H b = none) : (hidT h H).get? b = some o :=
  PySem.W.hideAll_get _ e fun hm => by
    have q : (H b).isSome = true := (List.mem_filter.mp hm).2
    rw [n] at q; simp at q
theorem of_hidT {h : Heap} {H : Hp} {b : Addr} {o : Obj} (e : (hidT h H).get? b = some o) : h.get? b = some o ∧ H b = none := by
  have e' : h.get? b = some o := PySem.W.of_hideAll (trk h H) e
  refine ⟨e', ?_⟩
  cases q : H b with
  | none => rfl
  | some x =>
    have hm : b ∈ trk h H := List.mem_filter.mpr ⟨List.mem_range.mpr (Heap.lt_size e'), by simp [q]⟩
    have z : (hidT h H).get? b = none := PySem.W.hideAll_none (trk h H) hm
    rw [z] at e; cases e
noncomputable def allNews (g h : Heap) (L : Addr) : List (Addr × Obj) := (List.range h.objs.size).filterMap fun a => if a = L ∨ (g.get? a).isSome = true then none else (h.get? a).map fun o => (a, o)
noncomputable def rest (g h : Heap) (L d : Addr) : List (Addr × Obj) := (allNews g h L).filter fun p => decide (p.1 ≠ d)
end L2
namespace L2
open PySem PySem.Spec PyProof.Rows
structure Mod (K : PySem.W.Frag) (mg : Str → Option Value) (base : Heap) : Prop where
  kin : K.In base
  glob : base.Ns mainGlobals mg
  blt : ∃ mb, base.Ns builtinsNs mb ∧ ∀ x : Str, x ≠ "__name__" → mb x = bootBuiltins x
  nolimit : base.NoLimit
structure Cx where
  prog : Program
  w : World
  K : PySem.W.Frag
  mg : Str → Option Value
  base : Heap
  A : Around
  N : List Str
  s₀ : Shared
  H₀ : Hp
  env : Env
  outer : List Env
  stack : List Env
  ex : List Addr
  fn : Str → Bool
  calm : Bool
  pn : List (Addr × Obj)
  xe : Value → Shared → Prop
noncomputable def frs (l : List Env) : List Addr := l.filterMap (·.frame)
noncomputable abbrev Cx.fs (X : Cx) : List Addr := frs X.outer
noncomputable def Vis (sc : Scope) (x : Str) : Prop := sc.names.lookup x = some .local ∨ sc.names.lookup x = some .cell ∨ sc.names.lookup x = some .free
noncomputable def Loc (sc : Scope) (x : Str) : Prop := sc.names.lookup x = some .local ∨ sc.names.lookup x = some .cell
noncomputable def Look (env : Env) (h : Heap) (m : Str → Option Value) (x : Str) (u : Value) : Prop :=
  (env.kindOf x = some .local ∧ m x = some u) ∨ ((env.kindOf x = some .cell ∨ env.kindOf x = some .free) ∧ ∃ c, env.cells.lookup x = some c ∧ h.IsCell c (some u))
structure Cx.Ok (X : Cx) : Prop where
  mod : Mod X.K X.mg X.base
  kind : X.env.scope.kind = .function
  glob : X.env.globals = mainGlobals
  blt : X.env.builtins = builtinsNs
  above : X.s₀.heap.objs.size ≤ X.env.locals
  inj : ∀ x y c, X.env.cells.lookup x = some c → X.env.cells.lookup y = some c → x = y
  has : ∀ x, (X.env.kindOf x = some .cell ∨ X.env.kindOf x = some .free) → ∃ c, X.env.cells.lookup x = some c
  cab : ∀ x c, X.fn x = true → X.env.cells.lookup x = some c → X.s₀.heap.objs.size ≤ c
  hd : X.calm = true → X.A.handled = none
  frames : X.A.frames = some X.stack
  stk : X.stack = X.outer ∨ (X.stack = X.env :: X.outer ∧ X.env.frame = some X.env.locals)
  exf : ∀ b ∈ X.ex, b ≠ X.env.locals ∧ ∀ x c, X.env.cells.lookup x = some c → c ≠ b
  bs : ∀ b o, X.base.get? b = some o → X.s₀.heap.get? b = some o ∧ X.H₀ b = none
  bsz : X.base.objs.size ≤ X.s₀.heap.objs.size
  noex : ∀ b o, X.base.get? b = some o → b ∉ X.ex
  exfs : ∀ b ∈ X.ex, b ∉ X.fs
  funs : X.s₀.heap.FunFrames X.base X.outer
  frf : ∀ b ∈ X.fs, X.H₀ b = none
structure Inv (X : Cx) (pins : List (Addr × Obj)) (σ : List (Option V)) (H : Hp) (s : Shared) : Prop where
  ok : X.Ok
  os : s.os = X.s₀.os
  bare : AllBare s.gens
  base : Un X.fs X.ex X.H₀ H X.s₀.heap s.heap
  loc : ∃ m, s.heap.Ns X.env.locals m ∧ ∀ (i : Nat) (x : Str) (v : V), X.N[i]? = some x → σ[i]? = some (some v) → Vis X.env.scope x → ∃ u, RelV v u ∧ Look X.env s.heap m x u
  cell : ∀ x c, X.env.cells.lookup x = some c → ∃ v, s.heap.IsCell c v
  free : H X.env.locals = none
  freeC : ∀ x c, X.env.cells.lookup x = some c → H c = none
  pin : ∀ p ∈ X.pn ++ pins, s.heap.get? p.1 = some p.2 ∧ H p.1 = none ∧ p.1 ≠ X.env.locals ∧ p.1 ∉ X.fs ∧ ∀ v, p.2.data ≠ .cell v
  hok : HOk X.prog X.w H s.heap
  len : σ.length = X.N.length
section
variable {X : Cx} {pins : List (Addr × Obj)} {σ : List (Option V)} {H H' : Hp} {s : Shared} {h' : Heap}
theorem Cx.Ok.nofr (ok : X.Ok) {b : Addr} {o : Obj} (e : X.base.get? b = some o) : b ∉ X.fs := fun hb => by
  have := (ok.funs.mem hb).1
  rw [e] at this; cases this
theorem Inv.bs (I : Inv X pins σ H s) : ∀ b o, X.base.get? b = some o → s.heap.get? b = some o ∧ H b = none := fun b o e =>
  ⟨I.base.keep b o (I.ok.bs b o e).1 (I.ok.bs b o e).2 (I.ok.nofr e) (I.ok.noex b o e), I.base.free b o (I.ok.bs b o e).1 (I.ok.bs b o e).2 (I.ok.noex b o e)⟩
theorem Inv.bk (I : Inv X pins σ H s) : ∀ b o, X.base.get? b = some o → s.heap.get? b = some o := fun b o e => (I.bs b o e).1
theorem Inv.mod (I : Inv X pins σ H s) : Mod X.K X.mg X.base := I.ok.mod
theorem Inv.kIn (I : Inv X pins σ H s) : X.K.In s.heap := I.ok.mod.kin.keeps I.bk
theorem Inv.lt (I : Inv X pins σ H s) : X.env.locals < s.heap.objs.size := let ⟨_, hn, _⟩ := I.loc; hn.lt
theorem Inv.sz (I : Inv X pins σ H s) : X.s₀.heap.objs.size ≤ s.heap.objs.size := Nat.le_trans I.ok.above (Nat.le_of_lt I.lt)
theorem Inv.nofs (I : Inv X pins σ H s) {a : Addr} (h : s.heap.objs.size ≤ a) : a ∉ X.fs := fun hb => by
  obtain ⟨_, o, ho, _⟩ := I.ok.funs.mem hb
  exact absurd (Nat.lt_of_lt_of_le (Heap.lt_size ho) (Nat.le_trans I.sz h)) (Nat.lt_irrefl _)
theorem Inv.cne (I : Inv X pins σ H s) : ∀ x c, X.env.cells.lookup x = some c → c ≠ X.env.locals := fun x c e z => by
  obtain ⟨v, o, ho, hd⟩ := I.cell x c e
  obtain ⟨m, ⟨o', es, ep, ho', hd', _⟩, _⟩ := I.loc
  rw [z, ho'] at ho; cases ho; rw [hd'] at hd; cases hd
theorem Inv.funs (I : Inv X pins σ H s) : s.heap.FunFrames X.base X.outer := by
  have all : ∀ (l : List Env), (∀ b ∈ frs l, b ∈ X.fs) → X.s₀.heap.FunFrames X.base l → s.heap.FunFrames X.base l := by
    intro l
    induction l with
    | nil => intro _ _; trivial
    | cons env r ih =>
      intro hs hl
      obtain ⟨hk, ⟨L, o, hf, hn, ho, hd⟩, hr⟩ := hl
      have hL : L ∈ X.fs := hs L (by unfold frs; rw [List.filterMap_cons, hf]; exact List.mem_cons_self)
      obtain ⟨sl, e⟩ := I.base.slot L o ho (I.ok.frf L hL) hL fun z => I.ok.exfs L z hL
      exact ⟨hk, ⟨L, _, hf, hn, e, hd⟩, ih (fun b hb => hs b (by unfold frs; rw [List.filterMap_cons, hf]; exact List.mem_cons_of_mem _ hb)) hr⟩
  exact all X.outer (fun _ hb => hb) I.ok.funs
theorem Inv.stack (I : Inv X pins σ H s) : s.heap.FunFrames X.base X.stack := by
  rcases I.ok.stk with e | ⟨e, hf⟩
  · rw [e]; exact I.funs
  · rw [e]
    obtain ⟨m, hn, _⟩ := I.loc
    refine .cons (by rw [I.ok.kind]; decide) hf hn ?_ I.funs
    exact Heap.get?_none_of_le (Nat.le_trans I.ok.bsz I.ok.above)
theorem Inv.stkSub (I : Inv X pins σ H s) : ∀ b ∈ frs X.stack, b ∈ X.env.locals :: X.fs := fun b hb => by
  rcases I.ok.stk with e | ⟨e, hf⟩
  · rw [e] at hb; exact List.mem_cons_of_mem _ hb
  · rw [e] at hb
    unfold frs at hb
    rw [List.filterMap_cons, hf] at hb
    exact hb
theorem Inv.stkFree (I : Inv X pins σ H s) : ∀ b ∈ frs X.stack, H b = none := fun b hb => by
  rcases List.mem_cons.mp (I.stkSub b hb) with e | hb
  · rw [e]; exact I.free
  · obtain ⟨_, o, ho, _⟩ := I.ok.funs.mem hb
    exact I.base.free b o ho (I.ok.frf b hb) fun z => I.ok.exfs b z hb
theorem Inv.step {g' : Array GenState} {t' : Nat} {d' : Drawn} {ch : List Addr} (I : Inv X pins σ H s)
    (hch : ∀ b ∈ ch, (b ∈ X.ex ∨ X.s₀.heap.objs.size ≤ b) ∧ b ≠ X.env.locals ∧ (∀ x c, X.env.cells.lookup x = some c → c ≠ b) ∧ ∀ p ∈ X.pn ++ pins, p.1 ≠ b)
    (keep : ∀ b o, b ≠ X.env.locals → b ∉ X.fs → b ∉ ch → s.heap.get? b = some o → H b = none → h'.get? b = some o)
    (slot : ∀ b o, b ≠ X.env.locals → b ∈ X.fs → b ∉ ch → s.heap.get? b = some o → H b = none → ∃ sl, h'.get? b = some { o with slots := sl }) (free : ∀ b o, b ∉ ch → s.heap.get? b = some o → H b = none → H' b = none)
    (there : ∀ b o, b ∉ ch → s.heap.get? b = some o → ∃ o', h'.get? b = some o')
    (tups : ∀ b xs, H b = some (.tup xs) → H' b = some (.tup xs)) (frzs : ∀ b o u, H b = some (.frz o u) → H' b = some (.frz o u)) (tbls : ∀ b ps, H b = some (.tbl ps) → ∃ more, H' b = some (.tbl (ps ++ more)))
    (ns : ∀ m, s.heap.Ns X.env.locals m → h'.Ns X.env.locals m) (hok : HOk X.prog X.w H' h') (hg : AllBare g') :
    Inv X pins σ H' { s with heap := h', gens := g', drawn := d', toks := t' } := by
  have neL : ∀ b o, X.s₀.heap.get? b = some o → b ≠ X.env.locals := fun b o e => Nat.ne_of_lt (Nat.lt_of_lt_of_le (Heap.lt_size e) I.ok.above)
  have neC : ∀ b o, X.s₀.heap.get? b = some o → b ∉ X.ex → b ∉ ch := fun b o e hx hb => by
    rcases (hch b hb).1 with z | z
    · exact hx z
    · exact absurd (Nat.lt_of_lt_of_le (Heap.lt_size e) z) (Nat.lt_irrefl _)
  have cellK : ∀ x c, X.env.cells.lookup x = some c → ∀ v, s.heap.IsCell c v → h'.IsCell c v := fun x c e v ⟨o, ho, hd⟩ => by
    have nch : c ∉ ch := fun z => (hch c z).2.2.1 x c e rfl
    by_cases hc : c ∈ X.fs
    · obtain ⟨sl, q⟩ := slot c o (I.cne x c e) hc nch ho (I.freeC x c e)
      exact ⟨_, q, hd⟩
    · exact ⟨o, keep c o (I.cne x c e) hc nch ho (I.freeC x c e), hd⟩
  refine ⟨I.ok, I.os, hg, ⟨fun b o e n hb hx => ?_, fun b o e n hb hx => ?_, fun b o e n hx => ?_, fun b o e hx => ?_, fun b xs e => tups b xs (I.base.tups b xs e), fun b o xs e => frzs b o xs (I.base.frzs b o xs e), fun b ps e => ?_⟩, ?_, fun x c e => ?_, ?_, fun x c e => ?_, fun p hp => ?_, hok, I.len⟩
  · exact keep b o (neL b o e) hb (neC b o e hx) (I.base.keep b o e n hb hx) (I.base.free b o e n hx)
  · obtain ⟨sl, e1⟩ := I.base.slot b o e n hb hx
    obtain ⟨sl', e2⟩ := slot b _ (neL b o e) hb (neC b o e hx) e1 (I.base.free b o e n hx)
    exact ⟨sl', e2⟩
  · obtain ⟨o', e1⟩ := I.base.there b o e hx
    exact free b o' (neC b o e hx) e1 (I.base.free b o e n hx)
  · obtain ⟨o', e1⟩ := I.base.there b o e hx
    exact there b o' (neC b o e hx) e1
  · obtain ⟨m1, e1⟩ := I.base.tbls b ps e
    obtain ⟨m2, e2⟩ := tbls b _ e1
    exact ⟨m1 ++ m2, by rw [e2, Array.append_assoc]⟩
  · obtain ⟨m, hn, hl⟩ := I.loc
    refine ⟨m, ns m hn, fun i x v e1 e2 e3 => ?_⟩
    obtain ⟨u, r, l⟩ := hl i x v e1 e2 e3
    refine ⟨u, r, ?_⟩
    rcases l with l | ⟨k, c, e, z⟩
    · exact .inl l
    · exact .inr ⟨k, c, e, cellK x c e _ z⟩
  · obtain ⟨v, z⟩ := I.cell x c e
    exact ⟨v, cellK x c e v z⟩
  · obtain ⟨m, ⟨o, _, _, ho, _⟩, _⟩ := I.loc
    exact free _ o (fun z => (hch _ z).2.1 rfl) ho I.free
  · obtain ⟨v, o, ho, hd⟩ := I.cell x c e
    exact free c o (fun z => (hch c z).2.2.1 x c e rfl) ho (I.freeC x c e)
  · obtain ⟨e, n, ne, nf, d⟩ := I.pin p hp
    have nch : p.1 ∉ ch := fun z => (hch p.1 z).2.2.2 p hp rfl
    exact ⟨keep p.1 p.2 ne nf nch e n, free p.1 p.2 nch e n, ne, nf, d⟩
theorem Inv.un {t' : Nat} (I : Inv X pins σ H s) (u : Un X.fs [] H H' s.heap h') (hok : HOk X.prog X.w H' h') : Inv X pins σ H' { s with heap := h', toks := t' } := by
  obtain ⟨m, ⟨o, es, ep, ho, r⟩, _⟩ := id I.loc
  obtain ⟨sl, hL⟩ := u.any ho I.free (by simp)
  exact I.step (g' := s.gens) (d' := s.drawn) (ch := []) (fun _ z => nomatch z) (fun b o _ hb _ e n => u.keep b o e n hb (by simp)) (fun b o _ hb _ e n => u.slot b o e n hb (by simp)) (fun b o _ e n => u.free b o e n (by simp)) (fun b o _ e => u.there b o e (by simp)) u.tups u.frzs u.tbls (fun m' hm => by
    obtain ⟨o', es', ep', ho', r'⟩ := hm
    rw [ho] at ho'; cases ho'
    exact ⟨_, es', ep', hL, r'⟩) hok I.bare
theorem Inv.call {g' : Array GenState} {t' : Nat} {d' : Drawn} {ch : List Addr} (I : Inv X pins σ H s) (u : Un (frs X.stack) ch H H' s.heap h') (hok : HOk X.prog X.w H' h') (hg : AllBare g')
    (hch : ∀ b ∈ ch, (b ∈ X.ex ∨ X.s₀.heap.objs.size ≤ b) ∧ b ≠ X.env.locals ∧ (∀ x c, X.env.cells.lookup x = some c → c ≠ b) ∧ ∀ p ∈ X.pn ++ pins, p.1 ≠ b) :
    Inv X pins σ H' { s with heap := h', gens := g', drawn := d', toks := t' } := by
  obtain ⟨m, ⟨o, es, ep, ho, r⟩, _⟩ := id I.loc
  obtain ⟨sl, hL⟩ := u.any ho I.free fun z => (hch _ z).2.1 rfl
  exact I.step (ch := ch) hch (fun b o hL hb hc e n => u.keep b o e n (fun z => (List.mem_cons.mp (I.stkSub b z)).elim hL hb) hc) (fun b o _ _ hc e n => u.any e n hc) (fun b o hc e n => u.free b o e n hc) (fun b o hc e => u.there b o e hc) u.tups u.frzs u.tbls (fun m' hm => by
    obtain ⟨o', es', ep', ho', r'⟩ := hm
    rw [ho] at ho'; cases ho'
    exact ⟨_, es', ep', hL, r'⟩) hok hg
theorem Inv.turned {t' : Nat} {it : Addr} (I : Inv X pins σ H s) (k : ∀ b o, b ≠ it → s.heap.get? b = some o → h'.get? b = some o) (hn : H it = none) (hL : it ≠ X.env.locals)
    (h1 : it ∈ X.ex ∨ X.s₀.heap.objs.size ≤ it) (h2 : ∀ x c, X.env.cells.lookup x = some c → c ≠ it) (h3 : ∀ p ∈ X.pn ++ pins, p.1 ≠ it) : Inv X pins σ H { s with heap := h', toks := t' } := by
  have nit : ∀ b u, H b = some u → b ≠ it := fun b u e z => by rw [z, hn] at e; cases e
  refine I.step (g' := s.gens) (d' := s.drawn) (ch := [it]) (fun b hb => ?_) (fun b o _ _ hc e _ => k b o (fun z => hc (by simp [z])) e) (fun b o _ _ hc e _ => ⟨o.slots, k b o (fun z => hc (by simp [z])) e⟩) (fun _ _ _ _ n => n)
    (fun b o hc e => ⟨o, k b o (fun z => hc (by simp [z])) e⟩) (fun _ _ e => e) (fun _ _ _ e => e) (fun b ps e => ⟨#[], by rw [e]; simp⟩) (fun m hm => ?_) (fun b u e => ?_) I.bare
  · have e : b = it := by simpa using hb
    subst e
    exact ⟨h1, hL, h2, h3⟩
  · obtain ⟨o, es, ep, ho, r⟩ := hm
    exact ⟨o, es, ep, k _ o (Ne.symm hL) ho, r⟩
  · refine (I.hok b u e).stay (fun c v hc q => k c v ?_ q) (fun _ q => q) fun _ _ q => q
    rcases hc with z | z
    · rw [z]; exact nit b u e
    · exact nit c _ z
theorem Inv.tok (I : Inv X pins σ H s) (t : Nat) : Inv X pins σ H { s with toks := t } := I.un (h' := s.heap) (t' := t) Un.refl I.hok
theorem Inv.kept {t' : Nat} (I : Inv X pins σ H s) (k : ∀ b u, s.heap.get? b = some u → h'.get? b = some u) : Inv X pins σ H { s with heap := h', toks := t' } := I.un (Un.kept k) (I.hok.kept k)
theorem Inv.laid {a : Addr} {o : HO} {t' : Nat} (I : Inv X pins σ H s) (k : ∀ b u, s.heap.get? b = some u → h'.get? b = some u) (hp : s.heap.objs.size ≤ a) (new : ObjOk X.prog X.w (upd H a o) h' a o) :
    Inv X pins σ (upd H a o) { s with heap := h', toks := t' } := I.un (Un.laid k hp (I.hok.fresh hp)) (I.hok.laid k hp new)
theorem Inv.write {x e : Addr} {o : HO} {t' : Nat} (I : Inv X pins σ H s) (mu : Mut (H x)) (he : e = x ∨ H e = some (.own x)) (k : ∀ b u, b ≠ e → s.heap.get? b = some u → h'.get? b = some u) (heo : ∃ u, h'.get? e = some u)
    (new : ObjOk X.prog X.w (upd H x o) h' x o) : Inv X pins σ (upd H x o) { s with heap := h', toks := t' } := I.un (Un.write mu he k heo) (I.hok.write mu he k heo new)
theorem Inv.pins_of {pins' : List (Addr × Obj)} (I : Inv X pins σ H s) (h : ∀ p ∈ pins', s.heap.get? p.1 = some p.2 ∧ H p.1 = none ∧ p.1 ≠ X.env.locals ∧ p.1 ∉ X.fs ∧ ∀ v, p.2.data ≠ .cell v) : Inv X pins' σ H s :=
  ⟨I.ok, I.os, I.bare, I.base, I.loc, I.cell, I.free, I.freeC, fun p hp => (List.mem_append.mp hp).elim (fun z => I.pin p (List.mem_append_left _ z)) (h p), I.hok, I.len⟩
theorem nodup_ix {N : List Str} (hN : N.Nodup) {i j : Nat} {x : Str} (a : N[i]? = some x) (b : N[j]? = some x) : i = j := by
  obtain ⟨h1, e1⟩ := List.getElem?_eq_some_iff.mp a
  obtain ⟨h2, e2⟩ := List.getElem?_eq_some_iff.mp b
  exact (List.getElem_inj hN).mp (e1.trans e2.symm)
theorem store_ok2 {M : Model} {A : Around} {E : Value → Shared → Prop} {i : Nat} {x : Str} {v : V} {u : Value} {Q : Unit → Shared → Prop} (I : Inv X pins σ H s) (hN : X.N.Nodup) (hi : X.N[i]? = some x) (hx : Loc X.env.scope x) (r : RelV v u)
    (h : ∀ s', Inv X pins (σ.set i (some v)) H s' → (∃ a, Heap.SameBut a s.heap s'.heap ∧ (a = X.env.locals ∨ X.env.cells.lookup x = some a)) → Q () s') (hf : X.fn x = true ∨ X.env.scope.names.lookup x = some .local := by first | exact .inl rfl | exact .inr rfl | assumption) : wpAny M A (storeName X.env x u) Q E s := by
  obtain ⟨m, hn, hl⟩ := id I.loc
  have hcls : (X.env.scope.kind == .class || (X.env.scope.kind == .module && X.env.locals != X.env.globals)) = false := by rw [I.ok.kind]; rfl
  have hiσ : i < σ.length := by rw [I.len]; exact (List.getElem?_eq_some_iff.mp hi).1
  have cne := I.cne
  have tracked : ∀ {a : Addr} {h' : Heap}, (∃ o, s.heap.get? a = some o ∧ H a = none) → Heap.SameBut a s.heap h' → HOk X.prog X.w H h' := fun {a h'} ha hs b ob e => by
    obtain ⟨_, _, hfree⟩ := ha
    refine (I.hok b ob e).stay (fun c w' hc q => (hs.2 c ?_).trans q) (fun _ q => q) fun _ _ q => q
    rintro rfl
    rcases hc with rfl | hc
    · rw [hfree] at e; cases e
    · rw [hfree] at hc; cases hc
  rcases hx with hk | hk
  · refine wpAny_storeName_local hk hn (fun h' hn' hs => ?_) hcls
    obtain ⟨oL, _, _, hoL, _⟩ := id hn
    refine h _ ⟨I.ok, I.os, I.bare, ⟨fun b o e n hb hx => ?_, fun b o e n hb hx => ?_, I.base.free, fun b o e hx => ?_, I.base.tups, I.base.frzs, I.base.tbls⟩, ⟨_, hn', fun j y v' e1 e2 e3 => ?_⟩, fun y c e => ?_, I.free, I.freeC, fun p hp => ?_, tracked ⟨oL, hoL, I.free⟩ hs, by simpa using I.len⟩ ⟨_, hs, .inl rfl⟩
    · exact (hs.2 b (Nat.ne_of_lt (Nat.lt_of_lt_of_le (Heap.lt_size e) I.ok.above))).trans (I.base.keep b o e n hb hx)
    · obtain ⟨sl, e1⟩ := I.base.slot b o e n hb hx
      exact ⟨sl, (hs.2 b (Nat.ne_of_lt (Nat.lt_of_lt_of_le (Heap.lt_size e) I.ok.above))).trans e1⟩
    · obtain ⟨o', e1⟩ := I.base.there b o e hx
      exact ⟨o', (hs.2 b (Nat.ne_of_lt (Nat.lt_of_lt_of_le (Heap.lt_size e) I.ok.above))).trans e1⟩
    · by_cases hj : j = i
      · subst hj
        rw [hi] at e1; cases e1
        rw [List.getElem?_set_self hiσ] at e2
        cases e2
        exact ⟨u, r, .inl ⟨hk, by simp⟩⟩
      · rw [List.getElem?_set_ne (Ne.symm hj)] at e2
        obtain ⟨u', r', q⟩ := hl j y v' e1 e2 e3
        refine ⟨u', r', ?_⟩
        rcases q with ⟨k, e⟩ | ⟨k, c, e, z⟩
        · refine .inl ⟨k, ?_⟩
          have : y ≠ x := fun e => hj (nodup_ix hN e1 (e ▸ hi))
          simp [this, e]
        · exact .inr ⟨k, c, e, z.sameBut hs (cne y c e)⟩
    · obtain ⟨w', z⟩ := I.cell y c e
      exact ⟨w', z.sameBut hs (cne y c e)⟩
    · obtain ⟨e, n, ne, nf, d⟩ := I.pin p hp
      exact ⟨(hs.2 p.1 ne).trans e, n, ne, nf, d⟩
  · have hfn : X.fn x = true := by
      rcases hf with z | z
      · exact z
      · rw [z] at hk; cases hk
    obtain ⟨c, hc⟩ := I.ok.has x (.inl hk)
    obtain ⟨w', z⟩ := I.cell x c hc
    refine wpAny_storeName_cell I.ok.kind hk hc z (fun h' hc' hs => ?_)
    obtain ⟨oc, hoc, hocd⟩ := id z
    refine h { s with heap := h' } ⟨I.ok, I.os, I.bare, ⟨fun b o e n hb hx => ?_, fun b o e n hb hx => ?_, I.base.free, fun b o e hx => ?_, I.base.tups, I.base.frzs, I.base.tbls⟩, ⟨m, hn.sameBut hs (Ne.symm (cne x c hc)), fun j y v' e1 e2 e3 => ?_⟩, fun y c' e => ?_, I.free, I.freeC, fun p hp => ?_, tracked ⟨oc, hoc, I.freeC x c hc⟩ hs, by simpa using I.len⟩ ⟨c, hs, .inr hc⟩
    · exact (hs.2 b (Nat.ne_of_lt (Nat.lt_of_lt_of_le (Heap.lt_size e) (I.ok.cab x c hfn hc)))).trans (I.base.keep b o e n hb hx)
    · obtain ⟨sl, e1⟩ := I.base.slot b o e n hb hx
      exact ⟨sl, (hs.2 b (Nat.ne_of_lt (Nat.lt_of_lt_of_le (Heap.lt_size e) (I.ok.cab x c hfn hc)))).trans e1⟩
    · obtain ⟨o', e1⟩ := I.base.there b o e hx
      exact ⟨o', (hs.2 b (Nat.ne_of_lt (Nat.lt_of_lt_of_le (Heap.lt_size e) (I.ok.cab x c hfn hc)))).trans e1⟩
    · by_cases hj : j = i
      · subst hj
        rw [hi] at e1; cases e1
        rw [List.getElem?_set_self hiσ] at e2
        cases e2
        exact ⟨u, r, .inr ⟨.inl hk, c, hc, hc'⟩⟩
      · rw [List.getElem?_set_ne (Ne.symm hj)] at e2
        obtain ⟨u', r', q⟩ := hl j y v' e1 e2 e3
        refine ⟨u', r', ?_⟩
        rcases q with q | ⟨k, c', e, z'⟩
        · exact .inl q
        · refine .inr ⟨k, c', e, z'.sameBut hs ?_⟩
          rintro rfl
          exact hj (nodup_ix hN e1 (I.ok.inj _ _ _ e hc ▸ hi))
    · by_cases hcc : c' = c
      · subst hcc; exact ⟨_, hc'⟩
      · obtain ⟨w2, z2⟩ := I.cell y c' e
        exact ⟨w2, z2.sameBut hs hcc⟩
    · obtain ⟨e, n, ne, nf, d⟩ := I.pin p hp
      refine ⟨(hs.2 p.1 ?_).trans e, n, ne, nf, d⟩
      intro q
      rw [q, hoc] at e
      have q' : oc = p.2 := Option.some.inj e
      exact d w' (by rw [← q']; exact hocd)
theorem store_ok {M : Model} {A : Around} {E : Value → Shared → Prop} {i : Nat} {x : Str} {v : V} {u : Value} {Q : Unit → Shared → Prop} (I : Inv X pins σ H s) (hN : X.N.Nodup) (hi : X.N[i]? = some x) (hx : Loc X.env.scope x) (r : RelV v u)
    (h : ∀ s', Inv X pins (σ.set i (some v)) H s' → Q () s') (hf : X.fn x = true ∨ X.env.scope.names.lookup x = some .local := by first | exact .inl rfl | exact .inr rfl | assumption) : wpAny M A (storeName X.env x u) Q E s :=
  store_ok2 I hN hi hx r (fun s' I' _ => h s' I') hf
theorem Inv.call' {s' : Shared} {ch : List Addr} (I : Inv X pins σ H s) (ho : s'.os = s.os) (u : Un (frs X.stack) ch H H' s.heap s'.heap) (hok : HOk X.prog X.w H' s'.heap) (hg : AllBare s'.gens)
    (hch : ∀ b ∈ ch, (b ∈ X.ex ∨ X.s₀.heap.objs.size ≤ b) ∧ b ≠ X.env.locals ∧ (∀ x c, X.env.cells.lookup x = some c → c ≠ b) ∧ ∀ p ∈ X.pn ++ pins, p.1 ≠ b) : Inv X pins σ H' s' := by
  obtain ⟨h', g', d', t', o'⟩ := s'
  have e : o' = s.os := ho
  subst e
  exact I.call (g' := g') (t' := t') (d' := d') u hok hg hch
end
abbrev XK := Value → Option Addr → Hp → Prop
abbrev St := List (Option V)
abbrev VK := V → Hp → Prop
abbrev TE := St → Hp → VK → Prop
abbrev TT := St → Hp → (Bool → Hp → Prop) → Prop
abbrev TA := St → Hp → (List V → Hp → Prop) → Prop
structure Ends where
  nx : St → Hp → Prop
  rt : VK
  bk : St → Hp → Prop := fun _ _ => False
  ct : St → Hp → Prop := fun _ _ => False
abbrev TS := Ends → St → Hp → Prop
inductive EPS (X : Cx) (pins : List (Addr × Obj)) (σ : St) (Q : VK) (u : Value) (s' : Shared) : Prop
  | mk (v : V) (H' : Hp) (h0 : Inv X pins σ H' s') (h1 : RelV v u) (h2 : Q v H') : EPS X pins σ Q u s'
noncomputable def EP (X : Cx) (pins : List (Addr × Obj)) (σ : St) (Q : VK) (u : Value) (s' : Shared) : Prop := EPS X pins σ Q u s'
noncomputable def TP (X : Cx) (pins : List (Addr × Obj)) (σ : St) (Q : Bool → Hp → Prop) (b : Bool) (s' : Shared) : Prop := ∃ H', Inv X pins σ H' s' ∧ Q b H'
inductive APS (X : Cx) (pins : List (Addr × Obj)) (σ : St) (Q : List V → Hp → Prop) (us : List Value) (s' : Shared) : Prop
  | mk (vs : List V) (H' : Hp) (h0 : Inv X pins σ H' s') (h1 : Vals vs us) (h2 : Q vs H') : APS X pins σ Q us s'
noncomputable def AP (X : Cx) (pins : List (Addr × Obj)) (σ : St) (Q : List V → Hp → Prop) (us : List Value) (s' : Shared) : Prop := APS X pins σ Q us s'
noncomputable def SP (X : Cx) (pins : List (Addr × Obj)) (D : Ends) (f : Flow) (s' : Shared) : Prop :=
  match f with
  | .next => ∃ σ' H', Inv X pins σ' H' s' ∧ D.nx σ' H'
  | .brk => ∃ σ' H', Inv X pins σ' H' s' ∧ D.bk σ' H'
  | .cont => ∃ σ' H', Inv X pins σ' H' s' ∧ D.ct σ' H'
  | .ret u => ∃ v σ' H', Inv X pins σ' H' s' ∧ RelV v u ∧ D.rt v H'
noncomputable def PE (X : Cx) (e : Expr) (t : TE) : Prop :=
  ∀ (pins : List (Addr × Obj)) (s : Shared) (σ : St) (H : Hp) (Q : VK), Inv X pins σ H s → t σ H Q → wpAny (model X.prog X.w) X.A (eval e X.env) (EP X pins σ Q) X.xe s
noncomputable def PT (X : Cx) (e : Expr) (t : TT) : Prop :=
  ∀ (pins : List (Addr × Obj)) (s : Shared) (σ : St) (H : Hp) (Q : Bool → Hp → Prop), Inv X pins σ H s → t σ H Q → wpAny (model X.prog X.w) X.A (isTrue e X.env (eval e X.env)) (TP X pins σ Q) X.xe s
noncomputable def PW (X : Cx) (e : Expr) (t : TT) : Prop :=
  ∀ (whole : Sem Value) (pins : List (Addr × Obj)) (s : Shared) (σ : St) (H : Hp) (Q : Bool → Hp → Prop), Inv X pins σ H s → t σ H Q → wpAny (model X.prog X.w) X.A (isTrue e X.env whole) (TP X pins σ Q) X.xe s
theorem PW.pt {X : Cx} {e : Expr} {t : TT} (h : PW X e t) : PT X e t := h _
noncomputable def PA (X : Cx) (es : List Expr) (t : TA) : Prop :=
  ∀ (pos : Pos) (pins : List (Addr × Obj)) (s : Shared) (σ : St) (H : Hp) (Q : List V → Hp → Prop), Inv X pins σ H s → t σ H Q → wpAny (model X.prog X.w) X.A (spliced (backTo pos (starEach es X.env))) (AP X pins σ Q) X.xe s
noncomputable def PS (X : Cx) (st : Stmt) (t : TS) : Prop :=
  ∀ (pins : List (Addr × Obj)) (s : Shared) (σ : St) (H : Hp) (D : Ends), Inv X pins σ H s → t D σ H → wpAny (model X.prog X.w) X.A (exec st X.env) (SP X pins D) X.xe s
noncomputable def PSs (X : Cx) (st : List Stmt) (t : TS) : Prop :=
  ∀ (pins : List (Addr × Obj)) (s : Shared) (σ : St) (H : Hp) (D : Ends), Inv X pins σ H s → t D σ H → wpAny (model X.prog X.w) X.A (execs st X.env) (SP X pins D) X.xe s
theorem thn {α : Type} {t : Sem α} {Q Q' : α → Shared → Prop} {M : Model} {A : Around} {E : Value → Shared → Prop} {s : Shared} (h : wpAny M A t Q E s) (hQ : ∀ a s, Q a s → Q' a s) : wpAny M A t Q' E s := wpAny_mono h hQ fun _ _ x => x
end L2
namespace L2
open PySem PySem.Spec PyProof.Rows
section
variable {X : Cx}
inductive tVarS (i : Nat) (σ : St) (H : Hp) (Q : VK) : Prop
  | mk (v : V) (h0 : σ[i]? = some (some v)) (h1 : Q v H) : tVarS i σ H Q
noncomputable def tVar (i : Nat) : TE := fun σ H Q => tVarS i σ H Q
noncomputable def tC (v : V) : TE := fun _ H Q => Q v H
theorem pe_var {i : Nat} {x : Str} {pos : Pos} (hN : X.N[i]? = some x) (hv : Vis X.env.scope x) (hd : (x == ("__debug__" : Str)) = false := by decide) (hcd : (x == ("__classdict__" : Str)) = false := by decide) : PE X (.Name x pos) (tVar i) := by
  intro pins s σ H Q I h
  obtain ⟨v, e, h⟩ := h
  obtain ⟨m, hn, hl⟩ := I.loc
  obtain ⟨u, r, l⟩ := hl i x v hN e hv
  have fin : EP X pins σ Q u s := ⟨v, H, I, r, h⟩
  rcases l with ⟨hk, hm⟩ | ⟨hk, c, hc, hcell⟩
  · exact wpAny_Name (wpAny_loadName_local I.ok.kind hk hn hm fin) hd
  · rcases hk with hk | hk
    · exact wpAny_Name (wpAny_loadName_cell I.ok.kind hk hc hcell fin) hd
    · exact wpAny_Name (wpAny_loadName_free I.ok.kind hk hc hcell fin hcd) hd
theorem pe_int {i j pos} : PE X (.Constant (.int i) j pos) (tC (.int i)) := fun _ _ _ H _ I h => wpAny_Constant_int ⟨.int i, H, I.tok _, ⟨_, rfl⟩, h⟩
theorem pe_bl {b j pos} : PE X (.Constant (.bool b) j pos) (tC (.bl b)) := fun _ _ _ H _ I h => Constant_bool ⟨.bl b, H, I, rfl, h⟩
theorem pe_non {j pos} : PE X (.Constant .none j pos) (tC .non) := fun _ _ _ H _ I h => Constant_none ⟨.non, H, I, rfl, h⟩
theorem pe_str {x j pos} : PE X (.Constant (.str x) j pos) (tC (.str x)) := fun _ _ _ H _ I h => Calls.Constant_str ⟨.str x, H, I.tok _, ⟨_, rfl⟩, h⟩
noncomputable def Gl (X : Cx) (x : Str) : Prop := X.env.kindOf x = some .globalImplicit
theorem ld_glob {E : Value → Shared → Prop} {pins : List (Addr × Obj)} {s : Shared} {σ : St} {H : Hp} {x : Str} {u : Value} {pos : Pos} {Q : Value → Shared → Prop} (I : Inv X pins σ H s) (hg : Gl X x) (hm : X.mg x = some u) (h : Q u s)
    (hd : (x == ("__debug__" : Str)) = false := by decide) : wpAny (model X.prog X.w) X.A (eval (.Name x pos) X.env) Q E s :=
  Calls.Name_function_global I.ok.kind hg (Calls.loadGlobal_global (by rw [I.ok.glob]; exact I.mod.glob.keeps I.bk) hm h) hd
theorem ld_blt {E : Value → Shared → Prop} {pins : List (Addr × Obj)} {s : Shared} {σ : St} {H : Hp} {x : Str} {u : Value} {pos : Pos} {Q : Value → Shared → Prop} (I : Inv X pins σ H s) (hg : Gl X x) (hm : X.mg x = none) (hv : bootBuiltins x = some u) (h : Q u s)
    (hn : x ≠ "__name__" := by decide) (hd : (x == ("__debug__" : Str)) = false := by decide) : wpAny (model X.prog X.w) X.A (eval (.Name x pos) X.env) Q E s := by
  obtain ⟨mb, h1, h2⟩ := I.mod.blt
  exact Calls.Name_function_global I.ok.kind hg (Calls.loadGlobal_builtin (by rw [I.ok.glob]; exact I.mod.glob.keeps I.bk) hm (by rw [I.ok.blt]; exact h1.keeps I.bk) ((h2 x hn).trans hv) h) hd
theorem pe_glob {x : Str} {v : V} {u : Value} {pos : Pos} (hg : Gl X x) (hm : X.mg x = some u) (r : RelV v u) (hd : (x == ("__debug__" : Str)) = false := by decide) : PE X (.Name x pos) (tC v) :=
  fun _ _ _ H _ I h => ld_glob I hg hm ⟨v, H, I, r, h⟩ hd
theorem pe_bltn {x : Str} {v : V} {u : Value} {pos : Pos} (hg : Gl X x) (hm : X.mg x = none) (hv : bootBuiltins x = some u) (r : RelV v u) (hn : x ≠ "__name__" := by decide) (hd : (x == ("__debug__" : Str)) = false := by decide) : PE X (.Name x pos) (tC v) :=
  fun _ _ _ H _ I h => ld_blt I hg hm hv ⟨v, H, I, r, h⟩ hn hd
variable {a b : Expr} {ta tb : TE} {pos : Pos}
inductive tBS (x : V) (H1 : Hp) (Q : Bool → Hp → Prop) : Prop
  | mk (c : Bool) (h0 : x = .bl c) (h1 : Q c H1) : tBS x H1 Q
noncomputable def tB (t : TE) : TT := fun σ H Q => t σ H fun x H1 => tBS x H1 Q
theorem pt_val {e : Expr} {t : TE} (h : PE X e t) (he : ∀ whole, isTrue e X.env whole = (do let v ← whole; standAt e.pos; holding [v] (truthy v)) := by intro _; rfl) : PT X e (tB t) := by
  intro pins s σ H Q I hw
  refine isTrue_plain (thn (h pins s σ H _ I hw) fun v s1 ⟨x, H1, I1, r1, q1⟩ => ?_) (he _)
  obtain ⟨d, rfl, q⟩ := q1
  cases r1
  exact wpAny_truthy_bool ⟨H1, I1, q⟩
variable {tA tB' : TT} {rest : List Expr}
noncomputable def tAnd (t u : TT) : TT := fun σ H Q => t σ H fun c H1 => if c = true then u σ H1 Q else Q false H1
noncomputable def tOr (t u : TT) : TT := fun σ H Q => t σ H fun c H1 => if c = true then Q true H1 else u σ H1 Q
noncomputable def tNot (t : TT) : TT := fun σ H Q => t σ H fun c H1 => Q (!c) H1
theorem pw_and1 (ha : PT X a tA) : PW X (.BoolOp .And [a] pos) tA := by
  intro wh pins s σ H Q I h
  refine isTrue_and (thn (ha pins s σ H Q I h) fun c s1 e => ?_)
  cases c with
  | true => exact isTrue_and_nil e
  | false => exact e
theorem pw_or1 (ha : PT X a tA) : PW X (.BoolOp .Or [a] pos) tA := by
  intro wh pins s σ H Q I h
  refine isTrue_or (thn (ha pins s σ H Q I h) fun c s1 e => ?_)
  cases c with
  | false => exact isTrue_or_nil e
  | true => exact e
theorem pw_and (ha : PT X a tA) (hb : PW X (.BoolOp .And (b :: rest) pos) tB') : PW X (.BoolOp .And (a :: b :: rest) pos) (tAnd tA tB') := by
  intro wh pins s σ H Q I h
  refine isTrue_and (thn (ha pins s σ H _ I h) fun c s1 zq => ?_)
  obtain ⟨H1, I1, q1⟩ := zq
  cases c with
  | true => exact hb wh pins s1 σ H1 Q I1 q1
  | false => exact ⟨H1, I1, q1⟩
theorem pw_or (ha : PT X a tA) (hb : PW X (.BoolOp .Or (b :: rest) pos) tB') : PW X (.BoolOp .Or (a :: b :: rest) pos) (tOr tA tB') := by
  intro wh pins s σ H Q I h
  refine isTrue_or (thn (ha pins s σ H _ I h) fun c s1 zq => ?_)
  obtain ⟨H1, I1, q1⟩ := zq
  cases c with
  | true => exact ⟨H1, I1, q1⟩
  | false => exact hb wh pins s1 σ H1 Q I1 q1
theorem pt_not (ha : PT X a tA) : PT X (.UnaryOp .Not a pos) (tNot tA) := by
  intro pins s σ H Q I h
  exact isTrue_not (ha pins s σ H (fun c H1 => Q (!c) H1) I h)
inductive tAndVS (tb : TE) (σ : St) (x : V) (H1 : Hp) (Q : VK) : Prop
  | mk (c : Bool) (h0 : x = .bl c) (h1 : if c = true then tb σ H1 Q else Q (.bl false) H1) : tAndVS tb σ x H1 Q
noncomputable def tAndV (ta tb : TE) : TE := fun σ H Q => ta σ H fun x H1 => tAndVS tb σ x H1 Q
inductive tOrVS (tb : TE) (σ : St) (x : V) (H1 : Hp) (Q : VK) : Prop
  | mk (c : Bool) (h0 : x = .bl c) (h1 : if c = true then Q (.bl true) H1 else tb σ H1 Q) : tOrVS tb σ x H1 Q
noncomputable def tOrV (ta tb : TE) : TE := fun σ H Q => ta σ H fun x H1 => tOrVS tb σ x H1 Q
theorem pe_one {op} {t : TE} (h : PE X a t) : PE X (.BoolOp op [a] pos) t := fun pins s σ H Q I hw => BoolOp_one (h pins s σ H Q I hw)
theorem pe_and (ha : PE X a ta) (hb : PE X (.BoolOp .And (b :: rest) pos) tb) : PE X (.BoolOp .And (a :: b :: rest) pos) (tAndV ta tb) := by
  intro pins s σ H Q I h
  refine BoolOp_and (thn (ha pins s σ H _ I h) fun v s1 zq => ?_)
  obtain ⟨x, H1, I1, r1, q1⟩ := zq
  obtain ⟨c, rfl, q1⟩ := q1
  cases r1
  refine wpAny_truthy_bool ?_
  cases c with
  | true => exact hb pins s1 σ H1 Q I1 q1
  | false => exact ⟨.bl false, H1, I1, rfl, q1⟩
theorem pe_or (ha : PE X a ta) (hb : PE X (.BoolOp .Or (b :: rest) pos) tb) : PE X (.BoolOp .Or (a :: b :: rest) pos) (tOrV ta tb) := by
  intro pins s σ H Q I h
  refine BoolOp_or (thn (ha pins s σ H _ I h) fun v s1 zq => ?_)
  obtain ⟨x, H1, I1, r1, q1⟩ := zq
  obtain ⟨c, rfl, q1⟩ := q1
  cases r1
  refine wpAny_truthy_bool ?_
  cases c with
  | false => exact hb pins s1 σ H1 Q I1 q1
  | true => exact ⟨.bl true, H1, I1, rfl, q1⟩
noncomputable def tIf (t : TT) (ta tb : TE) : TE := fun σ H Q => t σ H fun c H1 => if c = true then ta σ H1 Q else tb σ H1 Q
theorem pe_ifExp {c : Expr} (hc : PT X c tA) (ha : PE X a ta) (hb : PE X b tb) : PE X (.IfExp c a b pos) (tIf tA ta tb) := by
  intro pins s σ H Q I h
  refine wpAny_IfExp (thn (hc pins s σ H _ I h) fun d s1 zq => ?_)
  obtain ⟨H1, I1, q1⟩ := zq
  cases d with
  | true => exact ha pins s1 σ H1 Q I1 q1
  | false => exact hb pins s1 σ H1 Q I1 q1
end
end L2
namespace L2
open PySem PySem.Spec PyProof.Rows
noncomputable def SqL (K : PySem.W.Frag) (H : Hp) (a : Addr) (xs : List V) : Prop :=
  Rd H a (.lst xs) ∨
    ∃ (o : Obj) (its : Array Value) (n : Nat), K.lookup a = some o ∧ o.cls = .type "list" ∧ o.dict = none ∧ o.data = .seq its n ∧ its.size ≤ sizeLine ∧ Vals xs its.toList
noncomputable def SqT (K : PySem.W.Frag) (H : Hp) (a : Addr) (xs : List V) : Prop :=
  Rd H a (.tup xs) ∨
    ∃ (o : Obj) (its : Array Value) (n : Nat), K.lookup a = some o ∧ o.cls = .type "tuple" ∧ o.data = .seq its n ∧ its.size ≤ sizeLine ∧ Vals xs its.toList
noncomputable def absV : Value → Option V
  | .none => some .non
  | .bool b => some (.bl b)
  | .int i _ => some (.int i)
  | .str x _ => some (.str x)
  | .bytes b _ => some (.byt b)
  | .float b _ => some (.flt b)
  | .ref a => some (.ref a)
  | .type n => some (.ty n)
  | _ => none
theorem RelV.abs {x : V} {u : Value} (r : RelV x u) : absV u = some x := by
  cases x with
  | non => cases r; rfl
  | bl _ => cases r; rfl
  | int _ => obtain ⟨t, rfl⟩ := r; rfl
  | str _ => obtain ⟨t, rfl⟩ := r; rfl
  | byt _ => obtain ⟨t, rfl⟩ := r; rfl
  | flt _ => obtain ⟨t, rfl⟩ := r; rfl
  | ref _ => cases r; rfl
  | ty _ => cases r; rfl
theorem RelV.inj {x y : V} {u : Value} (r : RelV x u) (q : RelV y u) : x = y := Option.some.inj (r.abs.symm.trans q.abs)
theorem Vals.inj : ∀ {xs ys : List V} {us : List Value}, Vals xs us → Vals ys us → xs = ys
  | _, _, _, .nil, .nil => rfl
  | _, _, _, .cons r t, .cons r' t' => by rw [r.inj r', Vals.inj t t']
section
variable {X : Cx} {pins : List (Addr × Obj)} {σ : St} {H : Hp} {s : Shared} {a : Addr} {xs ys : List V}
theorem SqL.of {K : PySem.W.Frag} (h : H a = some (.lst xs)) : SqL K H a xs := .inl (.inl h)
theorem SqT.of {K : PySem.W.Frag} (h : H a = some (.tup xs)) : SqT K H a xs := .inl (.inl h)
theorem Inv.list (I : Inv X pins σ H s) (h : SqL X.K H a xs) : ∃ its : List Value, Vals xs its ∧ PlainL s.heap a its.toArray ∧ xs.length ≤ sizeLine := by
  rcases h with h | ⟨o, its, n, hk, hc, hd, hs, hz, r⟩
  · obtain ⟨z, its, n, r, e⟩ := h.ok I.hok
    exact ⟨its, r, ⟨_, n, e, rfl, rfl, rfl⟩, z⟩
  · refine ⟨its.toList, r, ⟨o, n, I.kIn a o hk, hc, hd, by simpa using hs⟩, ?_⟩
    have e := r.length
    simp only [Array.length_toList] at e
    lia
theorem Inv.tuple (I : Inv X pins σ H s) (h : SqT X.K H a xs) : ∃ its : List Value, Vals xs its ∧ IsTup s.heap a its.toArray ∧ xs.length ≤ sizeLine := by
  rcases h with h | ⟨o, its, n, hk, hc, hs, hz, r⟩
  · obtain ⟨z, its, r, p⟩ := h.ok I.hok
    exact ⟨its, r, p, z⟩
  · refine ⟨its.toList, r, ⟨o, I.kIn a o hk, hc, n, by simpa using hs⟩, ?_⟩
    have e := r.length
    simp only [Array.length_toList] at e
    lia
theorem Inv.list_inj (I : Inv X pins σ H s) (h : SqL X.K H a xs) (h' : SqL X.K H a ys) : xs = ys := by
  obtain ⟨its, r, ⟨o, n, e, _, _, d⟩, _⟩ := I.list h
  obtain ⟨its', r', ⟨o', n', e', _, _, d'⟩, _⟩ := I.list h'
  rw [e] at e'; cases e'
  rw [d] at d'
  injection d' with d1 _
  have : its = its' := by simpa using congrArg Array.toList d1
  subst this
  exact r.inj r'
theorem Inv.tuple_inj (I : Inv X pins σ H s) (h : SqT X.K H a xs) (h' : SqT X.K H a ys) : xs = ys := by
  obtain ⟨its, r, ⟨o, e, _, n, d⟩, _⟩ := I.tuple h
  obtain ⟨its', r', ⟨o', e', _, n', d'⟩, _⟩ := I.tuple h'
  rw [e] at e'; cases e'
  rw [d] at d'
  injection d' with d1 _
  have : its = its' := by simpa using congrArg Array.toList d1
  subst this
  exact r.inj r'
end
noncomputable abbrev Cx.wish (X : Cx) (E : Value → Shared → Prop) : Cx := { X with xe := E }
noncomputable abbrev Cx.nox (X : Cx) : Cx := X.wish fun _ _ => False
theorem Cx.Ok.wish {X : Cx} (ok : X.Ok) (E : Value → Shared → Prop) : (X.wish E).Ok :=
  ⟨ok.mod, ok.kind, ok.glob, ok.blt, ok.above, ok.inj, ok.has, ok.cab, ok.hd, ok.frames, ok.stk, ok.exf, ok.bs, ok.bsz, ok.noex, ok.exfs, ok.funs, ok.frf⟩
theorem Cx.Ok.unwish {X : Cx} {E : Value → Shared → Prop} (ok : (X.wish E).Ok) : X.Ok :=
  ⟨ok.mod, ok.kind, ok.glob, ok.blt, ok.above, ok.inj, ok.has, ok.cab, ok.hd, ok.frames, ok.stk, ok.exf, ok.bs, ok.bsz, ok.noex, ok.exfs, ok.funs, ok.frf⟩
section
variable {X : Cx} {pins : List (Addr × Obj)} {σ : St} {H : Hp} {s : Shared} {E : Value → Shared → Prop}
theorem Inv.wish (I : Inv X pins σ H s) (E : Value → Shared → Prop) : Inv (X.wish E) pins σ H s := ⟨I.ok.wish E, I.os, I.bare, I.base, I.loc, I.cell, I.free, I.freeC, I.pin, I.hok, I.len⟩
theorem Inv.unwish (I : Inv (X.wish E) pins σ H s) : Inv X pins σ H s := ⟨I.ok.unwish, I.os, I.bare, I.base, I.loc, I.cell, I.free, I.freeC, I.pin, I.hok, I.len⟩
theorem SP.unwish {D : Ends} {f : Flow} {s' : Shared} (h : SP (X.wish E) pins D f s') : SP X pins D f s' := by
  cases f with
  | next => obtain ⟨σ', H', I, q⟩ := h; exact ⟨σ', H', I.unwish, q⟩
  | brk => obtain ⟨σ', H', I, q⟩ := h; exact ⟨σ', H', I.unwish, q⟩
  | cont => obtain ⟨σ', H', I, q⟩ := h; exact ⟨σ', H', I.unwish, q⟩
  | ret u => obtain ⟨v, σ', H', I, r, q⟩ := h; exact ⟨v, σ', H', I.unwish, r, q⟩
theorem PSs.nox {st : List Stmt} {t : TS} (h : PSs X.nox st t) : PSs X st t := fun pins s σ H D I hw =>
  wpAny_mono (h pins s σ H D (I.wish _) hw) (fun _ _ q => q.unwish) fun _ _ z => False.elim z
end
section
variable {X : Cx} {st : Stmt} {rest : List Stmt} {t u : TS} {e : Expr} {te : TE} {pos : Pos}
noncomputable def tNext : TS := fun D σ H => D.nx σ H
noncomputable def tSeq (t u : TS) : TS := fun D σ H => t { D with nx := u D } σ H
theorem pss_nil : PSs X [] tNext := fun _ _ σ H _ I h => wpAny_execs_nil ⟨σ, H, I, h⟩
theorem pss_cons (h1 : PS X st t) (h2 : PSs X rest u) : PSs X (st :: rest) (tSeq t u) := by
  intro pins s σ H D I h
  refine wpAny_execs_cons (thn (h1 pins s σ H { D with nx := u D } I h) fun f s1 q => ?_)
  cases f with
  | next =>
    obtain ⟨σ', H', I', q⟩ := q
    exact h2 pins s1 σ' H' D I' q
  | ret v => exact q
  | brk => exact q
  | cont => exact q
theorem pss_one (h1 : PS X st t) : PSs X [st] t := by
  intro pins s σ H D I h
  refine wpAny_execs_cons (thn (h1 pins s σ H D I h) fun f s1 q => ?_)
  cases f with
  | next => exact wpAny_execs_nil q
  | ret v => exact q
  | brk => exact q
  | cont => exact q
theorem Inv.quiet {pins : List (Addr × Obj)} {σ : St} {H : Hp} {s : Shared} (I : Inv X pins σ H s) : interactive X.env = false := by simp [interactive, I.ok.kind]
noncomputable def tDrop (te : TE) : TS := fun D σ H => te σ H fun _ H1 => D.nx σ H1
theorem ps_expr (he : PE X e te) (hs : swapsWith e none pos.line X.env = pure false := by rfl) : PS X (.Expr e pos) (tDrop te) := by
  intro pins s σ H D I h
  exact wpAny_Expr_any (thn (he pins s σ H _ I h) fun v s1 ⟨x, H1, I1, r1, q1⟩ => ⟨σ, H1, I1, q1⟩) I.quiet hs
noncomputable def tRet (te : TE) : TS := fun D σ H => te σ H D.rt
theorem ps_ret (he : PE X e te) : PS X (.Return (some e) pos) (tRet te) := by
  intro pins s σ H D I h
  exact wpAny_Return_some (thn (he pins s σ H _ I h) fun v s1 ⟨x, H1, I1, r1, q1⟩ => ⟨x, σ, H1, I1, r1, q1⟩)
noncomputable def tIfS (c : TT) (t u : TS) : TS := fun D σ H => c σ H fun b H1 => if b = true then t D σ H1 else u D σ H1
theorem ps_if {c : Expr} {a b : List Stmt} {tc : TT} (hc : PT X c tc) (ha : PSs X a t) (hb : PSs X b u) : PS X (.If c a b pos) (tIfS tc t u) := by
  intro pins s σ H D I h
  refine wpAny_If (thn (hc pins s σ H _ I h) fun d s1 zq => ?_)
  obtain ⟨H1, I1, q1⟩ := zq
  cases d with
  | true => exact ha pins s1 σ H1 D I1 q1
  | false => exact hb pins s1 σ H1 D I1 q1
end
abbrev TG := V → St → Hp → (St → Hp → Prop) → Prop
abbrev TGs := List V → St → Hp → (St → Hp → Prop) → Prop
noncomputable def PG (X : Cx) (target : Expr) (t : TG) : Prop :=
  ∀ (pins : List (Addr × Obj)) (s : Shared) (σ : St) (H : Hp) (v : V) (u : Value) (Q : St → Hp → Prop), Inv X pins σ H s → RelV v u → t v σ H Q →
    wpAny (model X.prog X.w) X.A (assign target X.env u) (fun _ s' => ∃ σ' H', Inv X pins σ' H' s' ∧ Q σ' H') X.xe s
noncomputable def PGs (X : Cx) (ts : List Expr) (t : TGs) : Prop :=
  ∀ (pins : List (Addr × Obj)) (s : Shared) (σ : St) (H : Hp) (vs : List V) (us : List Value) (Q : St → Hp → Prop), Inv X pins σ H s → Vals vs us → t vs σ H Q →
    wpAny (model X.prog X.w) X.A (assignInOrder ((assignEach ts X.env).map (·.2)) us) (fun _ s' => ∃ σ' H', Inv X pins σ' H' s' ∧ Q σ' H') X.xe s
abbrev TSet := V → V → V → Hp → (Hp → Prop) → Prop
noncomputable def PSet (X : Cx) (t : TSet) : Prop :=
  ∀ (pins : List (Addr × Obj)) (s : Shared) (σ : St) (H : Hp) (o i v : V) (ov iv u : Value) (Q : Hp → Prop), Inv X pins σ H s → RelV o ov → RelV i iv → RelV v u → t o i v H Q →
    wpAny (model X.prog X.w) X.A (setItem ov iv u) (fun _ s' => ∃ H', Inv X pins σ H' s' ∧ Q H') X.xe s
section
variable {X : Cx} {pos : Pos}
noncomputable def gName (i : Nat) : TG := fun v σ H Q => Q (σ.set i (some v)) H
theorem pg_name {i : Nat} {x : Str} (hN : X.N.Nodup) (hi : X.N[i]? = some x) (hx : Loc X.env.scope x) (hf : X.fn x = true ∨ X.env.scope.names.lookup x = some .local := by first | exact .inl rfl | exact .inr rfl | assumption) : PG X (.Name x pos) (gName i) := by
  intro pins s σ H v u Q I r h
  exact wpAny_assign_Name (store_ok I hN hi hx r (fun s' I' => ⟨_, H, I', h⟩) hf)
noncomputable def gNil : TGs := fun vs σ H Q => vs = [] ∧ Q σ H
inductive gConsS (t : TG) (u : TGs) (vs : List V) (σ : St) (H : Hp) (Q : St → Hp → Prop) : Prop
  | mk (v : V) (r : List V) (h0 : vs = v :: r) (h1 : t v σ H fun σ' H' => u r σ' H' Q) : gConsS t u vs σ H Q
noncomputable def gCons (t : TG) (u : TGs) : TGs := fun vs σ H Q => gConsS t u vs σ H Q
theorem pgs_nil : PGs X [] gNil := by
  intro pins s σ H vs us Q I r h
  obtain ⟨e, h⟩ := h
  subst e
  cases r
  exact assignInOrder_nil ⟨σ, H, I, h⟩
theorem pgs_cons {e : Expr} {es : List Expr} {t : TG} {u : TGs} (h1 : PG X e t) (h2 : PGs X es u)
    (hs : (assignEach (e :: es) X.env).map (·.2) = assign e X.env :: (assignEach es X.env).map (·.2) := by rfl) : PGs X (e :: es) (gCons t u) := by
  intro pins s σ H vs us Q I r h
  obtain ⟨v, vr, e1, h⟩ := h
  subst e1
  cases r with
  | cons r rr =>
    rw [hs]
    refine assignInOrder_cons (thn (h1 pins s σ H _ _ _ I r h) fun _ s1 zq => ?_)
    obtain ⟨σ1, H1, I1, q1⟩ := zq
    exact h2 pins s1 σ1 H1 _ _ Q I1 rr q1
inductive gTupS (K : PySem.W.Frag) (n : Nat) (t : TGs) (v : V) (σ : St) (H : Hp) (Q : St → Hp → Prop) : Prop
  | mk (a : Addr) (xs : List V) (h0 : v = .ref a) (h1 : SqT K H a xs) (h2 : xs.length = n) (h3 : t xs σ H Q) : gTupS K n t v σ H Q
noncomputable def gTup (K : PySem.W.Frag) (n : Nat) (t : TGs) : TG := fun v σ H Q => gTupS K n t v σ H Q
theorem pg_tup {es : List Expr} {k : Nat} {t : TGs} {n : Nat} (hc : X.calm = true) (h : PGs X es t)
    (hn : (assignEach es X.env).length = n := by rfl) (hst : (assignEach es X.env).findIdx? (·.1) = none := by rfl) : PG X (.Tuple es k pos) (gTup X.K n t) := by
  intro pins s σ H v u Q I r hw
  obtain ⟨a, xs, e1, hq, hl, hw⟩ := hw
  subst e1
  cases r
  obtain ⟨its, rv, ht, hz⟩ := I.tuple hq
  refine assign_Tuple_tuple (I.ok.hd hc) ht (by simp [hn, ← hl, rv.length]) hst fun h' hx => ?_
  have I1 : Inv X pins σ H { s with heap := h' } := I.kept (t' := s.toks) fun b o e => hx b o (Nat.ne_of_lt (Heap.lt_size e)) e
  exact h pins _ σ H xs _ Q I1 (by simpa using rv) hw
noncomputable def gSub (to ti : TE) (t : TSet) : TG := fun v σ H Q => to σ H fun o H1 => ti σ H1 fun i H2 => t o i v H2 fun H3 => Q σ H3
theorem pg_sub {o i : Expr} {to ti : TE} {t : TSet} (ho : PE X o to) (hi : PE X i ti) (hs : PSet X t)
    (ha : ∀ v, assign (.Subscript o i pos) X.env v = (do
      let ov ← holding [v] (eval o X.env)
      let iv ← holding [v, ov] (eval i X.env)
      standAt pos
      holding [v, ov, iv] (setItem ov iv v)
      release [v, ov, iv] []) := by intro _; rfl) : PG X (.Subscript o i pos) (gSub to ti t) := by
  intro pins s σ H v u Q I r h
  rw [ha]
  refine wpAny_bind (wpAny_holding (thn (ho pins s σ H _ I h) fun ov s1 zq => ?_))
  obtain ⟨x, H1, I1, r1, q1⟩ := zq
  refine wpAny_bind (wpAny_holding (thn (hi pins s1 σ H1 _ I1 q1) fun iv s2 zq => ?_))
  obtain ⟨y, H2, I2, r2, q2⟩ := zq
  refine wpAny_bind (wpAny_standAt (wpAny_bind (wpAny_holding (thn (hs pins s2 σ H2 x y v ov iv u _ I2 r1 r2 r q2) fun _ s3 zq => ?_))))
  obtain ⟨H3, I3, q3⟩ := zq
  exact wpAny_release ⟨σ, H3, I3, q3⟩
noncomputable def tAsg (te : TE) (g : TG) : TS := fun D σ H => te σ H fun x H1 => g x σ H1 D.nx
theorem ps_asg {tg e : Expr} {te : TE} {g : TG} (he : PE X e te) (hg : PG X tg g) (hs : swapsWithSole [tg] e pos.line X.env = pure false := by rfl) (hw : swappedStores [tg] e X.env = pure none := by rfl)
    (h1 : (assignEach [tg] X.env).map (·.2) = [assign tg X.env] := by rfl) : PS X (.Assign [tg] e pos) (tAsg te g) := by
  intro pins s σ H D I h
  refine wpAny_Assign_stores (thn (he pins s σ H _ I h) fun v s1 ⟨x, H1, I1, r1, q1⟩ => ?_) hs hw
  rw [h1]
  exact thn (hg pins s1 σ H1 x v _ I1 r1 q1) fun _ s2 q => q
theorem ps_set {i : Nat} {x : Str} {e : Expr} {te : TE} {pos' : Pos} (hN : X.N.Nodup) (hi : X.N[i]? = some x) (hx : Loc X.env.scope x) (he : PE X e te) (hs : swapsWith e (some (.Name x pos')) pos.line X.env = pure false := by rfl) (hf : X.fn x = true ∨ X.env.scope.names.lookup x = some .local := by first | exact .inl rfl | exact .inr rfl | assumption) :
    PS X (.Assign [.Name x pos'] e pos) (tAsg te (gName i)) := by
  intro pins s σ H D I h
  refine wpAny_Assign_Name (thn (he pins s σ H _ I h) fun v s1 ⟨y, H1, I1, r1, q1⟩ => ?_) hs
  exact store_ok I1 hN hi hx r1 (fun s2 I2 => ⟨_, H1, I2, q1⟩) hf
end
section
variable {X : Cx} {pos : Pos}
end
structure It where
  go : Nat → Hp → Prop
  yld : Nat → Hp → V → Hp → Prop
  stop : Nat → Hp → Prop
noncomputable def FpOk (X : Cx) (pins : List (Addr × Obj)) (H : Hp) (b : Addr) : Prop :=
  H b = none ∧ b ≠ X.env.locals ∧ b ∉ X.fs ∧ (b ∈ X.ex ∨ X.s₀.heap.objs.size ≤ b) ∧ (∀ x c, X.env.cells.lookup x = some c → c ≠ b) ∧ ∀ p ∈ X.pn ++ pins, p.1 ≠ b
theorem Inv.fpOk {X : Cx} {pins : List (Addr × Obj)} {σ : St} {H H' : Hp} {s : Shared} {b : Addr} (I : Inv X pins σ H s) (hb : s.heap.objs.size ≤ b) (hn : H' b = none) : FpOk X pins H' b := by
  refine ⟨hn, Nat.ne_of_gt (Nat.lt_of_lt_of_le I.lt hb), I.nofs hb, .inr (Nat.le_trans I.sz hb), fun x c e z => ?_, fun p hp z => ?_⟩
  · obtain ⟨v, q⟩ := I.cell x c e
    exact absurd (Nat.lt_of_lt_of_le q.lt (by rw [z]; exact hb)) (Nat.lt_irrefl _)
  · exact absurd (Nat.lt_of_lt_of_le (Heap.lt_size (I.pin p hp).1) (by rw [z]; exact hb)) (Nat.lt_irrefl _)
structure Turn (P : Program) (w : World) (K : PySem.W.Frag) (tg : Expr) (J : It) (fp : List Addr) (it : Addr) (tn : Nat → Heap → Prop) : Prop where
  mem : it ∈ fp
  obj : ∀ i h, tn i h → ∀ b ∈ fp, ∃ o, h.get? b = some o ∧ ∀ v, o.data ≠ .cell v
  keep : ∀ i h h', tn i h → (∀ b ∈ fp, ∀ o, h.get? b = some o → h'.get? b = some o) → tn i h'
  item : ∀ (X : Cx), X.prog = P → X.w = w → X.K = K → X.calm = true → ∀ (i : Nat) (pins : List (Addr × Obj)) (s : Shared) (σ : St) (H : Hp) (E : Value → Shared → Prop), Inv X pins σ H s → (∀ b ∈ fp, FpOk X pins H b) → tn i s.heap → J.go i H →
    wpAny (model P w) X.A (pyNext (.ref it)) (fun r s1 => ∃ u, r = some u ∧
      wpAny (model P w) X.A (letOwnedTupleGo tg (.ref it) u) (fun _ s2 => ∃ x H', Inv X pins σ H' s2 ∧ RelV x u ∧ J.yld i H x H' ∧ tn (i + 1) s2.heap ∧ ∀ b ∈ fp, H' b = none) E s1) E s
  done : ∀ (X : Cx), X.prog = P → X.w = w → X.K = K → X.calm = true → ∀ (i : Nat) (pins : List (Addr × Obj)) (s : Shared) (σ : St) (H : Hp) (E : Value → Shared → Prop), Inv X pins σ H s → (∀ b ∈ fp, FpOk X pins H b) → tn i s.heap → J.stop i H →
    wpAny (model P w) X.A (pyNext (.ref it)) (fun r s1 => r = none ∧ Inv X pins σ H s1) E s
  self : ∀ (A : Around) (i : Nat) (s : Shared) (Q : Value → Shared → Prop) (E : Value → Shared → Prop), tn i s.heap → Q (.ref it) s → wpAny (model P w) A (pyIter (.ref it)) Q E s
abbrev TI := St → Hp → (It → Hp → Prop) → Prop
noncomputable def PIE (X : Cx) (pins : List (Addr × Obj)) (σ : St) (tg : Expr) (R : It → Hp → Prop) (itv : Value) (s2 : Shared) : Prop :=
  ∃ (it : Addr) (fp : List Addr) (tn : Nat → Heap → Prop) (J : It) (H' : Hp), itv = .ref it ∧ Inv X pins σ H' s2 ∧ Turn X.prog X.w X.K tg J fp it tn ∧ tn 0 s2.heap ∧ (∀ b ∈ fp, FpOk X pins H' b) ∧ R J H'
noncomputable def PI (X : Cx) (tg iter : Expr) (wi : TI) : Prop :=
  ∀ (pins : List (Addr × Obj)) (s : Shared) (σ : St) (H : Hp) (R : It → Hp → Prop), Inv X pins σ H s → wi σ H R →
    wpAny (model X.prog X.w) X.A (eval iter X.env) (fun v s1 => wpAny (model X.prog X.w) X.A (pyIter v) (PIE X pins σ tg R) X.xe s1) X.xe s
theorem go_of {M : Model} {A : Around} {E : Value → Shared → Prop} {s : Shared} {tg : Expr} {it : Addr} {u : Value} {o : Obj} {n : String} {vs : Array Value} {Q : Unit → Shared → Prop} (ho : s.heap.get? it = some o) (hc : o.cls = .type n) (hd : o.data = .fields vs)
    (hn : ["enumerate", "zip", "dict_itemiterator", "dict_reverseitemiterator", "odict_iterator", "itertools.zip_longest", "itertools.pairwise"].contains n = false) (hQ : Q () s) : wpAny M A (letOwnedTupleGo tg (.ref it) u) Q E s := by
  unfold letOwnedTupleGo
  cases tg <;> first
    | exact wpAny_pure hQ
    | (cases u <;> first
        | exact wpAny_pure hQ
        | (refine wpAny_bind (wpAny_load ho ?_)
           rw [hc, hd]
           show wpAny M A (if (["enumerate", "zip", "dict_itemiterator", "dict_reverseitemiterator", "odict_iterator", "itertools.zip_longest", "itertools.pairwise"].contains n && vs[0]? == some (rawInt _)) = true then _ else _) Q E s
           rw [if_neg (by intro h; rw [hn, Bool.false_and] at h; cases h)]
           exact wpAny_pure hQ))
noncomputable def Itl (K : PySem.W.Frag) (a : Addr) : It :=
  ⟨fun i H => ∃ xs x, SqL K H a xs ∧ xs[i]? = some x, fun i H x H' => H' = H ∧ ∀ xs, SqL K H a xs → xs[i]? = some x, fun i H => ∃ xs, SqL K H a xs ∧ xs.length ≤ i⟩
noncomputable def Itt (K : PySem.W.Frag) (a : Addr) : It :=
  ⟨fun i H => ∃ xs x, SqT K H a xs ∧ xs[i]? = some x, fun i H x H' => H' = H ∧ ∀ xs, SqT K H a xs → xs[i]? = some x, fun i H => ∃ xs, SqT K H a xs ∧ xs.length ≤ i⟩
noncomputable def Itr (lo : Int) (n : Nat) : It := ⟨fun i _ => i < n, fun i H x H' => H' = H ∧ x = .int (lo + i), fun i _ => n ≤ i⟩
theorem turn_list {P : Program} {w : World} {K : PySem.W.Frag} {tg : Expr} (a it : Addr) : Turn P w K tg (Itl K a) [it] it (fun i h => h.IsListIter it a i) where
  mem := by simp
  obj := fun i h st b hb => by
    have e : b = it := by simpa using hb
    subst e
    obtain ⟨o, e, c, d⟩ := st
    exact ⟨o, e, fun v z => by rw [d] at z; cases z⟩
  keep := fun i h h' st k => st.at fun o e => k it (by simp) o e
  item := by
    intro X hP hw hK hc i pins s σ H E I hf st hg
    subst hP hw hK
    obtain ⟨xs, x, hq, hx⟩ := hg
    obtain ⟨its, rv, p, hz⟩ := I.list hq
    obtain ⟨u, hu, ru⟩ := rv.get hx
    obtain ⟨f0, f1, f2, f3, f4, f5⟩ := hf it (by simp)
    refine wpAny_pyNext_list_item st p.isList (x := u) (by simpa using hu) fun h' st' sb => ?_
    have I1 : Inv X pins σ H { s with heap := h' } := I.turned (t' := s.toks) (fun b o hb e => (sb.2 b hb).trans e) f0 f1 f3 f4 f5
    obtain ⟨o, e, c, d⟩ := id st'
    exact ⟨u, rfl, go_of (s := { s with heap := h' }) e c d (by decide) ⟨x, H, I1, ru, ⟨rfl, fun ys hy => by rw [I.list_inj hy hq]; exact hx⟩, st', fun b hb => (hf b hb).1⟩⟩
  done := by
    intro X hP hw hK hc i pins s σ H E I hf st hg
    subst hP hw hK
    obtain ⟨xs, hq, hx⟩ := hg
    obtain ⟨its, rv, p, hz⟩ := I.list hq
    obtain ⟨f0, f1, f2, f3, f4, f5⟩ := hf it (by simp)
    have hl := rv.length
    exact wpAny_pyNext_list_end (I.ok.hd hc) st p.isList (by simp; lia) fun h' eb => ⟨rfl, I.turned (t' := s.toks) (fun b o hb e => eb b o hb e) f0 f1 f3 f4 f5⟩
  self := fun _ _ _ _ _ st h => wpAny_pyIter_listiter st h
theorem turn_tuple {P : Program} {w : World} {K : PySem.W.Frag} {tg : Expr} (a it : Addr) : Turn P w K tg (Itt K a) [it] it (fun i h => h.IsTupleIter it a i) where
  mem := by simp
  obj := fun i h st b hb => by
    have e : b = it := by simpa using hb
    subst e
    obtain ⟨o, e, c, d⟩ := st
    exact ⟨o, e, fun v z => by rw [d] at z; cases z⟩
  keep := fun i h h' st k => st.at fun o e => k it (by simp) o e
  item := by
    intro X hP hw hK hc i pins s σ H E I hf st hg
    subst hP hw hK
    obtain ⟨xs, x, hq, hx⟩ := hg
    obtain ⟨its, rv, p, hz⟩ := I.tuple hq
    obtain ⟨u, hu, ru⟩ := rv.get hx
    obtain ⟨f0, f1, f2, f3, f4, f5⟩ := hf it (by simp)
    refine wpAny_pyNext_tuple_item st (show s.heap.IsTuple a its.toArray from p) (x := u) (by simpa using hu) fun h' st' sb => ?_
    have I1 : Inv X pins σ H { s with heap := h' } := I.turned (t' := s.toks) (fun b o hb e => (sb.2 b hb).trans e) f0 f1 f3 f4 f5
    obtain ⟨o, e, c, d⟩ := id st'
    exact ⟨u, rfl, go_of (s := { s with heap := h' }) e c d (by decide) ⟨x, H, I1, ru, ⟨rfl, fun ys hy => by rw [I.tuple_inj hy hq]; exact hx⟩, st', fun b hb => (hf b hb).1⟩⟩
  done := by
    intro X hP hw hK hc i pins s σ H E I hf st hg
    subst hP hw hK
    obtain ⟨xs, hq, hx⟩ := hg
    obtain ⟨its, rv, p, hz⟩ := I.tuple hq
    obtain ⟨f0, f1, f2, f3, f4, f5⟩ := hf it (by simp)
    have hl := rv.length
    exact wpAny_pyNext_tuple_end (I.ok.hd hc) st (show s.heap.IsTuple a its.toArray from p) (by simp; lia) fun h' eb => ⟨rfl, I.turned (t' := s.toks) (fun b o hb e => eb b o hb e) f0 f1 f3 f4 f5⟩
  self := fun _ _ _ _ _ st h => wpAny_pyIter_tupleiter st h
theorem turn_range {P : Program} {w : World} {K : PySem.W.Frag} {tg : Expr} (it : Addr) (lo : Int) (n : Nat) : Turn P w K tg (Itr lo n) [it] it (fun i h => IsRangeIter h it (lo + (i : Nat) * 1) ((n : Int) - (i : Nat)) 1) where
  mem := by simp
  obj := fun i h st b hb => by
    have e : b = it := by simpa using hb
    subst e
    exact ⟨_, st, fun v z => by
      have z' : Data.fields _ = Data.cell v := z
      cases z'⟩
  keep := fun i h h' st k => k it (by simp) _ st
  item := by
    intro X hP hw hK hc i pins s σ H E I hf st hg
    subst hP hw hK
    obtain ⟨f0, f1, f2, f3, f4, f5⟩ := hf it (by simp)
    have W := Walks.range (prog := X.prog) (w := X.w) (I.ok.hd hc) it lo 1 n
    refine W.item i s _ _ hg st fun v h' tk hv st' kk => ?_
    obtain ⟨t, rfl⟩ := hv
    have I1 : Inv X pins σ H { s with heap := h', toks := tk } := I.turned (fun b o hb e => kk b o (by simpa using hb) e) f0 f1 f3 f4 f5
    refine ⟨_, rfl, go_of (s := { s with heap := h', toks := tk }) (n := "range_iterator") st' rfl rfl (by decide) ⟨.int (lo + i), H, I1, ⟨t, ?_⟩, ⟨rfl, rfl⟩, st', fun b hb => (hf b hb).1⟩⟩
    rw [Int.mul_one]
  done := by
    intro X hP hw hK hc i pins s σ H E I hf st hg
    subst hP hw hK
    obtain ⟨f0, f1, f2, f3, f4, f5⟩ := hf it (by simp)
    exact wpAny_pyNext_range_end (I.ok.hd hc) st (by have : n ≤ i := hg; lia) fun h' eb => ⟨rfl, I.turned (t' := s.toks) (fun b o hb e => eb b o hb e) f0 f1 f3 f4 f5⟩
  self := fun _ _ _ _ _ st h => wpAny_pyIter_rangeiter st h
end L2
namespace L2
open PySem PySem.Spec PyProof.Rows
section
variable {X : Cx} {tg : Expr}
inductive iListS (K : PySem.W.Frag) (x : V) (H1 : Hp) (R : It → Hp → Prop) : Prop
  | mk (a : Addr) (h0 : x = .ref a) (h1 : (∃ xs, SqL K H1 a xs)) (h2 : R (Itl K a) H1) : iListS K x H1 R
noncomputable def iList (K : PySem.W.Frag) (tl : TE) : TI := fun σ H R => tl σ H fun x H1 => iListS K x H1 R
inductive iTupS (K : PySem.W.Frag) (x : V) (H1 : Hp) (R : It → Hp → Prop) : Prop
  | mk (a : Addr) (h0 : x = .ref a) (h1 : (∃ xs, SqT K H1 a xs)) (h2 : R (Itt K a) H1) : iTupS K x H1 R
noncomputable def iTup (K : PySem.W.Frag) (tl : TE) : TI := fun σ H R => tl σ H fun x H1 => iTupS K x H1 R
theorem pi_list {l : Expr} {tl : TE} (hl : PE X l tl) : PI X tg l (iList X.K tl) := by
  intro pins s σ H R I h
  refine thn (hl pins s σ H _ I h) fun v s1 zq => ?_
  obtain ⟨x, H1, I1, r1, q1⟩ := zq
  obtain ⟨a, e, ⟨xs, hq⟩, q⟩ := q1
  subst e
  cases r1
  obtain ⟨its, rv, p, hz⟩ := I1.list hq
  refine wpAny_pyIter_list p.isList ?_
  refine ⟨s1.heap.objs.size, [s1.heap.objs.size], _, _, H1, rfl, I1.kept (t' := s1.toks) fun b o e => Heap.get?_push_of_some _ e, turn_list a _, ⟨_, Heap.get?_push_size _ rfl, rfl, rfl⟩, fun b hb => ?_, q⟩
  have e : b = s1.heap.objs.size := by simpa using hb
  subst e
  exact I1.fpOk (Nat.le_refl _) (I1.hok.fresh (Nat.le_refl _))
theorem pi_tup {l : Expr} {tl : TE} (hl : PE X l tl) : PI X tg l (iTup X.K tl) := by
  intro pins s σ H R I h
  refine thn (hl pins s σ H _ I h) fun v s1 zq => ?_
  obtain ⟨x, H1, I1, r1, q1⟩ := zq
  obtain ⟨a, e, ⟨xs, hq⟩, q⟩ := q1
  subst e
  cases r1
  obtain ⟨its, rv, p, hz⟩ := I1.tuple hq
  refine wpAny_pyIter_tuple (show s1.heap.IsTuple a its.toArray from p) ?_
  refine ⟨s1.heap.objs.size, [s1.heap.objs.size], _, _, H1, rfl, I1.kept (t' := s1.toks) fun b o e => Heap.get?_push_of_some _ e, turn_tuple a _, ⟨_, Heap.get?_push_size _ rfl, rfl, rfl⟩, fun b hb => ?_, q⟩
  have e : b = s1.heap.objs.size := by simpa using hb
  subst e
  exact I1.fpOk (Nat.le_refl _) (I1.hok.fresh (Nat.le_refl _))
theorem range_it {pins : List (Addr × Obj)} {σ : St} {H : Hp} {s : Shared} {R : It → Hp → Prop} {E : Value → Shared → Prop} {lo hi : Int} {t u v : Tok} {tk : Nat} (I : Inv X pins σ H s) (h1 : -(2 ^ 62) ≤ lo) (h2 : lo < 2 ^ 62) (h3 : -(2 ^ 62) ≤ hi) (h4 : hi < 2 ^ 62)
    (q : R (Itr lo (hi - lo).toNat) H) : wpAny (model X.prog X.w) X.A (pyIter (.ref s.heap.objs.size)) (PIE X pins σ tg R) E { s with heap := s.heap.push { cls := .type "range", data := .fields #[.int lo t, .int hi u, .int 1 v] }, toks := tk } := by
  refine wpAny_pyIter_range (IsRange.new ..) (small_one h1 h2 h3 h4) ?_
  have I1 : Inv X pins σ H { s with heap := s.heap.push { cls := .type "range", data := .fields #[.int lo t, .int hi u, .int 1 v] }, toks := tk } := I.kept fun b o e => Heap.get?_push_of_some _ e
  refine ⟨(s.heap.push { cls := .type "range", data := .fields #[.int lo t, .int hi u, .int 1 v] }).objs.size, [(s.heap.push { cls := .type "range", data := .fields #[.int lo t, .int hi u, .int 1 v] }).objs.size], _, _, H, rfl,
    I1.kept (t' := tk) fun b o e => Heap.get?_push_of_some _ e, turn_range _ lo (hi - lo).toNat, ?_, fun b hb => ?_, q⟩
  · have e1 : lo + ((0 : Nat) : Int) * 1 = lo := by simp
    have e2 : (((hi - lo).toNat : Nat) : Int) - ((0 : Nat) : Int) = Builtin.Range.rangeSize lo hi 1 := by rw [rangeSize_one]; split <;> lia
    show IsRangeIter _ _ (lo + ((0 : Nat) : Int) * 1) ((((hi - lo).toNat : Nat) : Int) - ((0 : Nat) : Int)) 1
    rw [e1, e2]
    exact Heap.get?_push_size _ rfl
  · have e : b = (s.heap.push { cls := .type "range", data := .fields #[.int lo t, .int hi u, .int 1 v] }).objs.size := by simpa using hb
    subst e
    exact I1.fpOk (Nat.le_refl _) (I1.hok.fresh (Nat.le_refl _))
inductive iRng1S (vs : List V) (H1 : Hp) (R : It → Hp → Prop) : Prop
  | mk (j : Int) (h0 : vs = [.int j]) (h1 : -(2 ^ 62) ≤ j) (h2 : j < 2 ^ 62) (h3 : R (Itr 0 j.toNat) H1) : iRng1S vs H1 R
noncomputable def iRng1 (ta : TA) : TI := fun σ H R => ta σ H fun vs H1 => iRng1S vs H1 R
theorem pi_range1 {a : Expr} {ta : TA} {p pos : Pos} (hg : Gl X "range") (hm : X.mg "range" = none) (ha : PA X [a] ta) (hs : starEach [a] X.env = [(false, eval a X.env)] := by rfl) : PI X tg (.Call (.Name "range" p) [a] [] pos) (iRng1 ta) := by
  intro pins s σ H R I h
  refine Call_ (ld_blt I hg hm boot_range (PyProof.Rows.callWith_type1 (thn (ha pos pins s σ H _ I h) fun us s1 ⟨vs, H1, I1, r1, q1⟩ => ?_) hs rfl))
  obtain ⟨j, e, q1, q2, q⟩ := q1
  subst e
  cases r1 with
  | cons r rr =>
    cases rr
    obtain ⟨t, rfl⟩ := r
    exact call_range_1 (range_it I1 (by lia) (by lia) q1 q2 (by simpa using q))
noncomputable def tFor (wi : TI) (g : TG) (tb : TS) : TS := fun D σ H => wi σ H fun J H1 => ∃ W : Nat → Nat → St → Hp → Prop, (∃ m, W 0 m σ H1) ∧ ∀ i m σ H, W i m σ H →
  (J.stop i H ∧ D.nx σ H) ∨ (J.go i H ∧ ∃ N : St → Hp → Prop, (∀ σ' H', N σ' H' → ∃ m', m' < m ∧ W (i + 1) m' σ' H') ∧ ∀ x H', J.yld i H x H' → g x σ H' fun σ2 H2 => tb { D with nx := N, ct := N, bk := D.nx } σ2 H2)
noncomputable def pinsAt (fp : List Addr) (h : Heap) : List (Addr × Obj) := fp.filterMap fun b => (h.get? b).map fun o => (b, o)
theorem mem_pinsAt {fp : List Addr} {h : Heap} {b : Addr} {o : Obj} (hb : b ∈ fp) (e : h.get? b = some o) : (b, o) ∈ pinsAt fp h := List.mem_filterMap.mpr ⟨b, hb, by rw [e]; rfl⟩
theorem of_pinsAt {fp : List Addr} {h : Heap} {p : Addr × Obj} (hp : p ∈ pinsAt fp h) : p.1 ∈ fp ∧ h.get? p.1 = some p.2 := by
  obtain ⟨b, hb, e⟩ := List.mem_filterMap.mp hp
  cases q : h.get? b with
  | none => rw [q] at e; cases e
  | some o =>
    rw [q] at e
    have e' : (b, o) = p := Option.some.inj e
    subst e'
    exact ⟨hb, q⟩
theorem Inv.pinned {pins : List (Addr × Obj)} {σ : St} {H : Hp} {s : Shared} {fp : List Addr} (I : Inv X pins σ H s) (hf : ∀ b ∈ fp, FpOk X pins H b) (ho : ∀ b ∈ fp, ∃ o, s.heap.get? b = some o ∧ ∀ v, o.data ≠ .cell v) : Inv X (pins ++ pinsAt fp s.heap) σ H s :=
  I.pins_of fun p hp => (List.mem_append.mp hp).elim (fun z => I.pin p (List.mem_append_right _ z)) fun z => by
    obtain ⟨hb, e⟩ := of_pinsAt z
    obtain ⟨f0, f1, f2, _⟩ := hf p.1 hb
    obtain ⟨o, e', d⟩ := ho p.1 hb
    rw [e] at e'; cases e'
    exact ⟨e, f0, f1, f2, d⟩
theorem Inv.unpinned {pins pl : List (Addr × Obj)} {σ : St} {H : Hp} {s : Shared} (I : Inv X (pins ++ pl) σ H s) : Inv X pins σ H s := I.pins_of fun p hp => I.pin p (List.mem_append_right _ (List.mem_append_left _ hp))
theorem ps_for {iter : Expr} {body : List Stmt} {wi : TI} {g : TG} {tb : TS} {pos : Pos} (hp : PassesOwn (model X.prog X.w) X.A X.env X.xe) (hc : X.calm = true) (hi : PI X tg iter wi) (hg : PG X tg g) (hb : PSs X body tb)
    (hs : ∀ x, foldedSetIterable iter X.env x = pure x := by intro _; rfl) : PS X (.For tg iter body [] pos) (tFor wi g tb) := by
  intro pins s σ H D I h
  refine wpAny_For (thn (hi pins s σ H _ I h) fun v s1 h1 => thn h1 fun itv s2 h2 => ?_) hs
  obtain ⟨it, fp, tn, J, H2, e, I2, T, st2, f2, W, ⟨m0, w0⟩, turn⟩ := h2
  subst e
  have stat : ∀ {H' : Hp}, (∀ b ∈ fp, H' b = none) → ∀ b ∈ fp, FpOk X pins H' b := fun hn b hb => ⟨hn b hb, (f2 b hb).2⟩
  refine codeAny_forLoop_any (fun n s' => ∃ i σ' H', Inv X pins σ' H' s' ∧ tn i s'.heap ∧ (∀ b ∈ fp, H' b = none) ∧ W i n σ' H') ?_ m0 ⟨0, σ, H2, I2, st2, fun b hb => (f2 b hb).1, w0⟩
  rintro n s3 ⟨i, σ3, H3, I3, st3, fr3, w3⟩
  rcases turn i n σ3 H3 w3 with ⟨stop, qn⟩ | ⟨go, N, hN, step⟩
  · refine wpAny_passesOwn hp (thn (T.done X rfl rfl rfl hc i pins s3 σ3 H3 X.xe I3 (stat fr3) st3 stop) fun r s4 zq => ?_)
    obtain ⟨hr, I4⟩ := zq
    subst hr
    exact wpAny_execs_nil ⟨σ3, H3, I4, qn⟩
  · refine wpAny_passesOwn hp (thn (T.item X rfl rfl rfl hc i pins s3 σ3 H3 X.xe I3 (stat fr3) st3 go) fun r s4 zq => ?_)
    obtain ⟨u, hr, h4⟩ := zq
    subst hr
    refine wpAny_passesOwn hp (thn h4 fun _ s5 zq => ?_)
    obtain ⟨x, H5, I5, r5, y5, st5, fr5⟩ := zq
    have I5' := I5.pinned (stat fr5) (T.obj _ _ st5)
    refine wpAny_passesOwn hp (thn (hg _ s5 σ3 H5 x u _ I5' r5 (step x H5 y5)) fun _ s6 zq => ?_)
    obtain ⟨σ6, H6, I6, q6⟩ := zq
    refine wpAny_passesOwn hp (thn (hb _ s6 σ6 H6 _ I6 q6) fun f s7 q7 => ?_)
    have again : ∀ {σ7 : St} {H7 : Hp}, Inv X (pins ++ pinsAt fp s5.heap) σ7 H7 s7 → N σ7 H7 → ∃ m, m < n ∧ ∃ i σ' H', Inv X pins σ' H' s7 ∧ tn i s7.heap ∧ (∀ b ∈ fp, H' b = none) ∧ W i m σ' H' := fun {σ7 H7} I7 n7 => by
      obtain ⟨m', hm, w7⟩ := hN σ7 H7 n7
      refine ⟨m', hm, i + 1, σ7, H7, I7.unpinned, T.keep _ _ _ st5 fun b hb o e => (I7.pin (b, o) (List.mem_append_right _ (List.mem_append_right _ (mem_pinsAt hb e)))).1, fun b hb => ?_, w7⟩
      obtain ⟨o, e, d⟩ := T.obj _ _ st5 b hb
      exact (I7.pin (b, o) (List.mem_append_right _ (List.mem_append_right _ (mem_pinsAt hb e)))).2.1
    cases f with
    | next => obtain ⟨σ7, H7, I7, n7⟩ := q7; exact again I7 n7
    | cont => obtain ⟨σ7, H7, I7, n7⟩ := q7; exact again I7 n7
    | brk => obtain ⟨σ7, H7, I7, q7⟩ := q7; exact ⟨σ7, H7, I7.unpinned, q7⟩
    | ret v => obtain ⟨x7, σ7, H7, I7, r7, q7⟩ := q7; exact ⟨x7, σ7, H7, I7.unpinned, r7, q7⟩
end
theorem for_list {K : PySem.W.Frag} {a : Addr} {xs : List V} {g : TG} {tb : TS} {D : Ends} {σ : St} {H : Hp} (Pv : Nat → St → Hp → Prop) (h0 : Pv 0 σ H) (hl : ∀ i σ H, i ≤ xs.length → Pv i σ H → SqL K H a xs)
    (hs : ∀ i x σ H, xs[i]? = some x → Pv i σ H → g x σ H fun σ2 H2 => tb { D with nx := Pv (i + 1), ct := Pv (i + 1), bk := D.nx } σ2 H2) (hd : ∀ σ H, Pv xs.length σ H → D.nx σ H) :
    ∃ W : Nat → Nat → St → Hp → Prop, (∃ m, W 0 m σ H) ∧ ∀ i m σ H, W i m σ H →
      ((Itl K a).stop i H ∧ D.nx σ H) ∨ ((Itl K a).go i H ∧ ∃ N : St → Hp → Prop, (∀ σ' H', N σ' H' → ∃ m', m' < m ∧ W (i + 1) m' σ' H') ∧ ∀ x H', (Itl K a).yld i H x H' → g x σ H' fun σ2 H2 => tb { D with nx := N, ct := N, bk := D.nx } σ2 H2) := by
  refine ⟨fun i m σ H => m = xs.length - i ∧ i ≤ xs.length ∧ Pv i σ H, ⟨xs.length, by simp, Nat.zero_le _, h0⟩, ?_⟩
  rintro i m σ H ⟨rfl, hi, p⟩
  have q := hl i σ H hi p
  by_cases hlt : i < xs.length
  · refine .inr ⟨⟨xs, xs[i], q, by simp [hlt]⟩, Pv (i + 1), fun σ' H' p' => ⟨xs.length - (i + 1), by lia, rfl, hlt, p'⟩, fun x H' y => ?_⟩
    obtain ⟨e, y⟩ := y
    subst e
    exact hs i x σ _ (y xs q) p
  · have e : i = xs.length := by lia
    subst e
    exact .inl ⟨⟨xs, q, Nat.le_refl _⟩, hd σ H p⟩
theorem for_range {lo : Int} {n : Nat} {g : TG} {tb : TS} {D : Ends} {σ : St} {H : Hp} (Pv : Nat → St → Hp → Prop) (h0 : Pv 0 σ H)
    (hs : ∀ i σ H, i < n → Pv i σ H → g (.int (lo + i)) σ H fun σ2 H2 => tb { D with nx := Pv (i + 1), ct := Pv (i + 1), bk := D.nx } σ2 H2) (hd : ∀ σ H, Pv n σ H → D.nx σ H) :
    ∃ W : Nat → Nat → St → Hp → Prop, (∃ m, W 0 m σ H) ∧ ∀ i m σ H, W i m σ H →
      ((Itr lo n).stop i H ∧ D.nx σ H) ∨ ((Itr lo n).go i H ∧ ∃ N : St → Hp → Prop, (∀ σ' H', N σ' H' → ∃ m', m' < m ∧ W (i + 1) m' σ' H') ∧ ∀ x H', (Itr lo n).yld i H x H' → g x σ H' fun σ2 H2 => tb { D with nx := N, ct := N, bk := D.nx } σ2 H2) := by
  refine ⟨fun i m σ H => m = n - i ∧ i ≤ n ∧ Pv i σ H, ⟨n, by simp, Nat.zero_le _, h0⟩, ?_⟩
  rintro i m σ H ⟨rfl, hi, p⟩
  by_cases hlt : i < n
  · refine .inr ⟨hlt, Pv (i + 1), fun σ' H' p' => ⟨n - (i + 1), by lia, rfl, hlt, p'⟩, fun x H' y => ?_⟩
    obtain ⟨e, y⟩ := y
    subst e y
    exact hs i σ _ hlt p
  · have e : i = n := by lia
    subst e
    exact .inl ⟨Nat.le_refl _, hd σ H p⟩
end L2
namespace L2
open PySem PySem.Spec PyProof.Rows
abbrev R2 := V → V → Hp → VK → Prop
noncomputable def OpR (X : Cx) (f : Value → Value → Sem Value) (r : R2) : Prop :=
  ∀ (pins : List (Addr × Obj)) (s : Shared) (σ : St) (H : Hp) (x y : V) (v u : Value) (Q : VK), Inv X pins σ H s → RelV x v → RelV y u → r x y H Q →
    wpAny (model X.prog X.w) X.A (f v u) (EP X pins σ Q) X.xe s
noncomputable def CallR (X : Cx) (f : Value) (r : List V → Hp → VK → Prop) : Prop :=
  ∀ (pins : List (Addr × Obj)) (s : Shared) (σ : St) (H : Hp) (xs : List V) (us : List Value) (Q : VK), Inv X pins σ H s → Vals xs us → r xs H Q →
    wpAny (model X.prog X.w) X.A (call f us) (EP X pins σ Q) X.xe s
noncomputable def TruR (X : Cx) (r : V → Hp → (Bool → Hp → Prop) → Prop) : Prop :=
  ∀ (pins : List (Addr × Obj)) (s : Shared) (σ : St) (H : Hp) (x : V) (v : Value) (Q : Bool → Hp → Prop), Inv X pins σ H s → RelV x v → r x H Q →
    wpAny (model X.prog X.w) X.A (truthy v) (TP X pins σ Q) X.xe s
noncomputable def tOp (r : R2) (ta tb : TE) : TE := fun σ H Q => ta σ H fun x H1 => tb σ H1 fun y H2 => r x y H2 Q
inductive rIS (C : Int → Int → Prop) (g : Int → Int → V) (x y : V) (H : Hp) (Q : VK) : Prop
  | mk (i j : Int) (h0 : x = .int i) (h1 : y = .int j) (h2 : C i j) (h3 : Q (g i j) H) : rIS C g x y H Q
noncomputable def rI (C : Int → Int → Prop) (g : Int → Int → V) : R2 := fun x y H Q => rIS C g x y H Q
inductive rI0S (g : Int → Int → V) (x y : V) (H : Hp) (Q : VK) : Prop
  | mk (i j : Int) (h0 : x = .int i) (h1 : y = .int j) (h2 : Q (g i j) H) : rI0S g x y H Q
noncomputable def rI0 (g : Int → Int → V) : R2 := fun x y H Q => rI0S g x y H Q
section
variable {X : Cx} {a b c : Expr} {ta tb tc : TE} {pos : Pos}
theorem binT (ha : PE X a ta) (hb : PE X b tb) {pins : List (Addr × Obj)} {s : Shared} {σ : St} {H : Hp} {R : V → V → Hp → Prop} (I : Inv X pins σ H s)
    (h : ta σ H fun x H1 => tb σ H1 fun y H2 => R x y H2) {Q : Value → Shared → Prop} {f : Value → Value → Sem Value}
    (hf : ∀ v u s2 x y H2, Inv X pins σ H2 s2 → RelV x v → RelV y u → R x y H2 → wpAny (model X.prog X.w) X.A (f v u) Q X.xe s2) :
    wpAny (model X.prog X.w) X.A (eval a X.env) (fun v s₁ => wpAny (model X.prog X.w) X.A (eval b X.env) (fun u s₂ => wpAny (model X.prog X.w) X.A (f v u) Q X.xe s₂) X.xe s₁) X.xe s := by
  refine thn (ha pins s σ H _ I h) fun v s1 zq => ?_
  obtain ⟨x, H1, I1, r1, q1⟩ := zq
  refine thn (hb pins s1 σ H1 _ I1 q1) fun u s2 zq => ?_
  obtain ⟨y, H2, I2, r2, q2⟩ := zq
  exact hf v u s2 x y H2 I2 r1 r2 q2
theorem pe_op {op : Operator} {r : R2} (ho : OpR X (binaryOp op) r) (ha : PE X a ta) (hb : PE X b tb) : PE X (.BinOp a op b pos) (tOp r ta tb) := by
  intro pins s σ H Q I h
  exact wpAny_BinOp (binT ha hb I h fun v u s2 x y H2 I2 rx ry q => ho pins s2 σ H2 x y v u Q I2 rx ry q)
theorem opI {f : Value → Value → Sem Value} {C : Int → Int → Prop} {g : Int → Int → Int}
    (rule : ∀ (i j : Int) (t u : Tok) (s : Shared) (Q : Value → Shared → Prop) (E : Value → Shared → Prop), C i j → Q (.int (g i j) s.toks) { s with toks := s.toks + 1 } → wpAny (model X.prog X.w) X.A (f (.int i t) (.int j u)) Q E s) :
    OpR X f (rI C fun i j => .int (g i j)) := by
  intro pins s σ H x y v u Q I rx ry h
  obtain ⟨i, j, rfl, rfl, hc, q⟩ := h
  obtain ⟨t, rfl⟩ := rx
  obtain ⟨t', rfl⟩ := ry
  exact rule i j t t' s _ _ hc ⟨.int (g i j), H, I.tok _, ⟨_, rfl⟩, q⟩
theorem opI0 {f : Value → Value → Sem Value} {g : Int → Int → Int}
    (rule : ∀ (i j : Int) (t u : Tok) (s : Shared) (Q : Value → Shared → Prop) (E : Value → Shared → Prop), Q (.int (g i j) s.toks) { s with toks := s.toks + 1 } → wpAny (model X.prog X.w) X.A (f (.int i t) (.int j u)) Q E s) :
    OpR X f (rI0 fun i j => .int (g i j)) := by
  intro pins s σ H x y v u Q I rx ry h
  obtain ⟨i, j, rfl, rfl, q⟩ := h
  obtain ⟨t, rfl⟩ := rx
  obtain ⟨t', rfl⟩ := ry
  exact rule i j t t' s _ _ ⟨.int (g i j), H, I.tok _, ⟨_, rfl⟩, q⟩
theorem opB0 {f : Value → Value → Sem Value} {g : Int → Int → Bool}
    (rule : ∀ (i j : Int) (t u : Tok) (s : Shared) (Q : Value → Shared → Prop) (E : Value → Shared → Prop), Q (.bool (g i j)) s → wpAny (model X.prog X.w) X.A (f (.int i t) (.int j u)) Q E s) :
    OpR X f (rI0 fun i j => .bl (g i j)) := by
  intro pins s σ H x y v u Q I rx ry h
  obtain ⟨i, j, rfl, rfl, q⟩ := h
  obtain ⟨t, rfl⟩ := rx
  obtain ⟨t', rfl⟩ := ry
  exact rule i j t t' s _ _ ⟨.bl (g i j), H, I, rfl, q⟩
noncomputable def CDiv (i j : Int) : Prop := 0 < j ∧ j < 1073741824
noncomputable def CMul (i j : Int) : Prop := (-(2 ^ 64) < i ∧ i < 2 ^ 64) ∨ (-(2 ^ 64) < j ∧ j < 2 ^ 64)
theorem CMul.ok {i j : Int} (h : CMul i j) : IntMulOk i j := by
  rcases h with ⟨h1, h2⟩ | ⟨h1, h2⟩
  · exact .of_left (intBits_le_64 h1 h2)
  · exact .of_right (intBits_le_64 h1 h2)
theorem op_add : OpR X (binaryOp .Add) (rI0 fun i j => .int (i + j)) := opI0 fun _ _ _ _ _ _ _ q => add_int q
theorem op_sub : OpR X (binaryOp .Sub) (rI0 fun i j => .int (i - j)) := opI0 fun _ _ _ _ _ _ _ q => sub_int q
theorem op_mul : OpR X (binaryOp .Mult) (rI CMul fun i j => .int (i * j)) := opI fun _ _ _ _ _ _ _ hc q => mul_int q hc.ok
theorem op_fdiv : OpR X (binaryOp .FloorDiv) (rI CDiv fun i j => .int (i / j)) := opI fun i j _ _ _ _ _ hc q => by
  have h1 : (0 : Int) < j := hc.1
  have h2 : j < 1073741824 := hc.2
  exact floordiv_int (by lia) (by rw [Int.fdiv_eq_ediv_of_nonneg i (by lia)]; exact q) (.inl (PyProof.noPylong_small (by lia)))
theorem op_mod : OpR X (binaryOp .Mod) (rI (fun _ j => 0 < j) fun i j => .int (i % j)) := opI fun i j _ _ _ _ _ hc q => by
  have h1 : (0 : Int) < j := hc
  exact mod_int' (by lia) (by rw [Int.fmod_eq_emod_of_nonneg i (by lia)]; exact q)
end
noncomputable def scal : V → V → Bool
  | .non, .non => true | .non, .int _ => true | .int _, .non => true | .non, .bl _ => true | .bl _, .non => true | .non, .str _ => true | .str _, .non => true
  | .int _, .int _ => true | .bl _, .bl _ => true | .str _, .str _ => true | .byt _, .byt _ => true
  | .int _, .str _ => true | .str _, .int _ => true | .bl _, .str _ => true | .str _, .bl _ => true
  | _, _ => false
noncomputable def rEq : R2 := fun x y H Q => scal x y = true ∧ Q (.bl (decide (x = y))) H
noncomputable def rNe : R2 := fun x y H Q => scal x y = true ∧ Q (.bl (!decide (x = y))) H
theorem dec_int {i j : Int} : decide (V.int i = V.int j) = (i == j) := by
  rw [Bool.eq_iff_iff]
  simp
theorem dec_bl {i j : Bool} : decide (V.bl i = V.bl j) = (i == j) := by
  rw [Bool.eq_iff_iff]
  simp
theorem dec_str {i j : Str} : decide (V.str i = V.str j) = (i == j) := by
  rw [Bool.eq_iff_iff]
  simp
theorem dec_byt {i j : Array UInt8} : decide (V.byt i = V.byt j) = (i.toList == j.toList) := by
  rw [Bool.eq_iff_iff]
  cases i
  cases j
  simp
section
variable {X : Cx} {a b c : Expr} {ta tb tc : TE} {pos : Pos}
theorem fin_bl {pins : List (Addr × Obj)} {σ : St} {H : Hp} {s : Shared} {Q : VK} {k k' : Bool} (I : Inv X pins σ H s) (q : Q (.bl k) H) (e : k = k') : EP X pins σ Q (.bool k') s := by
  subst e
  exact ⟨.bl k, H, I, rfl, q⟩
theorem op_eq : OpR X (compareOp .Eq) rEq := by
  intro pins s σ H x y v u Q I rx ry h
  obtain ⟨hs, q⟩ := h
  cases x with
  | non =>
    cases rx
    cases y with
    | non => cases ry; exact PySem.EqNone.eq_none_none (fin_bl I q (by simp))
    | bl j => cases ry; exact PySem.EqNone.eq_none_bool (fin_bl I q (by simp))
    | int j => obtain ⟨t', rfl⟩ := ry; exact PySem.EqNone.eq_none_int (fin_bl I q (by simp))
    | str j => obtain ⟨t', rfl⟩ := ry; exact PySem.EqNone.eq_none_str (fin_bl I q (by simp))
    | _ => exact absurd (show false = true from hs) Bool.false_ne_true
  | bl i =>
    cases rx
    cases y with
    | non => cases ry; exact PySem.EqNone.eq_bool_none (fin_bl I q (by simp))
    | bl j => cases ry; exact eq_bool (fin_bl I q dec_bl)
    | str j => obtain ⟨t', rfl⟩ := ry; exact PySem.EqMixed.eq_bool_str (fin_bl I q (by simp))
    | _ => exact absurd (show false = true from hs) Bool.false_ne_true
  | int i =>
    obtain ⟨t, rfl⟩ := rx
    cases y with
    | non => cases ry; exact PySem.EqNone.eq_int_none (fin_bl I q (by simp))
    | int j => obtain ⟨t', rfl⟩ := ry; exact eq_int (fin_bl I q dec_int)
    | str j => obtain ⟨t', rfl⟩ := ry; exact PySem.EqMixed.eq_int_str (fin_bl I q (by simp))
    | _ => exact absurd (show false = true from hs) Bool.false_ne_true
  | str i =>
    obtain ⟨t, rfl⟩ := rx
    cases y with
    | non => cases ry; exact PySem.EqNone.eq_str_none (fin_bl I q (by simp))
    | bl j => cases ry; exact PySem.EqMixed.eq_str_bool (fin_bl I q (by simp))
    | int j => obtain ⟨t', rfl⟩ := ry; exact PySem.EqMixed.eq_str_int (fin_bl I q (by simp))
    | str j => obtain ⟨t', rfl⟩ := ry; exact eq_str (fin_bl I q dec_str)
    | _ => exact absurd (show false = true from hs) Bool.false_ne_true
  | byt i =>
    obtain ⟨t, rfl⟩ := rx
    cases y with
    | byt j => obtain ⟨t', rfl⟩ := ry; exact PySem.W.eq_bytes (fin_bl I q dec_byt)
    | _ => exact absurd (show false = true from hs) Bool.false_ne_true
  | _ => cases y <;> exact absurd (show false = true from hs) Bool.false_ne_true
theorem op_ne : OpR X (compareOp .NotEq) rNe := by
  intro pins s σ H x y v u Q I rx ry h
  obtain ⟨hs, q⟩ := h
  cases x with
  | non =>
    cases rx
    cases y with
    | non => cases ry; exact PySem.EqNone.ne_none_none (fin_bl I q (by simp))
    | bl j => cases ry; exact PySem.EqNone.ne_none_bool (fin_bl I q (by simp))
    | int j => obtain ⟨t', rfl⟩ := ry; exact PySem.EqNone.ne_none_int (fin_bl I q (by simp))
    | str j => obtain ⟨t', rfl⟩ := ry; exact PySem.EqNone.ne_none_str (fin_bl I q (by simp))
    | _ => exact absurd (show false = true from hs) Bool.false_ne_true
  | bl i =>
    cases rx
    cases y with
    | non => cases ry; exact PySem.EqNone.ne_bool_none (fin_bl I q (by simp))
    | bl j => cases ry; exact ne_bool (fin_bl I q (congrArg not dec_bl))
    | str j => obtain ⟨t', rfl⟩ := ry; exact PySem.EqMixed.ne_bool_str (fin_bl I q (by simp))
    | _ => exact absurd (show false = true from hs) Bool.false_ne_true
  | int i =>
    obtain ⟨t, rfl⟩ := rx
    cases y with
    | non => cases ry; exact PySem.EqNone.ne_int_none (fin_bl I q (by simp))
    | int j => obtain ⟨t', rfl⟩ := ry; exact ne_int (fin_bl I q (congrArg not dec_int))
    | str j => obtain ⟨t', rfl⟩ := ry; exact PySem.EqMixed.ne_int_str (fin_bl I q (by simp))
    | _ => exact absurd (show false = true from hs) Bool.false_ne_true
  | str i =>
    obtain ⟨t, rfl⟩ := rx
    cases y with
    | non => cases ry; exact PySem.EqNone.ne_str_none (fin_bl I q (by simp))
    | bl j => cases ry; exact PySem.EqMixed.ne_str_bool (fin_bl I q (by simp))
    | int j => obtain ⟨t', rfl⟩ := ry; exact PySem.EqMixed.ne_str_int (fin_bl I q (by simp))
    | str j => obtain ⟨t', rfl⟩ := ry; exact ne_str (fin_bl I q (congrArg not dec_str))
    | _ => exact absurd (show false = true from hs) Bool.false_ne_true
  | byt i =>
    obtain ⟨t, rfl⟩ := rx
    cases y with
    | byt j => obtain ⟨t', rfl⟩ := ry; exact PySem.W.ne_bytes (fin_bl I q (congrArg not dec_byt))
    | _ => exact absurd (show false = true from hs) Bool.false_ne_true
  | _ => cases y <;> exact absurd (show false = true from hs) Bool.false_ne_true
theorem op_lt : OpR X (compareOp .Lt) (rI0 fun i j => .bl (decide (i < j))) := opB0 fun _ _ _ _ _ _ _ q => lt_int q
theorem op_le : OpR X (compareOp .LtE) (rI0 fun i j => .bl (decide (i ≤ j))) := opB0 fun _ _ _ _ _ _ _ q => le_int q
theorem op_gt : OpR X (compareOp .Gt) (rI0 fun i j => .bl (decide (j < i))) := opB0 fun _ _ _ _ _ _ _ q => gt_int q
theorem op_in_str : OpR X (compareOp .In) (fun x y H Q => ∃ i j, x = .str i ∧ y = .str j ∧ Q (.bl (!(Builtin.Str.occurrences j i 0 j.length 1).isEmpty)) H) := by
  intro pins s σ H x y v u Q I rx ry h
  obtain ⟨i, j, rfl, rfl, q⟩ := h
  obtain ⟨t, rfl⟩ := rx
  obtain ⟨t', rfl⟩ := ry
  exact in_str (fin_bl I q rfl)
theorem op_isN : OpR X (compareOp .Is) (fun x y H Q => y = .non ∧ Q (.bl (decide (x = .non))) H) := by
  intro pins s σ H x y v u Q I rx ry h
  obtain ⟨rfl, q⟩ := h
  cases ry
  refine is_none_gen (fin_bl I q ?_)
  cases x <;> first
    | (cases rx; rfl)
    | (obtain ⟨t, rfl⟩ := rx; rfl)
theorem op_notN : OpR X (compareOp .IsNot) (fun x y H Q => y = .non ∧ Q (.bl (!decide (x = .non))) H) := by
  intro pins s σ H x y v u Q I rx ry h
  obtain ⟨rfl, q⟩ := h
  cases ry
  refine isnot_none_gen (fin_bl I q ?_)
  cases x <;> first
    | (cases rx; rfl)
    | (obtain ⟨t, rfl⟩ := rx; rfl)
theorem nomark (b : Expr) {op : CmpOp} (h : op ≠ .In := by decide) (h2 : op ≠ .NotIn := by decide) : behindInMarks op b = false := by
  have e1 : (op == CmpOp.In) = false := by cases op <;> first | rfl | exact absurd rfl h
  have e2 : (op == CmpOp.NotIn) = false := by cases op <;> first | rfl | exact absurd rfl h2
  cases b <;> simp [behindInMarks, e1, e2]
theorem pe_cmpR {op : CmpOp} {r : R2} (ho : OpR X (compareOp op) r) (ha : PE X a ta) (hb : PE X b tb) (hm : behindInMarks op b = false) : PE X (.Compare a [op] [b] pos) (tOp r ta tb) := by
  intro pins s σ H Q I h
  exact wpAny_Compare1 (binT ha hb I h fun v u s2 x y H2 I2 rx ry q => ho pins s2 σ H2 x y v u Q I2 rx ry q) hm
inductive tTestS (x : V) (H' : Hp) (Q : Bool → Hp → Prop) : Prop
  | mk (k : Bool) (h0 : x = .bl k) (h1 : Q k H') : tTestS x H' Q
noncomputable def tTest (t : TE) : TT := fun σ H Q => t σ H fun x H' => tTestS x H' Q
theorem pt_cmpR {op : CmpOp} {r : R2} (ho : OpR X (compareOp op) r) (ha : PE X a ta) (hb : PE X b tb) (hm : behindInMarks op b = false) : PT X (.Compare a [op] [b] pos) (tTest (tOp r ta tb)) := by
  intro pins s σ H Q I h
  refine wpAny_isTrue_Compare1 (thn (ha pins s σ H _ I h) fun v s1 ⟨x, H1, I1, r1, q1⟩ => thn (hb pins s1 σ H1 _ I1 q1) fun u s2 ⟨y, H2, I2, r2, q2⟩ =>
    thn (ho pins s2 σ H2 x y v u _ I2 r1 r2 q2) fun c s3 ⟨z, H3, I3, r3, k, e, q3⟩ => ?_) hm
  subst e
  cases r3
  exact wpAny_truthy_bool ⟨H3, I3, q3⟩
noncomputable def TruV (K : PySem.W.Frag) (x : V) (H : Hp) (k : Bool) : Prop :=
  match x with
  | .non => k = false
  | .bl b => k = b
  | .int i => k = (i != 0)
  | .str y => y.length ≤ sizeLine ∧ k = ((y.length : Int) != 0)
  | .byt y => y.size ≤ sizeLine ∧ k = ((y.size : Int) != 0)
  | .ref p => (∃ xs, SqL K H p xs ∧ k = !xs.isEmpty) ∨ (∃ xs, SqT K H p xs ∧ k = !xs.isEmpty) ∨ ∃ kvs, H p = some (.dK kvs) ∧ k = !kvs.isEmpty
  | _ => False
theorem isEmpty_kv {κ : Type} {kvs : List (κ × V)} {vs : List (κ × Value)} (r : KV kvs vs) : (!vs.isEmpty) = !kvs.isEmpty := by
  cases r <;> rfl
theorem isEmpty_of {xs : List V} {its : List Value} (r : Vals xs its) : (!its.toArray.isEmpty) = !xs.isEmpty := by
  cases r <;> simp
theorem line63 : (sizeLine : Nat) < 2 ^ 63 := by rw [sizeLine_eq]; decide
theorem tru_ok : TruR X (fun x H Q => ∃ k, TruV X.K x H k ∧ Q k H) := by
  intro pins s σ H x v Q I rx h
  obtain ⟨k, e, q⟩ := h
  have hl := line63
  have hs : sizeLine = 16777216 := sizeLine_eq
  cases x with
  | non =>
    cases rx
    have e' : k = false := e
    subst e'
    exact truthy_none ⟨H, I, q⟩
  | bl b =>
    cases rx
    have e' : k = b := e
    subst e'
    exact wpAny_truthy_bool ⟨H, I, q⟩
  | int i =>
    obtain ⟨t, rfl⟩ := rx
    have e' : k = (i != 0) := e
    subst e'
    exact PySem.P.truthy_int ⟨H, I, q⟩
  | str y =>
    obtain ⟨t, rfl⟩ := rx
    obtain ⟨hy, e'⟩ : y.length ≤ sizeLine ∧ k = ((y.length : Int) != 0) := e
    subst e'
    exact PySem.P.truthy_str (by lia) ⟨H, I.tok _, q⟩
  | byt y =>
    obtain ⟨t, rfl⟩ := rx
    obtain ⟨hy, e'⟩ : y.size ≤ sizeLine ∧ k = ((y.size : Int) != 0) := e
    subst e'
    exact PySem.W.truthy_bytes (by lia) ⟨H, I.tok _, q⟩
  | ref p =>
    cases rx
    have e' : (∃ xs, SqL X.K H p xs ∧ k = !xs.isEmpty) ∨ (∃ xs, SqT X.K H p xs ∧ k = !xs.isEmpty) ∨ ∃ kvs, H p = some (.dK kvs) ∧ k = !kvs.isEmpty := e
    rcases e' with ⟨xs, hx, e'⟩ | ⟨xs, hx, e'⟩ | ⟨kvs, hx, e'⟩
    · subst e'
      obtain ⟨its, r, pl, hz⟩ := I.list hx
      have hlen := r.length
      exact wpAny_truthy_list pl.isList (by simp only [List.size_toArray]; lia) ⟨H, I.tok _, by rw [isEmpty_of r]; exact q⟩
    · subst e'
      obtain ⟨its, r, pl, hz⟩ := I.tuple hx
      have hlen := r.length
      exact truthy_tuple pl (by simp only [List.size_toArray]; lia) ⟨H, I.tok _, by rw [isEmpty_of r]; exact q⟩
    · subst e'
      obtain ⟨hz, hS, vs, r, m⟩ : kvs.length ≤ sizeLine ∧ (p == sysModules) = false ∧ ∃ vs, KV kvs vs ∧ s.heap.DictOf (mixKind X.prog X.w) p vs := I.hok p _ hx
      have hlen : kvs.length = vs.length := Paired.length r
      exact wpAny_truthy_dict hS m (by lia) ⟨H, I.tok _, by rw [isEmpty_kv r]; exact q⟩
  | _ => exact (show False from e).elim
theorem pt_truth (ha : PE X a ta) (he : ∀ whole, isTrue a X.env whole = (do let v ← whole; standAt a.pos; holding [v] (truthy v))) :
    PT X a (fun σ H Q => ta σ H fun x H' => ∃ k, TruV X.K x H' k ∧ Q k H') := by
  intro pins s σ H Q I h
  exact isTrue_plain (thn (ha pins s σ H _ I h) fun v s1 ⟨x, H1, I1, r1, q1⟩ => tru_ok pins s1 σ H1 x v Q I1 r1 q1) (he _)
theorem op_add_str : OpR X (binaryOp .Add) (fun x y H Q => ∃ i j, x = .str i ∧ y = .str j ∧ i.length + j.length ≤ sizeLine ∧ Q (.str (i ++ j)) H) := by
  intro pins s σ H x y v u Q I rx ry h
  obtain ⟨i, j, rfl, rfl, hz, q⟩ := h
  obtain ⟨t, rfl⟩ := rx
  obtain ⟨t', rfl⟩ := ry
  exact add_str (fun t' tk => ⟨.str (i ++ j), H, I.tok _, ⟨_, rfl⟩, q⟩) hz
theorem vals1 {x : V} {us : List Value} (r : Vals [x] us) : ∃ u, us = [u] ∧ RelV x u := by
  cases r with
  | cons r1 r2 => cases r2; exact ⟨_, rfl, r1⟩
theorem call_str_int : CallR X (.type "str") (fun xs H Q => ∃ i, xs = [.int i] ∧ i.natAbs.log2 < 1920 ∧ Q (.str (toString i)) H) := by
  intro pins s σ H xs us Q I r h
  obtain ⟨i, rfl, hz, q⟩ := h
  obtain ⟨u, rfl, t, rfl⟩ := vals1 r
  exact PySem.P.str_of_int hz ⟨.str _, H, I.tok _, ⟨_, rfl⟩, q⟩
end
end L2
namespace L2
open PySem PySem.Spec PyProof.Rows
section
variable {prog : Program} {w : World} {A : Around} {E : Value → Shared → Prop} {s : Shared} {K : PySem.W.Frag} {x dx C f : Addr} {mA : Str → Option Value} {name : Str} {v : Value}
end
section
variable {P : Program} {w : World} {H H' : Hp} {h h' : Heap} {a C dx : Addr} {fs fs' : List (Str × V)}
end
structure Con (K : PySem.W.Frag) (C : Addr) (f : Str) (v : V) (u : Value) : Prop where
  at_ : PySem.W.findIn K (.ref C) f = some (some u)
  rel : RelV v u
  get : PySem.W.specialIn K u "__get__" = some none
  cp : PySem.W.copiedNames.contains f = false
section
variable {X : Cx} {pins : List (Addr × Obj)} {σ : St} {H : Hp} {s : Shared} {a C dx : Addr} {fs : List (Str × V)} {f : Str} {v : V} {A : Around} {E : Value → Shared → Prop}
end
section
variable {X : Cx} {o e value : Expr} {f : Str} {pos pos' tpos : Pos} {ta tv : TE}
end
section
variable {X : Cx} {pins : List (Addr × Obj)} {σ : St} {H : Hp} {s : Shared} {A : Around} {E : Value → Shared → Prop} {Q : Value → Shared → Prop} {c : Value} {b : Bool}
end
end L2
namespace L2
open PySem PySem.Spec PyProof.Rows
structure Room (k : Nat) (A : Around) : Prop where
  hd : A.handled = none
  dp : A.depth + 3 * k + 5 < recursionLimit
  un : A.units + 16 * k + 200 < cLine
theorem Room.mono {j k : Nat} {A : Around} (r : Room k A) (h : j ≤ k) : Room j A := ⟨r.hd, by have := r.dp; lia, by have := r.un; lia⟩
theorem Room.deeper {k : Nat} {A : Around} (r : Room (k + 1) A) (env : Env) : Room k (A.deeper env) :=
  ⟨r.hd, by have := r.dp; show A.depth + 1 + 3 * k + 5 < _; lia, by have := r.un; show A.units + 3 + 16 * k + 200 < _; lia⟩
theorem Room.depth {k : Nat} {A : Around} (r : Room k A) : A.depth < recursionLimit := by have := r.dp; lia
theorem Room.units {k : Nat} {A : Around} (r : Room k A) : A.units + 64 < cLine := by have := r.un; lia
noncomputable def tNil : TA := fun _ H Q => Q [] H
noncomputable def tCons (ta : TE) (tr : TA) : TA := fun σ H Q => ta σ H fun x H1 => tr σ H1 fun xs H2 => Q (x :: xs) H2
section
variable {X : Cx} {e : Expr} {es : List Expr} {te : TE} {t : TA} {pos : Pos}
theorem pa_nil : PA X [] tNil := fun _ _ _ _ H Q I h => Calls.spliced_nil ⟨[], H, I, .nil, h⟩
theorem pa_cons (ha : PE X e te) (hr : PA X es t) (hs : starEach (e :: es) X.env = (false, eval e X.env) :: starEach es X.env := by rfl) : PA X (e :: es) (tCons te t) := by
  intro pos pins s σ H Q I h
  rw [hs]
  show wpAny _ _ (spliced ((false, eval e X.env) :: backTo pos (starEach es X.env))) _ _ s
  refine Calls.spliced_cons (thn (ha pins s σ H _ I h) fun u s1 zq => ?_)
  obtain ⟨x, H1, I1, r1, q1⟩ := zq
  exact thn (hr pos pins s1 σ H1 _ I1 q1) fun us s2 ⟨xs, H2, I2, r2, q2⟩ => ⟨x :: xs, H2, I2, .cons r1 r2, q2⟩
noncomputable def tTup (t : TA) : TE := fun σ H Q => t σ H fun xs H1 => xs.length ≤ sizeLine ∧ ∀ p, H1 p = none → Q (.ref p) (upd H1 p (.tup xs))
noncomputable def tLst (t : TA) : TE := fun σ H Q => t σ H fun xs H1 => xs.length ≤ sizeLine ∧ ∀ p, H1 p = none → Q (.ref p) (upd H1 p (.lst xs))
theorem pe_tup {x1} (h : PA X es t) : PE X (.Tuple es x1 pos) (tTup t) := by
  intro pins s σ H Q I hq
  refine wpAny_Tuple_spliced (thn (h pos pins s σ H _ I hq) fun us s1 ⟨xs, H1, I1, r, z, q⟩ => ⟨by rw [← r.length]; exact z, ?_⟩)
  have hf : H1 s1.heap.objs.size = none := I1.hok.fresh (Nat.le_refl _)
  refine ⟨.ref s1.heap.objs.size, upd H1 s1.heap.objs.size (.tup xs), I1.laid (t' := s1.toks) (fun b u e => Heap.get?_push_of_some _ e) (Nat.le_refl _) ?_, rfl, q _ hf⟩
  exact ⟨z, us, r, ⟨_, Heap.get?_push_size _ rfl, rfl, _, rfl⟩⟩
theorem pe_lst (h : PA X es t) : PE X (.List es pos) (tLst t) := by
  intro pins s σ H Q I hq
  refine wpAny_List_spliced (thn (h pos pins s σ H _ I hq) fun us s1 ⟨xs, H1, I1, r, z, q⟩ => ⟨by rw [← r.length]; exact z, ?_⟩)
  have hf : H1 s1.heap.objs.size = none := I1.hok.fresh (Nat.le_refl _)
  refine ⟨.ref s1.heap.objs.size, upd H1 s1.heap.objs.size (.lst xs), I1.laid (t' := s1.toks) (fun b u e => Heap.get?_push_of_some _ e) (Nat.le_refl _) ?_, rfl, q _ hf⟩
  exact ⟨z, us, 0, r, Heap.get?_push_size _ rfl⟩
end
abbrev Sp := List V → Hp → VK → XK → Prop
abbrev CXT := List Env → Hp → Shared → XK → Value → Shared → Prop
structure Env0 (P : Program) (w : World) (K : PySem.W.Frag) (mg : Str → Option Value) (base : Heap) (A : Around) (outer : List Env) (s : Shared) (H : Hp) : Prop where
  frames : A.frames = some outer
  mod : Mod K mg base
  bs : ∀ b o, base.get? b = some o → s.heap.get? b = some o ∧ H b = none
  bsz : base.objs.size ≤ s.heap.objs.size
  funs : s.heap.FunFrames base outer
  frf : ∀ b ∈ frs outer, H b = none
  hok : HOk P w H s.heap
  bare : AllBare s.gens
noncomputable def CE (outer : List Env) (P : Program) (w : World) (H : Hp) (s : Shared) (Q : VK) (u : Value) (s' : Shared) : Prop :=
  ∃ v H', s'.os = s.os ∧ AllBare s'.gens ∧ Un (frs outer) [] H H' s.heap s'.heap ∧ HOk P w H' s'.heap ∧ RelV v u ∧ Q v H'
noncomputable def CR (CX : CXT) (outer : List Env) (P : Program) (w : World) (H : Hp) (s : Shared) (Q : VK) (E : XK) (r : Result) (s' : Shared) : Prop :=
  match r with
  | .ok (.ret u) => CE outer P w H s Q u s'
  | .ok _ => False
  | .error e => CX outer H s E e s'
structure FnOk (P : Program) (w : World) (K : PySem.W.Frag) (mg : Str → Option Value) (base : Heap) (CX : CXT) (k : Nat) (f : Addr) (fd : FuncData) (ps : List Str) (sp : Sp) : Prop where
  len : ∀ vs H Q E, sp vs H Q E → vs.length = ps.length
  run : ∀ (A : Around) (outer : List Env) (s : Shared) (H : Hp) (args : Args) (us : List Value) (vs : List V) (Q : VK) (E : XK), Room k A → Env0 P w K mg base A outer s H → BindsTo s fd args (ps.zip us) → Vals vs us → sp vs H Q E →
    codeAny (model P w) A (.call (.ref f) args) (CR CX outer P w H s Q E) s
section
variable {X : Cx} {pins : List (Addr × Obj)} {σ : St} {H : Hp} {s s' : Shared}
theorem Inv.env0 (I : Inv X pins σ H s) : Env0 X.prog X.w X.K X.mg X.base X.A X.stack s H :=
  ⟨I.ok.frames, I.ok.mod, I.bs, Nat.le_trans I.ok.bsz I.sz, I.stack, I.stkFree, I.hok, I.bare⟩
theorem Inv.after {Q : VK} {u : Value} (I : Inv X pins σ H s) (h : CE X.stack X.prog X.w H s Q u s') : EP X pins σ Q u s' := by
  obtain ⟨v, H', os, bare, un, hok, r, q⟩ := h
  obtain ⟨hh, g, d, t, os'⟩ := s'
  obtain rfl : os' = s.os := os
  exact ⟨v, H', I.call (h' := hh) (g' := g) (d' := d) (t' := t) (ch := []) un hok bare (fun b z => absurd z (by simp)), r, q⟩
end
noncomputable def tCall (sp : Sp) (dvs : List V) (E : XK) (t : TA) : TE := fun σ H Q => t σ H fun vs H1 => sp (vs ++ dvs) H1 Q E
noncomputable def Binds (K : PySem.W.Frag) (fd : FuncData) (ps : List Str) (ds : List Value) : Prop :=
  ∀ (s : Shared) (us : List Value), K.In s.heap → (us ++ ds).length = ps.length → BindsTo s fd ⟨us, []⟩ (ps.zip (us ++ ds))
theorem Binds.all {K : PySem.W.Frag} {fd : FuncData} {ps : List Str} (h : ∀ us : List Value, us.length = ps.length → bindArgs fd ⟨us, []⟩ = pure (ps.zip us)) : Binds K fd ps [] := fun s us _ hl => by
  rw [List.append_nil] at hl ⊢
  exact .of_eq (h us hl)
noncomputable def Passes (CX : CXT) (X : Cx) (E : XK) : Prop := ∀ (pins : List (Addr × Obj)) (σ : St) (H : Hp) (s : Shared) (e : Value) (s' : Shared), Inv X pins σ H s → CX X.stack H s E e s' → X.xe e s'
section
variable {X : Cx} {CX : CXT} {k : Nat} {f C : Addr} {fd : FuncData} {ps : List Str} {sp : Sp} {dvs : List V} {ds : List Value} {E : XK} {x m : Str} {p pos apos : Pos} {e o : Expr} {es : List Expr} {ta : TE} {t : TA}
theorem run_fn {pins : List (Addr × Obj)} {σ : St} {H : Hp} {s : Shared} {Q : VK} {us : List Value} {vs : List V} (F : FnOk X.prog X.w X.K X.mg X.base CX k f fd ps sp) (hr : Room k X.A) (hb : Binds X.K fd ps ds) (hd : Vals dvs ds) (hx : Passes CX X E)
    (I : Inv X pins σ H s) (r : Vals vs us) (h : sp (vs ++ dvs) H Q E) : wpAny (model X.prog X.w) X.A (call (.ref f) us) (EP X pins σ Q) X.xe s := by
  have r2 : Vals (vs ++ dvs) (us ++ ds) := r.append hd
  have hl : (us ++ ds).length = ps.length := by rw [← r2.length]; exact F.len _ _ _ _ h
  refine wpAny_call (codeAny_mono (F.run X.A X.stack s H ⟨us, []⟩ (us ++ ds) (vs ++ dvs) Q E hr I.env0 (hb s us I.kIn hl) r2 h) fun r s' hq => ?_)
  cases r with
  | error e => exact hx pins σ H s e s' I hq
  | ok fl =>
    cases fl with
    | ret u => exact I.after hq
    | next => exact False.elim hq
    | brk => exact False.elim hq
    | cont => exact False.elim hq
theorem pe_call (F : FnOk X.prog X.w X.K X.mg X.base CX k f fd ps sp) (hr : Room k X.A) (hg : Gl X x) (hm : X.mg x = some (.ref f)) (hk : PySem.W.keepIn X.K (.ref f) = true) (hb : Binds X.K fd ps ds) (hd : Vals dvs ds) (hx : Passes CX X E)
    (ha : PA X (e :: es) t) (hdb : (x == ("__debug__" : Str)) = false := by decide) (he : starEach (e :: es) X.env = (false, eval e X.env) :: starEach es X.env := by rfl) (hpl : (backTo pos (starEach es X.env)).any (·.1) = false := by rfl) :
    PE X (.Call (.Name x p) (e :: es) [] pos) (tCall sp dvs E t) := by
  intro pins s σ H Q I h
  refine wpAny_Call_Name_kw (ld_glob I hg hm ?_ hdb)
  refine PySem.W.callWith_K (h₀ := X.base) I.ok.mod.kin hk (thn (ha pos pins s σ H _ I h) fun us s1 ⟨vs, H1, I1, r, q⟩ => ⟨I1.kIn, ?_⟩) he hpl
  exact run_fn F hr hb hd hx I1 r q
end
section
variable {X : Cx} {CX : CXT} {k : Nat} {f C : Addr} {fd : FuncData} {ps ks : List Str} {sp : Sp} {E : XK} {x m : Str} {p pos apos kpos : Pos} {e o : Expr} {es : List Expr} {kws : List Keyword} {te ta : TE} {t tk : TA} {nm : Option Str}
variable {g : List Value → List Value → List Value} {gV : List V → List V → List V}
end
structure FnScope (N P : List Str) (sc : Scope) : Prop where
  kind : sc.kind = .function
  co : sc.isCoroutine = false
  gen : sc.isGenerator = false
  nd : N.Nodup
  pre : N.take P.length = P
  par : ∀ x ∈ P, sc.names.lookup x = some .local ∨ sc.names.lookup x = some .cell
  nofree : ∀ y ∈ sc.names, y.2 ≠ .free
theorem bindL_out {kindOf : Str → Option NameKind} {x : Str} : ∀ {binds : List (Str × Value)} {m : Str → Option Value}, (∀ v, (x, v) ∉ binds) → bindL kindOf binds m x = m x
  | [], _, _ => rfl
  | (n, v) :: r, m, h => by
    unfold bindL
    rw [bindL_out fun w hw => h w (List.mem_cons_of_mem _ hw)]
    split
    · have : x ≠ n := by rintro rfl; exact h v List.mem_cons_self
      simp [this]
    · rfl
theorem bindC_out {kindOf : Str → Option NameKind} {x : Str} : ∀ {binds : List (Str × Value)} {m : Str → Option Value}, (∀ v, (x, v) ∉ binds) → bindC kindOf binds m x = m x
  | [], _, _ => rfl
  | (n, v) :: r, m, h => by
    unfold bindC
    rw [bindC_out fun w hw => h w (List.mem_cons_of_mem _ hw)]
    split
    · rfl
    · have : x ≠ n := by rintro rfl; exact h v List.mem_cons_self
      simp [this]
theorem bindL_get {kindOf : Str → Option NameKind} {x : Str} {v : Value} : ∀ {P : List Str} {vs : List Value} {i : Nat} {m : Str → Option Value}, P.Nodup → P[i]? = some x → vs[i]? = some v → kindOf x = some .local →
    bindL kindOf (P.zip vs) m x = some v
  | [], _, _, _, _, h, _, _ => by simp at h
  | _ :: _, [], _, _, _, _, h, _ => by simp at h
  | p :: P, w :: vs, 0, m, nd, h1, h2, hk => by
    simp at h1 h2; subst h1; subst h2
    show bindL kindOf ((p, w) :: P.zip vs) m p = _
    unfold bindL
    rw [bindL_out fun v hv => (List.nodup_cons.mp nd).1 (List.of_mem_zip hv).1, if_pos hk]
    simp
  | p :: P, w :: vs, i + 1, m, nd, h1, h2, hk => by
    show bindL kindOf ((p, w) :: P.zip vs) m x = _
    unfold bindL
    exact bindL_get (i := i) (List.nodup_cons.mp nd).2 (by simpa using h1) (by simpa using h2) hk
theorem bindC_get {kindOf : Str → Option NameKind} {x : Str} {v : Value} : ∀ {P : List Str} {vs : List Value} {i : Nat} {m : Str → Option Value}, P.Nodup → P[i]? = some x → vs[i]? = some v → kindOf x ≠ some .local →
    bindC kindOf (P.zip vs) m x = some v
  | [], _, _, _, _, h, _, _ => by simp at h
  | _ :: _, [], _, _, _, _, h, _ => by simp at h
  | p :: P, w :: vs, 0, m, nd, h1, h2, hk => by
    simp at h1 h2; subst h1; subst h2
    show bindC kindOf ((p, w) :: P.zip vs) m p = _
    unfold bindC
    rw [bindC_out fun v hv => (List.nodup_cons.mp nd).1 (List.of_mem_zip hv).1, if_neg hk]
    simp
  | p :: P, w :: vs, i + 1, m, nd, h1, h2, hk => by
    show bindC kindOf ((p, w) :: P.zip vs) m x = _
    unfold bindC
    exact bindC_get (i := i) (List.nodup_cons.mp nd).2 (by simpa using h1) (by simpa using h2) hk
noncomputable def start (N : List Str) (vs : List V) : St := vs.map some ++ List.replicate (N.length - vs.length) none
noncomputable def cxOf (CX : CXT) (P : Program) (w : World) (K : PySem.W.Frag) (mg : Str → Option Value) (base : Heap) (N : List Str) (qual : Str) (scope : Scope) (f : Addr) (cd : Value) (A : Around) (outer : List Env) (s : Shared) (H : Hp) (E : XK) : Cx where
  prog := P
  w := w
  K := K
  mg := mg
  base := base
  A := A.deeper (envOfC qual scope s.heap.objs.size f cd)
  N := N
  s₀ := s
  H₀ := H
  env := envOfC qual scope s.heap.objs.size f cd
  outer := outer
  stack := envOfC qual scope s.heap.objs.size f cd :: outer
  ex := []
  calm := true
  fn := fun _ => true
  pn := []
  xe := fun e s' => wpAny (model P w) (A.deeper (envOfC qual scope s.heap.objs.size f cd)) (leaving (envOfC qual scope s.heap.objs.size f cd) e) (fun _ s'' => CX outer H s E e s'') (fun e' s'' => CX outer H s E e' s'') s'
theorem cell_has {sc : Scope} {n : Nat} {x : Str} (h : sc.names.lookup x = some .cell) : ∃ c, (cellsFrom n sc.names []).lookup x = some c := by
  have q := PySem.W.cellsFrom_some sc.names n [] (.inl h)
  exact Option.isSome_iff_exists.mp q
theorem inv_start {CX : CXT} {P : Program} {w : World} {K : PySem.W.Frag} {mg : Str → Option Value} {base : Heap} {N ps : List Str} {qual : Str} {scope : Scope} {f : Addr} {cd : Value} {A : Around} {outer : List Env} {s s1 : Shared} {H : Hp} {E : XK} {us : List Value} {vs : List V}
    (S : FnScope N ps scope) (hd : A.handled = none) (e0 : Env0 P w K mg base A outer s H) (hl : vs.length = ps.length) (r : Vals vs us)
    (x : InCallC s s.heap.objs.size (bindL (envOfC qual scope s.heap.objs.size f cd).kindOf (ps.zip us) fun _ => none) (cellsFrom (s.heap.objs.size + 1) scope.names []) (bindC (envOfC qual scope s.heap.objs.size f cd).kindOf (ps.zip us) fun _ => none) s1) :
    Inv (cxOf CX P w K mg base N qual scope f cd A outer s H E) [] (start N vs) H s1 := by
  have hpl : ps.length ≤ N.length := by have := congrArg List.length S.pre; rw [List.length_take] at this; lia
  obtain ⟨h1, tk, rfl, hk⟩ := x.done
  have noA : ∀ b : Addr, b ∉ (cxOf CX P w K mg base N qual scope f cd A outer s H E).ex := fun b z => absurd (show b ∈ ([] : List Addr) from z) (by simp)
  refine ⟨⟨e0.mod, S.kind, rfl, rfl, Nat.le_refl _, fun y z c h1 h2 => ?_, fun y hy => ?_, fun y c _ h => ?_, fun _ => hd, Around.frames_deeper e0.frames, .inr ⟨rfl, rfl⟩, fun b z => absurd z (noA b), e0.bs, e0.bsz, fun b _ _ => noA b, fun b z => absurd z (noA b), e0.funs, e0.frf⟩,
    rfl, e0.bare, Un.kept hk, ⟨_, x.toInCall.ns, fun i y v h1 h2 h3 => ?_⟩, fun y c h => ⟨_, x.cell y c h⟩, e0.hok.fresh (Nat.le_refl _), fun y c h => ?_, fun p hp => absurd (show p ∈ ([] : List (Addr × Obj)) from hp) (by simp), e0.hok.kept hk, ?_⟩
  · exact name_of_addr x.apart (PySem.mem_of_lookup h1) (PySem.mem_of_lookup h2)
  · have hy : scope.names.lookup y = some .cell ∨ scope.names.lookup y = some .free := hy
    rcases hy with hy | hy
    · exact cell_has hy
    · exact absurd rfl (S.nofree _ (PySem.mem_of_lookup hy))
  · exact Nat.le_of_lt (x.above y c (PySem.mem_of_lookup h))
  · have hi : i < vs.length := by
      unfold start at h2
      by_cases hi : i < vs.length
      · exact hi
      · rw [List.getElem?_append_right (by simpa using hi)] at h2
        rw [List.getElem?_replicate] at h2
        split at h2 <;> cases h2
    have ha : vs[i]? = some v := by
      unfold start at h2
      rw [List.getElem?_append_left (by simpa using hi), List.getElem?_map] at h2
      cases e : vs[i]? with
      | none => rw [e] at h2; cases h2
      | some a => rw [e] at h2; cases h2; rfl
    obtain ⟨u, hu, rv⟩ := r.get ha
    have hp : ps[i]? = some y := by
      rw [← S.pre, List.getElem?_take_of_lt (by lia)]; exact h1
    have ndP : ps.Nodup := by rw [← S.pre]; exact S.nd.sublist (List.take_sublist _ _)
    refine ⟨u, rv, ?_⟩
    rcases S.par y (List.mem_of_getElem? hp) with k | k
    · exact .inl ⟨k, bindL_get ndP hp hu k⟩
    · obtain ⟨c, e⟩ := cell_has (n := s.heap.objs.size + 1) k
      refine .inr ⟨.inl k, c, e, ?_⟩
      have q := x.cell y c e
      rw [bindC_get ndP hp hu (by show scope.names.lookup y ≠ _; rw [k]; decide)] at q
      exact q
  · exact e0.hok.fresh (Nat.le_of_lt (x.above y c (PySem.mem_of_lookup h)))
  · unfold start
    show _ = N.length
    rw [List.length_append, List.length_map, List.length_replicate]
    lia
theorem fn_of {CX : CXT} {P : Program} {w : World} {K : PySem.W.Frag} {mg : Str → Option Value} {base : Heap} {k : Nat} {f : Addr} {name qual : Str} {params : Arguments} {body : List Stmt} {scope : Scope} {dV kV doc pm cdv ct oc : Value} {an od : Option Addr}
    {osl : Array (Option Value)} {N ps : List Str} {sp : Sp} (lk : K.lookup f = some ⟨oc, od, .func (PySem.W.fnOf name qual params body scope dV kV doc pm an cdv ct), osl⟩) (hcd : PySem.W.codeIn K cdv qual = true) (S : FnScope N ps scope)
    (len : ∀ vs H Q E, sp vs H Q E → vs.length = ps.length)
    (hbody : ∀ (A : Around) (outer : List Env) (s : Shared) (H : Hp) (vs : List V) (Q : VK) (E : XK), Room k (A.deeper (envOfC qual scope s.heap.objs.size f cdv)) → sp vs H Q E →
      ∃ t, PSs (cxOf CX P w K mg base N qual scope f cdv A outer s H E) body t ∧ t { nx := fun _ H' => Q .non H', rt := Q } (start N vs) H) :
    FnOk P w K mg base CX (k + 1) f (PySem.W.fnOf name qual params body scope dV kV doc pm an cdv ct) ps sp := by
  refine ⟨len, fun A outer s H args us vs Q E hr e0 hb r hsp => ?_⟩
  have hl := len _ _ _ _ hsp
  have KX : K.In s.heap := e0.mod.kin.keeps fun b o e => (e0.bs b o e).1
  have lim : s.heap.NoLimit := e0.mod.nolimit.keeps fun b o e => (e0.bs b o e).1
  have hkind : ∀ y ∈ ps.zip us, scope.names.lookup y.1 = some .local ∨ (scope.names.lookup y.1 = some .cell ∧ ((cellsFrom (s.heap.objs.size + 1) scope.names []).lookup y.1).isSome = true) := fun ⟨n, v⟩ hy => by
    rcases S.par n (List.of_mem_zip hy).1 with q | q
    · exact .inl q
    · exact .inr ⟨q, PySem.W.cellsFrom_some _ _ _ (.inl q)⟩
  refine codeAny_call_function hr.depth (KX _ _ lk) rfl S.co S.gen rfl (PySem.W.codeRec_of KX hcd) (hb _ _ _ _ ?_)
  refine wpAny_newFunctionEnv_cells S.kind hkind fun env he s1 x => ?_
  subst he
  refine ⟨lim.keeps x.toInCall.keep, codeAny_func ?_⟩
  obtain ⟨t, ht, hq⟩ := hbody A outer s H vs Q E (hr.deeper _) hsp
  have I : Inv (cxOf CX P w K mg base N qual scope f cdv A outer s H E) [] (start N vs) H s1 := inv_start S hr.hd e0 hl r x
  refine wpAny_mono (ht [] s1 (start N vs) H _ I hq) (fun fl s' hs => ?_) fun e s' hs => hs
  have fin : ∀ {σ' : St} {H' : Hp} {v : V} {u : Value}, Inv (cxOf CX P w K mg base N qual scope f cdv A outer s H E) [] σ' H' s' → RelV v u → Q v H' → CE outer P w H s Q u s' :=
    fun {σ' H' v u} J rv q => ⟨v, H', J.os, J.bare, J.base, J.hok, rv, q⟩
  cases fl with
  | ret u =>
    obtain ⟨v, σ', H', J, rv, q⟩ := hs
    exact fin J rv q
  | next =>
    obtain ⟨σ', H', J, q⟩ := hs
    exact fin (v := V.non) (u := Value.none) J rfl q
  | brk =>
    obtain ⟨_, _, _, q⟩ := hs
    exact False.elim q
  | cont =>
    obtain ⟨_, _, _, q⟩ := hs
    exact False.elim q
end L2
namespace L2
open PySem PySem.Spec PyProof.Rows
section
variable {X : Cx} {x : Str} {p pos : Pos} {e : Expr} {es : List Expr} {t : TA} {id T : String} {r : List V → Hp → VK → Prop}
noncomputable def tCB (r : List V → Hp → VK → Prop) (t : TA) : TE := fun σ H Q => t σ H fun vs H1 => r vs H1 Q
theorem pe_callB (hc : CallR X (.builtin id) r) (hg : Gl X x) (hm : X.mg x = none) (hv : bootBuiltins x = some (.builtin id)) (ha : PA X (e :: es) t) (hn : x ≠ "__name__" := by decide) (hdb : (x == ("__debug__" : Str)) = false := by decide)
    (he : starEach (e :: es) X.env = (false, eval e X.env) :: starEach es X.env := by rfl) (hpl : (backTo pos (starEach es X.env)).any (·.1) = false := by rfl) : PE X (.Call (.Name x p) (e :: es) [] pos) (tCB r t) := by
  intro pins s σ H Q I h
  refine wpAny_Call_Name_kw (ld_blt I hg hm hv ?_ hn hdb)
  exact PyProof.Rows.callWith_builtin1 (thn (ha pos pins s σ H _ I h) fun us s1 ⟨vs, H1, I1, r1, q1⟩ => hc pins s1 σ H1 vs us Q I1 r1 q1) he hpl
theorem pe_callTy (hc : CallR X (.type T) r) (hg : Gl X x) (hm : X.mg x = none) (hv : bootBuiltins x = some (.type T)) (ha : PA X (e :: es) t) (hn : x ≠ "__name__" := by decide) (hdb : (x == ("__debug__" : Str)) = false := by decide)
    (he : starEach (e :: es) X.env = (false, eval e X.env) :: starEach es X.env := by rfl) (hpl : (backTo pos (starEach es X.env)).any (·.1) = false := by rfl) : PE X (.Call (.Name x p) (e :: es) [] pos) (tCB r t) := by
  intro pins s σ H Q I h
  refine wpAny_Call_Name_kw (ld_blt I hg hm hv ?_ hn hdb)
  exact PyProof.Rows.callWith_type1 (thn (ha pos pins s σ H _ I h) fun us s1 ⟨vs, H1, I1, r1, q1⟩ => hc pins s1 σ H1 vs us Q I1 r1 q1) he hpl
end
end L2
namespace HT
open PySem PyProof.Rows
section
open PySem.SeqAt
open PySem.AutoSeq1 (wpAny_loadPart')
open PySem.MeetsSeq PySem.MeetsSeq2 PySem.MeetsSeq3
end
section
variable {prog : Program} {w : World} {A : Around} {E : Value → Shared → Prop} {s : Shared}
theorem cat_tup {t b : Addr} {vs ws : List Value} {Q : Value → Shared → Prop} (ht : IsTup s.heap t vs.toArray) (hb : IsTup s.heap b ws.toArray) (hv : vs ≠ [])
    (h1 : ws = [] → Q (.ref t) s) (h2 : ws ≠ [] → Q (.ref s.heap.objs.size) { s with heap := s.heap.push { cls := .type "tuple", data := .seq (vs ++ ws).toArray } })
    (hsz : vs.length + ws.length ≤ sizeLine) : wpAny (model prog w) A (binaryOp .Add (.ref t) (.ref b)) Q E s := by
  obtain ⟨⟨cls, dd, data, sl⟩, ho, hc, n, hd⟩ := id ht
  obtain ⟨⟨cls2, dd2, data2, sl2⟩, ho2, hc2, n2, hd2⟩ := id hb
  simp only at hc hd hc2 hd2
  subst hc hd hc2 hd2
  have e : vs.toArray ++ ws.toArray = (vs ++ ws).toArray := by simp
  by_cases hw : ws = []
  · exact concat_meets ⟨_, ho, rfl⟩ ⟨_, ho2, rfl⟩ noFill_tuple_add seq_tuple_add PySem.F.slot_tuple_add PySem.F.entry_tuple_add (PySem.F.args_tuple_add_2 _ _)
      (tuple_addW1 t b vs.toArray ws.toArray n n2 dd dd2 sl sl2 (by simpa using hv) (by simp [hw])) ⟨ho, ho2, h1 hw⟩
  · refine concat_meets ⟨_, ho, rfl⟩ ⟨_, ho2, rfl⟩ noFill_tuple_add seq_tuple_add PySem.F.slot_tuple_add PySem.F.entry_tuple_add (PySem.F.args_tuple_add_2 _ _)
      (tuple_addW2 t b vs.toArray ws.toArray n n2 dd dd2 sl sl2 (by simpa using hv) (by simpa using hw) (by rw [List.size_toArray, List.size_toArray]; exact hsz)) ⟨ho, ho2, ?_⟩
    rw [e]
    exact h2 hw
noncomputable def sIx (n d : Nat) : Option Int → Nat
  | none => d
  | some v => if v < 0 then (v + (n : Int)).toNat else min v.toNat n
theorem sIx_none (n d : Nat) : sIx n d none = d := rfl
theorem sIx_nat (n d k : Nat) : sIx n d (some (k : Int)) = min k n := by
  show (if (k : Int) < 0 then ((k : Int) + (n : Int)).toNat else min (k : Int).toNat n) = min k n
  rw [if_neg (by lia), Int.toNat_natCast]
theorem sIx_le (n d : Nat) (hd : d ≤ n) (o : Option Int) : sIx n d o ≤ n := by
  cases o with
  | none => exact hd
  | some v =>
    show (if v < 0 then (v + (n : Int)).toNat else min v.toNat n) ≤ n
    by_cases hv : v < 0
    · rw [if_pos hv]; lia
    · rw [if_neg hv]; exact Nat.min_le_right _ _
theorem clip_eq (v : Int) (n d : Nat) : (if v < 0 then max (v + (n : Int)) 0 else min v (n : Int)) = ((sIx n d (some v) : Nat) : Int) := by
  show (if v < 0 then max (v + (n : Int)) 0 else min v (n : Int)) = (((if v < 0 then (v + (n : Int)).toNat else min v.toNat n) : Nat) : Int)
  by_cases hv : v < 0
  · simp only [if_pos hv]; lia
  · simp only [if_neg hv]; lia
theorem adjust_gen (lo hi : Option Int) (n : Nat) : Builtin.Slice.sliceAdjust lo hi 1 (n : Int) = (((sIx n 0 lo : Nat) : Int), ((sIx n n hi : Nat) : Int)) := by
  have h1 : ¬ ((1 : Int) < 0) := by lia
  unfold Builtin.Slice.sliceAdjust
  simp only [h1, if_false]
  refine Prod.ext ?_ ?_
  · cases lo with
    | none => rfl
    | some v => exact clip_eq v n 0
  · cases hi with
    | none => rfl
    | some v => exact clip_eq v n n
theorem places_gen (i j : Nat) : Builtin.Slice.slicePlaces (i : Int) (j : Int) 1 = j - i := by
  unfold Builtin.Slice.slicePlaces
  have h1 : (1 : Int) > 0 := by lia
  simp only [h1, if_true, Int.ediv_one]
  split <;> lia
theorem slicePart_ {v : Value} {o : Option Int} {Q : Option Int → Shared → Prop} (p : IsPart v o) (h : Q o s) : wpAny (model prog w) A (Builtin.Slice.slicePartIndex v) Q E s := by
  cases p with
  | none => exact slicePart_none h
  | int i t => exact slicePart_int h
theorem sliceApplied_gen {sl : Addr} {vl vu : Value} {lo hi : Option Int} {n : Nat} {Q : Int × Int × Nat → Shared → Prop} (hs : s.heap.IsSliceOf sl vl vu .none) (pl : IsPart vl lo) (pu : IsPart vu hi)
    (h : Q (((sIx n 0 lo : Nat) : Int), 1, sIx n n hi - sIx n 0 lo) s) : wpAny (model prog w) A (Builtin.Slice.sliceApplied (.ref sl) (pure (n : Int))) Q E s := by
  obtain ⟨os, hos, hcs, hds⟩ := id hs
  unfold Builtin.Slice.sliceApplied Builtin.Slice.sliceFields
  refine wpAny_bind (wpAny_bind (wpAny_field hos hds (x := vl) rfl (wpAny_bind (wpAny_field hos hds (x := vu) rfl (wpAny_bind (wpAny_field hos hds (x := .none) rfl (wpAny_pure ?_)))))))
  refine wpAny_bind (slicePart_none ?_)
  show wpAny _ _ (if ((1 : Int) == 0) = true then _ else _) _ _ s
  rw [if_neg (by decide)]
  refine wpAny_bind (slicePart_ pl (wpAny_bind (slicePart_ pu (wpAny_bind (wpAny_pure ?_)))))
  show wpAny _ _ (match Builtin.Slice.sliceAdjust lo hi 1 (n : Int) with | (lo, hi) => pure (lo, (1 : Int), Builtin.Slice.slicePlaces lo hi 1)) _ _ s
  rw [adjust_gen lo hi n]
  show wpAny _ _ (pure (((sIx n 0 lo : Nat) : Int), (1 : Int), Builtin.Slice.slicePlaces ((sIx n 0 lo : Nat) : Int) ((sIx n n hi : Nat) : Int) 1)) _ _ s
  rw [places_gen]
  exact wpAny_pure h
theorem pick_gen (xs : Array Value) (i k : Nat) : ((List.range k).filterMap fun (m : Nat) => xs[((i : Int) + (m : Int) * 1).toNat]?).toArray = ((xs.toList.drop i).take k).toArray := by
  have e : (fun (m : Nat) => xs[((i : Int) + (m : Int) * 1).toNat]?) = fun m => xs[i + m]? := by
    funext m
    have : ((i : Int) + (m : Int) * 1).toNat = i + m := by lia
    rw [this]
  rw [e]
  have := pick_run xs i k
  rw [List.filterMap_map] at this
  have e2 : ((fun x => xs[x]?) ∘ fun x => i + x) = fun m => xs[i + m]? := rfl
  rw [e2] at this
  rw [this]
theorem getItem_tuple_cut {t sl : Addr} {items : Array Value} {vl vu : Value} {lo hi : Option Int} {Q : Value → Shared → Prop} (ht : IsTup s.heap t items) (hs : s.heap.IsSliceOf sl vl vu .none) (pl : IsPart vl lo) (pu : IsPart vu hi)
    (hw : ¬ (sIx items.size 0 lo = 0 ∧ sIx items.size items.size hi = items.size))
    (h : Q (.ref s.heap.objs.size) { s with heap := s.heap.push { cls := .type "tuple", data := .seq ((items.toList.drop (sIx items.size 0 lo)).take (sIx items.size items.size hi - sIx items.size 0 lo)).toArray } })
    (hsz : items.size ≤ sizeLine) : wpAny (model prog w) A (getItem (.ref t) (.ref sl)) Q E s := by
  have htake : sizeOk (.seq ((items.toList.drop (sIx items.size 0 lo)).take (sIx items.size items.size hi - sIx items.size 0 lo)).toArray) := by
    show ((items.toList.drop (sIx items.size 0 lo)).take (sIx items.size items.size hi - sIx items.size 0 lo)).toArray.size ≤ sizeLine
    rw [List.size_toArray, List.length_take, List.length_drop, Array.length_toList]
    lia
  have hj : sIx items.size items.size hi ≤ items.size := sIx_le _ _ (Nat.le_refl _) hi
  obtain ⟨os, hos, hcs, hds⟩ := id hs
  have hTs : s.TypeIs (.ref sl) "slice" := ⟨os, hos, hcs⟩
  unfold getItem
  try with_reducible refine wpAny_holding ?_
  first | refine wpAny_bind (wpAny_pure ?_) | skip
  refine wpAny_bind (wpAny_sequenceKey ht.typeIs (by decide) ?_)
  refine wpAny_bind (wpAny_callSpecial?_slot (name := Str.ofString "__getitem__") ht.typeIs PyProof.Rows.slot_tuple_getitem
    (wpAny_call_entry PyProof.Rows.slot_tuple_getitem ht.typeIs entry_tuple_getitem ?_ (args_tuple_getitem _ _)))
  show wpAny _ _ (Builtin.Tuple.tupleItemsOf (.ref t) >>= _) _ _ s
  refine wpAny_bind (tupleItemsOf_ ht ?_)
  refine wpAny_bind (wpAny_typeOf hTs ?_)
  rw [if_pos (by decide)]
  refine wpAny_bind (sliceApplied_gen hs pl pu ?_)
  have hno : ¬ ((((sIx items.size 0 lo : Nat) : Int) == 0 && (1 : Int) == 1 && (sIx items.size items.size hi - sIx items.size 0 lo) == items.size) = true) := by
    intro q
    rw [Bool.and_eq_true, Bool.and_eq_true] at q
    have q1 : ((sIx items.size 0 lo : Nat) : Int) = 0 := eq_of_beq q.1.1
    have q2 : sIx items.size items.size hi - sIx items.size 0 lo = items.size := eq_of_beq q.2
    exact hw ⟨by lia, by lia⟩
  show wpAny _ _ (if (((sIx items.size 0 lo : Nat) : Int) == 0 && (1 : Int) == 1 && (sIx items.size items.size hi - sIx items.size 0 lo) == items.size) = true then _ else _) _ _ s
  rw [if_neg hno, pick_gen]
  first
    | exact wpAny_bind (m := Builtin.Tuple.tupleExact _) (wpAny_newObj_type (wpAny_pure ⟨_, rfl, wpAny_pure h⟩) htake)
    | exact wpAny_bind (m := Builtin.Tuple.tupleExact _) (wpAny_newObj_type (wpAny_bind (wpAny_pure (wpAny_pure ⟨_, rfl, wpAny_pure h⟩))) htake)
    | exact wpAny_bind (wpAny_bind (m := Builtin.Tuple.tupleExact _) (wpAny_newObj_type (wpAny_pure (wpAny_pure ⟨_, rfl, wpAny_pure h⟩)) htake))
    | exact wpAny_bind (wpAny_bind (m := Builtin.Tuple.tupleExact _) (wpAny_newObj_type (wpAny_pure ⟨_, rfl, wpAny_pure h⟩) htake))
end
end HT
namespace L2
open PySem PySem.Spec PyProof.Rows
abbrev TO := St → Hp → (Option Int → Hp → Prop) → Prop
noncomputable def PO (X : Cx) (e : Option Expr) (t : TO) : Prop :=
  ∀ (pins : List (Addr × Obj)) (s : Shared) (σ : St) (H : Hp) (Q : Option Int → Hp → Prop), Inv X pins σ H s → t σ H Q →
    wpAny (model X.prog X.w) X.A (evalPart e X.env) (fun u s' => ∃ o H', Inv X pins σ H' s' ∧ IsPart u o ∧ Q o H') X.xe s
noncomputable def tNoPart : TO := fun _ H Q => Q none H
inductive tPartS (x : V) (H1 : Hp) (Q : Option Int → Hp → Prop) : Prop
  | mk (i : Int) (h0 : x = .int i) (h1 : Q (some i) H1) : tPartS x H1 Q
noncomputable def tPart (t : TE) : TO := fun σ H Q => t σ H fun x H1 => tPartS x H1 Q
section
variable {X : Cx} {e : Expr} {te : TE} {lo hi : Option Expr} {tl th : TO} {pos p2 : Pos}
theorem po_none : PO X none tNoPart := by
  intro pins s σ H Q I h
  rw [evalPart_none]
  exact wpAny_pure ⟨none, H, I, .none, h⟩
theorem po_some (h : PE X e te) : PO X (some e) (tPart te) := by
  intro pins s σ H Q I hw
  rw [evalPart_some]
  refine thn (h pins s σ H _ I hw) fun u s1 zq => ?_
  obtain ⟨x, H1, I1, r1, q1⟩ := zq
  obtain ⟨i, rfl, q⟩ := q1
  obtain ⟨t, rfl⟩ := r1
  exact ⟨some i, H1, I1, .int i t, q⟩
noncomputable def SlR (X : Cx) (r : V → Option Int → Option Int → Hp → VK → Prop) : Prop :=
  ∀ (pins : List (Addr × Obj)) (s : Shared) (σ : St) (H : Hp) (x : V) (v vl vu : Value) (lo hi : Option Int) (sl : Addr) (Q : VK), Inv X pins σ H s → RelV x v → s.heap.IsSliceOf sl vl vu .none → IsPart vl lo → IsPart vu hi → r x lo hi H Q →
    ∃ T id, typeLookup (.type T) "__getitem__" = pure (some (.builtin id)) ∧ s.TypeIs v T ∧ wpAny (model X.prog X.w) X.A (getItem v (.ref sl)) (EP X pins σ Q) X.xe s
noncomputable def tSl (r : V → Option Int → Option Int → Hp → VK → Prop) (te : TE) (tl th : TO) : TE := fun σ H Q => te σ H fun x H1 => tl σ H1 fun l H2 => th σ H2 fun u H3 => r x l u H3 Q
theorem pe_slice {r : V → Option Int → Option Int → Hp → VK → Prop} (hr : SlR X r) (he : PE X e te) (hl : PO X lo tl) (hu : PO X hi th) : PE X (.Subscript e (.Slice lo hi none p2) pos) (tSl r te tl th) := by
  intro pins s σ H Q I h
  refine Subscript_ (thn (he pins s σ H _ I h) fun v s1 zq => ?_)
  obtain ⟨x, H1, I1, r1, q1⟩ := zq
  refine wpAny_Slice (thn (hl pins s1 σ H1 _ I1 q1) fun vl s2 ⟨l, H2, I2, pl, q2⟩ => thn (hu pins s2 σ H2 _ I2 q2) fun vu s3 zq => ?_)
  obtain ⟨u, H3, I3, pu, q3⟩ := zq
  rw [evalPart_none]
  refine wpAny_pure ?_
  have I4 : Inv X pins σ H3 { s3 with heap := s3.heap.push { cls := .type "slice", data := .fields #[vl, vu, .none] } } := I3.kept (t' := s3.toks) fun b ob q => Heap.get?_push_of_some _ q
  obtain ⟨T, id, hT, ht, hg⟩ := hr pins { s3 with heap := s3.heap.push { cls := .type "slice", data := .fields #[vl, vu, .none] } } σ H3 x v vl vu l u s3.heap.objs.size Q I4 r1 (Heap.IsSliceOf.new ..) pl pu q3
  show wpAny (model X.prog X.w) X.A (subscriptTail e (.Slice lo hi none p2) v (.ref s3.heap.objs.size)) (EP X pins σ Q) X.xe { s3 with heap := s3.heap.push { cls := .type "slice", data := .fields #[vl, vu, .none] } }
  exact tail_any (ops := [.ref s3.heap.objs.size, v]) ht hT hg (by with_unfolding_all rfl)
noncomputable def cutV (xs : List V) (lo hi : Option Int) : List V := (xs.drop (HT.sIx xs.length 0 lo)).take (HT.sIx xs.length xs.length hi - HT.sIx xs.length 0 lo)
theorem cutV_length (xs : List V) (lo hi : Option Int) : (cutV xs lo hi).length ≤ xs.length := by
  unfold cutV
  rw [List.length_take, List.length_drop]
  lia
inductive rSlTS (K : PySem.W.Frag) (x : V) (lo hi : Option Int) (H : Hp) (Q : VK) : Prop
  | mk (a : Addr) (xs : List V) (h0 : x = .ref a) (h1 : SqT K H a xs) (h2 : ¬ (HT.sIx xs.length 0 lo = 0 ∧ HT.sIx xs.length xs.length hi = xs.length)) (h3 : ∀ p, H p = none → Q (.ref p) (upd H p (.tup (cutV xs lo hi)))) : rSlTS K x lo hi H Q
noncomputable def rSlT (K : PySem.W.Frag) : V → Option Int → Option Int → Hp → VK → Prop := fun x lo hi H Q => rSlTS K x lo hi H Q
theorem sl_tup : SlR X (rSlT X.K) := by
  intro pins s σ H x v vl vu lo hi sl Q I rx hs pl pu h
  obtain ⟨a, xs, rfl, hx, hw, q⟩ := h
  cases rx
  obtain ⟨its, r, ht, hz⟩ := I.tuple hx
  have hlen : its.toArray.size = xs.length := by rw [List.size_toArray]; exact r.length.symm
  refine ⟨"tuple", _, PyProof.Rows.slot_tuple_getitem.lookup, ht.typeIs, ?_⟩
  refine HT.getItem_tuple_cut ht hs pl pu (by rw [hlen]; exact hw) ?_ (by rw [hlen]; exact hz)
  rw [hlen]
  refine ⟨.ref s.heap.objs.size, _, I.laid (t' := s.toks) (o := .tup (cutV xs lo hi)) (fun b ob q => Heap.get?_push_of_some _ q) (Nat.le_refl _) ?_, rfl, q _ (I.hok.fresh (Nat.le_refl _))⟩
  exact ⟨Nat.le_trans (cutV_length xs lo hi) hz, _, (r.drop (HT.sIx xs.length 0 lo)).take (HT.sIx xs.length xs.length hi - HT.sIx xs.length 0 lo), IsTup.new _ _⟩
inductive rCatTS (K : PySem.W.Frag) (x y : V) (H : Hp) (Q : VK) : Prop
  | mk (a b : Addr) (xs ys : List V) (h0 : x = .ref a) (h1 : y = .ref b) (h2 : SqT K H a xs) (h3 : SqT K H b ys) (h4 : xs ≠ []) (h5 : xs.length + ys.length ≤ sizeLine) (h6 : (ys = [] → Q (.ref a) H)) (h7 : (ys ≠ [] → ∀ p, H p = none → Q (.ref p) (upd H p (.tup (xs ++ ys))))) : rCatTS K x y H Q
noncomputable def rCatT (K : PySem.W.Frag) : R2 := fun x y H Q => rCatTS K x y H Q
theorem Vals.nil_iff {xs : List V} {us : List Value} (r : Vals xs us) : us = [] ↔ xs = [] := by
  cases r with
  | nil => simp
  | cons _ _ => simp
theorem op_catT : OpR X (binaryOp .Add) (rCatT X.K) := by
  intro pins s σ H x y v u Q I rx ry h
  obtain ⟨a, b, xs, ys, rfl, rfl, ha, hb, hx, hz, q1, q2⟩ := h
  cases rx
  cases ry
  obtain ⟨its, r1, p1, _⟩ := I.tuple ha
  obtain ⟨its2, r2, p2, _⟩ := I.tuple hb
  refine HT.cat_tup p1 p2 (fun z => hx (r1.nil_iff.mp z)) (fun z => ⟨.ref a, H, I, rfl, q1 (r2.nil_iff.mp z)⟩) (fun z => ?_) (by rw [← r1.length, ← r2.length]; exact hz)
  refine ⟨.ref s.heap.objs.size, _, I.laid (t' := s.toks) (o := .tup (xs ++ ys)) (fun b ob q => Heap.get?_push_of_some _ q) (Nat.le_refl _) ?_, rfl, q2 (fun w => z (r2.nil_iff.mpr w)) _ (I.hok.fresh (Nat.le_refl _))⟩
  exact ⟨by rw [List.length_append]; exact hz, _, r1.append r2, IsTup.new _ _⟩
end
end L2
namespace L2
open PySem PySem.Spec PyProof.Rows
noncomputable def ixN (n : Nat) (i : Int) : Option Nat := if 0 ≤ i then (if i < n then some i.toNat else none) else if -(n : Int) ≤ i then some (i + n).toNat else none
noncomputable def atI {α : Type} (xs : List α) (i : Int) : Option α := (ixN xs.length i).bind fun j => xs[j]?
theorem ixN_seq {n : Nat} {i : Int} {j : Nat} (h : ixN n i = some j) : seqIndex? i n = some j ∧ j < n ∧ -(n : Int) ≤ i ∧ i < n := by
  unfold ixN at h
  by_cases h0 : 0 ≤ i
  · rw [if_pos h0] at h
    by_cases h1 : i < n
    · rw [if_pos h1] at h
      have e : i.toNat = j := Option.some.inj h
      exact ⟨by rw [seqIndex_of h0 h1, e], by lia, by lia, h1⟩
    · rw [if_neg h1] at h; cases h
  · rw [if_neg h0] at h
    by_cases h1 : -(n : Int) ≤ i
    · rw [if_pos h1] at h
      have e : (i + n).toNat = j := Option.some.inj h
      exact ⟨by rw [seqIndex_neg (by lia) h1, e], by lia, h1, by lia⟩
    · rw [if_neg h1] at h; cases h
theorem atI_get {α : Type} {xs : List α} {i : Int} {v : α} (h : atI xs i = some v) : ∃ j, seqIndex? i xs.length = some j ∧ xs[j]? = some v ∧ j < xs.length ∧ -(xs.length : Int) ≤ i ∧ i < xs.length := by
  unfold atI at h
  cases e : ixN xs.length i with
  | none => rw [e] at h; cases h
  | some j =>
    rw [e] at h
    obtain ⟨h1, h2, h3, h4⟩ := ixN_seq e
    exact ⟨j, h1, h, h2, h3, h4⟩
theorem atI_nat {α : Type} {xs : List α} {j : Nat} {v : α} (h : xs[j]? = some v) : atI xs (j : Int) = some v := by
  have hj : j < xs.length := (List.getElem?_eq_some_iff.mp h).1
  have e : ixN xs.length (j : Int) = some j := by
    unfold ixN
    rw [if_pos (by lia), if_pos (by lia)]; simp
  unfold atI; rw [e]; exact h
noncomputable def PlainIx (b : Expr) : Prop := ∀ o i, subscripted b false o i = operate [o, i] (getItem o i)
noncomputable def IxR (X : Cx) (r : R2) : Prop :=
  ∀ (value slice : Expr) (pins : List (Addr × Obj)) (s : Shared) (σ : St) (H : Hp) (x y : V) (v u : Value) (Q : VK), Inv X pins σ H s → RelV x v → RelV y u → r x y H Q →
    subscripted slice false v u = operate [v, u] (getItem v u) → wpAny (model X.prog X.w) X.A (subscriptTail value slice v u) (EP X pins σ Q) X.xe s
noncomputable def MtR (X : Cx) (id : String) (r : V → List V → Hp → VK → Prop) : Prop :=
  ∀ (pins : List (Addr × Obj)) (s : Shared) (σ : St) (H : Hp) (x : V) (xs : List V) (v : Value) (us : List Value) (Q : VK), Inv X pins σ H s → RelV x v → Vals xs us → r x xs H Q →
    wpAny (model X.prog X.w) X.A (call (.builtin id) (v :: us)) (EP X pins σ Q) X.xe s
section
variable {X : Cx} {a b : Expr} {ta tb : TE} {pos : Pos}
theorem pe_ix {r : R2} (hr : IxR X r) (ha : PE X a ta) (hb : PE X b tb) (hs : PlainIx b) : PE X (.Subscript a b pos) (tOp r ta tb) := by
  intro pins s σ H Q I h
  exact Subscript_ (binT ha hb I h fun v u s2 x y H2 I2 rx ry q => hr a b pins s2 σ H2 x y v u Q I2 rx ry q (hs _ _))
inductive rIxLS (K : PySem.W.Frag) (x y : V) (H : Hp) (Q : VK) : Prop
  | mk (p : Addr) (xs : List V) (i : Int) (v : V) (h0 : x = .ref p) (h1 : y = .int i) (h2 : SqL K H p xs) (h3 : atI xs i = some v) (h4 : Q v H) : rIxLS K x y H Q
noncomputable def rIxL (K : PySem.W.Frag) : R2 := fun x y H Q => rIxLS K x y H Q
inductive rIxTS (K : PySem.W.Frag) (x y : V) (H : Hp) (Q : VK) : Prop
  | mk (p : Addr) (xs : List V) (i : Int) (v : V) (h0 : x = .ref p) (h1 : y = .int i) (h2 : SqT K H p xs) (h3 : atI xs i = some v) (h4 : Q v H) : rIxTS K x y H Q
noncomputable def rIxT (K : PySem.W.Frag) : R2 := fun x y H Q => rIxTS K x y H Q
inductive rIxSS (x y : V) (H : Hp) (Q : VK) : Prop
  | mk (z : Str) (i : Int) (c : Nat) (h0 : x = .str z) (h1 : y = .int i) (h2 : z.length ≤ sizeLine) (h3 : atI z.cps.toList i = some c) (h4 : Q (.str ⟨#[c]⟩) H) : rIxSS x y H Q
noncomputable def rIxS : R2 := fun x y H Q => rIxSS x y H Q
theorem ix_list : IxR X (rIxL X.K) := by
  intro value slice pins s σ H x y v u Q I rx ry h hs
  obtain ⟨p, xs, i, z, rfl, rfl, hq, he, q⟩ := h
  cases rx
  obtain ⟨t, rfl⟩ := ry
  obtain ⟨its, r, pl, hz⟩ := I.list hq
  obtain ⟨j, h1, h2, h3, h4, h5⟩ := atI_get he
  obtain ⟨w, ew, rw'⟩ := r.get h2
  have hl := r.length
  have hn := line63
  have fin : EP X pins σ Q w s := ⟨z, H, I, rw', q⟩
  by_cases h0 : 0 ≤ i
  · have hj : i.toNat = j := by
      rw [seqIndex_of h0 h5] at h1
      exact Option.some.inj h1
    exact item_listR pl.isList h0 (by lia) (by rw [hj]; simpa using ew) fin hs
  · have hj : (i + (its.toArray.size : Int)).toNat = j := by
      rw [seqIndex_neg (by lia) h4] at h1
      rw [List.size_toArray, ← hl]
      exact Option.some.inj h1
    exact subscriptTail_builtinR (x := w) pl.isList.typeIs slot_list_getitem.lookup
      (wpAny_getItem_list_neg (Q := fun r s' => r = w ∧ EP X pins σ Q r s') pl.isList (by lia) (by rw [List.size_toArray] <;> lia) (by lia) (by rw [hj]; simpa using ew) ⟨rfl, fin⟩) hs
theorem ix_tup : IxR X (rIxT X.K) := by
  intro value slice pins s σ H x y v u Q I rx ry h hs
  obtain ⟨p, xs, i, z, rfl, rfl, hq, he, q⟩ := h
  cases rx
  obtain ⟨t, rfl⟩ := ry
  obtain ⟨its, r, pl, hz⟩ := I.tuple hq
  obtain ⟨j, h1, h2, h3, h4, h5⟩ := atI_get he
  obtain ⟨w, ew, rw'⟩ := r.get h2
  have hl := r.length
  have hn := line63
  have fin : EP X pins σ Q w s := ⟨z, H, I, rw', q⟩
  exact subscriptTail_builtinR (x := w) pl.typeIs slot_tuple_getitem.lookup
    (getItem_tuple (j := j) (Q := fun r s' => r = w ∧ EP X pins σ Q r s') pl (by lia) (by lia) (by rw [List.size_toArray, ← hl]; exact h1) (by simpa using ew) ⟨rfl, fin⟩) hs
theorem ix_str : IxR X rIxS := by
  intro value slice pins s σ H x y v u Q I rx ry h hs
  obtain ⟨z, i, c, rfl, rfl, hz, he, q⟩ := h
  obtain ⟨t, rfl⟩ := rx
  obtain ⟨t', rfl⟩ := ry
  obtain ⟨j, h1, h2, h3, h4, h5⟩ := atI_get he
  have hl : z.cps.toList.length = z.length := by simp [Str.length]
  rw [hl] at h1 h4 h5
  have hn := line63
  exact tail_any (typeIs_str s z t) slot_str_getitem.lookup (getItem_str (c := c) (by
    have e1 : decide (i < -(2 ^ 63 : Int)) = false := decide_eq_false (by lia)
    have e2 : decide (i ≥ 2 ^ 63) = false := decide_eq_false (by lia)
    rw [e1, e2, Bool.or_false]) (by rw [h1]; simpa using h2) ⟨.str ⟨#[c]⟩, H, I.tok _, ⟨_, rfl⟩, q⟩) hs
theorem mapSeq_set (its : List Value) (n j : Nat) (u : Value) : Obj.mapSeq (·.setIfInBounds j u) { cls := .type "list", data := .seq its.toArray n } = { cls := .type "list", data := .seq (its.set j u).toArray n } := by
  simp [Obj.mapSeq]
theorem Inv.lst {pins : List (Addr × Obj)} {σ : St} {H : Hp} {s : Shared} {p : Addr} {xs : List V} (I : Inv X pins σ H s) (h : H p = some (.lst xs)) :
    ∃ (its : List Value) (n : Nat), Vals xs its ∧ s.heap.get? p = some { cls := .type "list", data := .seq its.toArray n } ∧ xs.length ≤ sizeLine := by
  obtain ⟨z, its, n, r, e⟩ := I.hok p _ h
  exact ⟨its, n, r, e, z⟩
theorem Inv.lstUpd {pins : List (Addr × Obj)} {σ : St} {H : Hp} {s : Shared} {p : Addr} {xs ys : List V} {its its' : List Value} {n n' : Nat} {f : Obj → Obj} (I : Inv X pins σ H s) (h : H p = some (.lst xs))
    (ho : s.heap.get? p = some { cls := .type "list", data := .seq its.toArray n }) (hf : f { cls := .type "list", data := .seq its.toArray n } = { cls := .type "list", data := .seq its'.toArray n' }) (r : Vals ys its') (hz : ys.length ≤ sizeLine) (t : Nat) :
    Inv X pins σ (upd H p (.lst ys)) { s with heap := s.heap.update p f, toks := t } := by
  have e : (s.heap.update p f).get? p = some { cls := .type "list", data := .seq its'.toArray n' } := by
    rw [Heap.get?_update_self f ho (by rw [hf] <;> rfl), hf]
  refine I.write (x := p) (e := p) (by rw [h]; trivial) (.inl rfl) (fun b u hb q => (Heap.get?_update_other _ _ (Ne.symm hb)).trans q) ⟨_, e⟩ ?_
  exact ⟨hz, its', n', r, e⟩
inductive rSetLS (o i v : V) (H : Hp) (Q : Hp → Prop) : Prop
  | mk (p : Addr) (xs : List V) (k : Int) (j : Nat) (h0 : o = .ref p) (h1 : i = .int k) (h2 : H p = some (.lst xs)) (h3 : ixN xs.length k = some j) (h4 : Q (upd H p (.lst (xs.set j v)))) : rSetLS o i v H Q
noncomputable def rSetL : V → V → V → Hp → (Hp → Prop) → Prop := fun o i v H Q => rSetLS o i v H Q
theorem set_list : PSet X rSetL := by
  intro pins s σ H o i v ov iv u Q I ro ri rv h
  obtain ⟨p, xs, k, j, rfl, rfl, hp, hj, q⟩ := h
  cases ro
  obtain ⟨t, rfl⟩ := ri
  obtain ⟨its, n, r, ho, hz⟩ := I.lst hp
  obtain ⟨h1, h2, h3, h4⟩ := ixN_seq hj
  have hl := r.length
  have hn := line63
  have I' : Inv X pins σ (upd H p (.lst (xs.set j v))) { s with heap := s.heap.update p (Obj.mapSeq (·.setIfInBounds j u)) } :=
    I.lstUpd hp ho (mapSeq_set its n j u) (r.set rv j) (by rw [List.length_set]; exact hz) s.toks
  by_cases h0 : 0 ≤ k
  · have hk : k.toNat = j := by
      rw [seqIndex_of h0 h4] at h1
      exact Option.some.inj h1
    exact PySem.W.ki_setAt ho h0 (by lia) (by rw [List.size_toArray, ← hl]; exact h4) (by rw [hk]; exact ⟨_, I', q⟩)
  · have hk : (k + (its.toArray.size : Int)).toNat = j := by
      rw [seqIndex_neg (by lia) h3] at h1
      rw [List.size_toArray, ← hl]
      exact Option.some.inj h1
    exact PySem.W.ki_setBack ho (by lia) (by rw [List.size_toArray, ← hl]; exact h3) (by lia) (by rw [hk]; exact ⟨_, I', q⟩)
theorem slice_bounds (lo hi : Option Int) (n : Nat) : (sliceBounds lo hi none n).1 = ((HT.sIx n 0 lo : Nat) : Int) ∧ (sliceBounds lo hi none n).2.1 = ((HT.sIx n n hi : Nat) : Int) ∧ (sliceBounds lo hi none n).2.2 = 1 := by
  refine ⟨?_, ?_, rfl⟩
  · cases lo with
    | none => simp [sliceBounds, HT.sIx]
    | some i =>
      simp only [sliceBounds, HT.sIx, Option.getD_none, show (1 : Int) > 0 by decide, if_true]
      by_cases h : i < 0
      · simp only [h, if_true] <;> lia
      · simp only [h, if_false] <;> lia
  · cases hi with
    | none => simp [sliceBounds, HT.sIx]
    | some i =>
      simp only [sliceBounds, HT.sIx, Option.getD_none, show (1 : Int) > 0 by decide, if_true]
      by_cases h : i < 0
      · simp only [h, if_true] <;> lia
      · simp only [h, if_false] <;> lia
theorem slicePick_cut (its : List Value) (lo hi : Option Int) : slicePick its.toArray lo hi none = ((its.drop (HT.sIx its.length 0 lo)).take (HT.sIx its.length its.length hi - HT.sIx its.length 0 lo)).toArray := by
  obtain ⟨h1, h2, h3⟩ := slice_bounds lo hi its.toArray.size
  unfold slicePick
  rw [h1, h2, h3]
  simp only [sliceRange_one, pick_run, List.size_toArray] <;> rfl
inductive rSlLS (K : PySem.W.Frag) (x : V) (lo hi : Option Int) (H : Hp) (Q : VK) : Prop
  | mk (a : Addr) (xs : List V) (h0 : x = .ref a) (h1 : SqL K H a xs) (h2 : ∀ p, H p = none → Q (.ref p) (upd H p (.lst (cutV xs lo hi)))) : rSlLS K x lo hi H Q
noncomputable def rSlL (K : PySem.W.Frag) : V → Option Int → Option Int → Hp → VK → Prop := fun x lo hi H Q => rSlLS K x lo hi H Q
theorem sl_list : SlR X (rSlL X.K) := by
  intro pins s σ H x v vl vu lo hi sl Q I rx hs pl pu h
  obtain ⟨a, xs, rfl, hx, q⟩ := h
  cases rx
  obtain ⟨its, r, ht, hz⟩ := I.list hx
  have hlen := r.length
  refine ⟨"list", _, slot_list_getitem.lookup, ht.isList.typeIs, ?_⟩
  refine wpAny_getItem_list_slice ht.isList hs pl pu .none (by simp) ?_ (by rw [List.size_toArray] <;> lia)
  rw [slicePick_cut, ← hlen]
  refine ⟨.ref s.heap.objs.size, _, I.laid (t' := s.toks) (o := .lst (cutV xs lo hi)) (fun b ob q => Heap.get?_push_of_some _ q) (Nat.le_refl _) ?_, rfl, q _ (I.hok.fresh (Nat.le_refl _))⟩
  exact ⟨Nat.le_trans (cutV_length xs lo hi) hz, _, 0, (r.drop (HT.sIx xs.length 0 lo)).take (HT.sIx xs.length xs.length hi - HT.sIx xs.length 0 lo), Heap.get?_push_size _ rfl⟩
noncomputable def flatV : V → Bool
  | .non => true
  | .bl _ => true
  | .int _ => true
  | .str _ => true
  | _ => false
noncomputable def eqV : V → V → Bool
  | .non, .non => true
  | .bl a, .bl b => a == b
  | .bl a, .int b => (if a then 1 else 0) == b
  | .int a, .bl b => a == (if b then 1 else 0)
  | .int a, .int b => a == b
  | .str a, .str b => a == b
  | _, _ => false
theorem eqAt_V {A : Around} {s : Shared} {y x : V} {u v : Value} (ry : RelV y u) (rx : RelV x v) (fy : flatV y = true) (fx : flatV x = true) : SeqAt.EqAt A s u v (eqV y x) := by
  cases y with
  | non =>
    cases ry
    cases x with
    | non => cases rx; exact SeqAt.EqAt.same _
    | bl b => cases rx; exact SeqAt.EqAt.none_bool b
    | int b => obtain ⟨t, rfl⟩ := rx; exact SeqAt.EqAt.none_int b t
    | str b => obtain ⟨t, rfl⟩ := rx; exact SeqAt.EqAt.none_str b t
    | _ => exact absurd (show false = true from fx) Bool.false_ne_true
  | bl a =>
    cases ry
    cases x with
    | non => cases rx; exact SeqAt.EqAt.bool_none a
    | bl b => cases rx; exact SeqAt.EqAt.bool_bool a b
    | int b => obtain ⟨t, rfl⟩ := rx; exact SeqAt.EqAt.bool_int a b t
    | str b => obtain ⟨t, rfl⟩ := rx; exact SeqAt.EqAt.bool_str a b t
    | _ => exact absurd (show false = true from fx) Bool.false_ne_true
  | int a =>
    obtain ⟨t', rfl⟩ := ry
    cases x with
    | non => cases rx; exact SeqAt.EqAt.int_none a t'
    | bl b => cases rx; exact SeqAt.EqAt.int_bool a t' b
    | int b => obtain ⟨t, rfl⟩ := rx; exact SeqAt.EqAt.int_int a t' b t
    | str b => obtain ⟨t, rfl⟩ := rx; exact SeqAt.EqAt.int_str a t' b t
    | _ => exact absurd (show false = true from fx) Bool.false_ne_true
  | str a =>
    obtain ⟨t', rfl⟩ := ry
    cases x with
    | non => cases rx; exact SeqAt.EqAt.str_none a t'
    | bl b => cases rx; exact SeqAt.EqAt.str_bool a t' b
    | int b => obtain ⟨t, rfl⟩ := rx; exact SeqAt.EqAt.str_int a t' b t
    | str b => obtain ⟨t, rfl⟩ := rx; exact SeqAt.EqAt.str_str a t' b t
    | _ => exact absurd (show false = true from fx) Bool.false_ne_true
  | _ => exact absurd (show false = true from fy) Bool.false_ne_true
noncomputable def eqU (x : V) (u : Value) : Bool := match u with
  | .none => eqV .non x
  | .bool b => eqV (.bl b) x
  | .int i _ => eqV (.int i) x
  | .str z _ => eqV (.str z) x
  | _ => false
theorem eqU_of {x y : V} {u : Value} (r : RelV y u) (f : flatV y = true) : eqU x u = eqV y x := by
  cases y with
  | non => cases r; rfl
  | bl b => cases r; rfl
  | int i => obtain ⟨t, rfl⟩ := r; rfl
  | str z => obtain ⟨t, rfl⟩ := r; rfl
  | _ => exact absurd (show false = true from f) Bool.false_ne_true
theorem any_eqU {x : V} : ∀ {xs : List V} {us : List Value}, Vals xs us → xs.all flatV = true → us.any (eqU x) = xs.any fun y => eqV y x
  | _, _, .nil, _ => rfl
  | y :: xs, u :: us, .cons r t, f => by
    rw [List.all_cons, Bool.and_eq_true] at f
    rw [List.any_cons, List.any_cons, eqU_of r f.1, any_eqU t f.2]
theorem mem_eqAt {A : Around} {s : Shared} {x : V} {v : Value} (rx : RelV x v) (fx : flatV x = true) : ∀ {xs : List V} {us : List Value}, Vals xs us → xs.all flatV = true → ∀ u ∈ us, SeqAt.EqAt A s u v (eqU x u)
  | _, _, .nil, _ => fun u hu => by cases hu
  | y :: xs, u :: us, .cons r t, f => fun u' hu => by
    rw [List.all_cons, Bool.and_eq_true] at f
    rcases List.mem_cons.mp hu with rfl | hu
    · rw [eqU_of r f.1]; exact eqAt_V r rx f.1 fx
    · exact mem_eqAt rx fx t f.2 u' hu
noncomputable def inV (x : V) (xs : List V) : Bool := xs.any fun y => eqV y x
inductive rInS (K : PySem.W.Frag) (neg : Bool) (x y : V) (H : Hp) (Q : VK) : Prop
  | mk (p : Addr) (xs : List V) (h0 : y = .ref p) (h1 : (SqL K H p xs ∨ SqT K H p xs)) (h2 : flatV x = true) (h3 : xs.all flatV = true) (h4 : Q (.bl (if neg then !inV x xs else inV x xs)) H) : rInS K neg x y H Q
noncomputable def rIn (K : PySem.W.Frag) (neg : Bool) : R2 := fun x y H Q => rInS K neg x y H Q
theorem op_in_seq : OpR X (compareOp .In) (rIn X.K false) := by
  intro pins s σ H x y v u Q I rx ry h
  obtain ⟨p, xs, rfl, hq, fx, fs, q⟩ := h
  cases ry
  rcases hq with hq | hq
  · obtain ⟨its, r, pl, hz⟩ := I.list hq
    refine SeqAt.in_listAt (eqU x) pl.isList (fun w hw => mem_eqAt rx fx r fs w (by simpa using hw)) ⟨.bl _, H, I, rfl, ?_⟩
    rw [show its.toArray.any (eqU x) = its.any (eqU x) by simp, any_eqU r fs]
    exact q
  · obtain ⟨its, r, pl, hz⟩ := I.tuple hq
    refine SeqAt.in_tupleAt (eqU x) pl (fun w hw => mem_eqAt rx fx r fs w (by simpa using hw)) ⟨.bl _, H, I, rfl, ?_⟩
    rw [show its.toArray.any (eqU x) = its.any (eqU x) by simp, any_eqU r fs]
    exact q
theorem op_notIn_seq : OpR X (compareOp .NotIn) (rIn X.K true) := by
  intro pins s σ H x y v u Q I rx ry h
  obtain ⟨p, xs, rfl, hq, fx, fs, q⟩ := h
  cases ry
  rcases hq with hq | hq
  · obtain ⟨its, r, pl, hz⟩ := I.list hq
    refine SeqAt.notIn_listAt (eqU x) pl.isList (fun w hw => mem_eqAt rx fx r fs w (by simpa using hw)) ⟨.bl _, H, I, rfl, ?_⟩
    rw [show its.toArray.any (eqU x) = its.any (eqU x) by simp, any_eqU r fs]
    exact q
  · obtain ⟨its, r, pl, hz⟩ := I.tuple hq
    refine SeqAt.notIn_tupleAt (eqU x) pl (fun w hw => mem_eqAt rx fx r fs w (by simpa using hw)) ⟨.bl _, H, I, rfl, ?_⟩
    rw [show its.toArray.any (eqU x) = its.any (eqU x) by simp, any_eqU r fs]
    exact q
theorem call_len_seq : CallR X (.builtin "len") (fun xs H Q => ∃ p ys, xs = [.ref p] ∧ (SqL X.K H p ys ∨ SqT X.K H p ys) ∧ Q (.int ys.length) H) := by
  intro pins s σ H xs us Q I r h
  obtain ⟨p, ys, rfl, hq, q⟩ := h
  obtain ⟨u, rfl, rx⟩ := vals1 r
  cases rx
  have hn := line63
  rcases hq with hq | hq
  · obtain ⟨its, r', pl, hz⟩ := I.list hq
    have hlen := r'.length
    exact Calls.call_len_list pl.isList (by simp only [List.size_toArray] <;> lia) ⟨.int ys.length, H, I.tok _, ⟨s.toks + 1, by rw [List.size_toArray, hlen]⟩, q⟩
  · obtain ⟨its, r', pl, hz⟩ := I.tuple hq
    have hlen := r'.length
    exact len_tuple pl (by simp only [List.size_toArray] <;> lia) ⟨.int ys.length, H, I.tok _, ⟨s.toks + 1, by rw [List.size_toArray, hlen]⟩, q⟩
theorem call_len_str : CallR X (.builtin "len") (fun xs H Q => ∃ z, xs = [.str z] ∧ z.length ≤ sizeLine ∧ Q (.int z.length) H) := by
  intro pins s σ H xs us Q I r h
  obtain ⟨z, rfl, hz, q⟩ := h
  obtain ⟨u, rfl, t, rfl⟩ := vals1 r
  have hn := line63
  exact len_str (by lia) ⟨.int z.length, H, I.tok _, ⟨_, rfl⟩, q⟩
theorem call_list_of : CallR X (.type "list") (fun xs H Q => ∃ p ys, xs = [.ref p] ∧ (SqL X.K H p ys ∨ SqT X.K H p ys) ∧ ∀ l, H l = none → Q (.ref l) (upd H l (.lst ys))) := by
  intro pins s σ H xs us Q I r h
  obtain ⟨p, ys, rfl, hq, q⟩ := h
  obtain ⟨u, rfl, rx⟩ := vals1 r
  cases rx
  have fin : ∀ (its : List Value), Vals ys its → ys.length ≤ sizeLine → ∀ (h' : Heap) (c' : Nat), (∀ b o', s.heap.get? b = some o' → h'.get? b = some o') →
      h'.get? s.heap.objs.size = some { cls := .type "list", dict := none, data := .seq its.toArray c', slots := #[] } → EP X pins σ Q (.ref s.heap.objs.size) { s with heap := h' } := fun its r' hz h' c' kp e =>
    ⟨.ref s.heap.objs.size, _, I.laid (t' := s.toks) kp (Nat.le_refl _) (show ObjOk X.prog X.w _ h' _ (.lst ys) from ⟨hz, its, c', r', e⟩), rfl, q _ (I.hok.fresh (Nat.le_refl _))⟩
  rcases hq with hq | hq
  · obtain ⟨its, r', pl, hz⟩ := I.list hq
    have hlen := r'.length
    obtain ⟨o, ho, hc, n, hd⟩ := pl.isList
    exact call_list_seq p (.inl rfl) ho hc hd (fun h' c' kp e => fin its r' hz h' c' kp e) (by simp only [List.size_toArray] <;> lia)
  · obtain ⟨its, r', pl, hz⟩ := I.tuple hq
    have hlen := r'.length
    obtain ⟨o, ho, hc, n, hd⟩ := pl
    exact call_list_seq p (.inr rfl) ho hc hd (fun h' c' kp e => fin its r' hz h' c' kp e) (by simp only [List.size_toArray] <;> lia)
theorem call_tuple_of : CallR X (.type "tuple") (fun xs H Q => ∃ p ys, xs = [.ref p] ∧ ((SqL X.K H p ys ∧ ∀ l, H l = none → Q (.ref l) (upd H l (.tup ys))) ∨ (SqT X.K H p ys ∧ Q (.ref p) H))) := by
  intro pins s σ H xs us Q I r h
  obtain ⟨p, ys, rfl, h⟩ := h
  obtain ⟨u, rfl, rx⟩ := vals1 r
  cases rx
  rcases h with ⟨hq, q⟩ | ⟨hq, q⟩
  · obtain ⟨its, r', pl, hz⟩ := I.list hq
    have hlen := r'.length
    refine call_tuple_list pl.isList (fun h' kp => ?_) (by simp only [List.size_toArray] <;> lia)
    have I1 : Inv X pins σ H { s with heap := h' } := I.kept (t' := s.toks) kp
    have I2 : Inv X pins σ (upd H h'.objs.size (.tup ys)) { s with heap := h'.push { cls := .type "tuple", data := .seq its.toArray } } :=
      I1.laid (t' := s.toks) (fun b o e => Heap.get?_push_of_some _ e) (Nat.le_refl _) (show ObjOk X.prog X.w _ _ _ (.tup ys) from ⟨hz, its, r', IsTup.new _ _⟩)
    exact ⟨.ref h'.objs.size, _, I2, rfl, q _ (I1.hok.fresh (Nat.le_refl _))⟩
  · obtain ⟨its, r', pl, hz⟩ := I.tuple hq
    exact call_tuple_same pl ⟨.ref p, H, I, rfl, q⟩
noncomputable def tyV (K : PySem.W.Frag) (T : String) (x : V) (H : Hp) : Prop := match x with
  | .str _ => T = "str"
  | .int _ => T = "int"
  | .ref p => (T = "list" ∧ ∃ xs, SqL K H p xs) ∨ (T = "tuple" ∧ ∃ o, K.lookup p = some o ∧ o.cls = .type "tuple" ∧ o.dict = none) ∨
      (T = "dict" ∧ ((∃ kvs, H p = some (.dK kvs)) ∨ ∃ kvs, H p = some (.dT kvs))) ∨ (T = "set" ∧ ∃ S n, H p = some (.set S n))
  | _ => False
theorem tyV_is {pins : List (Addr × Obj)} {σ : St} {H : Hp} {s : Shared} {T : String} {x : V} {v : Value} (I : Inv X pins σ H s) (r : RelV x v) (ty : tyV X.K T x H) :
    s.TypeIs v T ∧ ∀ a, v = .ref a → ∃ ob, s.heap.get? a = some ob ∧ ob.dict = none := by
  cases x with
  | str z =>
    obtain ⟨t, rfl⟩ := r
    cases (show T = "str" from ty)
    exact ⟨typeIs_str s z t, fun _ e => nomatch e⟩
  | int i =>
    obtain ⟨t, rfl⟩ := r
    cases (show T = "int" from ty)
    exact ⟨typeIs_int s i t, fun _ e => nomatch e⟩
  | ref p =>
    cases r
    rcases ty with ⟨rfl, xs, hq⟩ | ⟨rfl, o, hk, hc, hd⟩ | ⟨rfl, hk⟩ | ⟨rfl, S, n, hk⟩
    · obtain ⟨its, _, pl, _⟩ := I.list hq
      refine ⟨pl.isList.typeIs, fun a e => ?_⟩
      cases e
      obtain ⟨o, n, e, c, hd, _⟩ := pl
      exact ⟨o, e, hd⟩
    · refine ⟨⟨o, I.kIn p o hk, hc⟩, fun a e => ?_⟩
      cases e
      exact ⟨o, I.kIn _ o hk, hd⟩
    · have z : ∃ o, s.heap.get? p = some o ∧ o.ExactDict := by
        rcases hk with ⟨kvs, hk⟩ | ⟨kvs, hk⟩
        · obtain ⟨_, _, _, _, o, _, _, e, ex, _⟩ := I.hok p _ hk
          exact ⟨o, e, ex⟩
        · obtain ⟨_, _, _, _, o, _, _, e, ex, _⟩ := I.hok p _ hk
          exact ⟨o, e, ex⟩
      obtain ⟨o, e, ex⟩ := z
      refine ⟨⟨o, e, ex.1⟩, fun a e2 => ?_⟩
      cases e2
      exact ⟨o, e, ex.2.1⟩
    · obtain ⟨o, _, _, _, e, ex, _⟩ := I.hok p _ hk
      refine ⟨⟨o, e, ex.1⟩, fun a e2 => ?_⟩
      cases e2
      exact ⟨o, e, ex.2.1⟩
  | _ => exact False.elim ty
noncomputable def tBM (K : PySem.W.Frag) (T : String) (r : V → List V → Hp → VK → Prop) (to : TE) (t : TA) : TE := fun σ H Q => to σ H fun x H1 => tyV K T x H1 ∧ t σ H1 fun xs H2 => r x xs H2 Q
variable {o e : Expr} {es : List Expr} {to : TE} {t : TA} {name : Str} {apos cpos : Pos} {T id : String} {r : V → List V → Hp → VK → Prop}
theorem pe_bm (pa : PlainAttrs T) (slot : Slot T name id) (hty : typeOf (.builtin id) = pure (.type "method_descriptor")) (hm : MtR X id r) (ho : PE X o to) (ha : PA X (e :: es) t)
    (hbase : attributeBase o name X.env (eval o X.env) = eval o X.env := by rfl)
    (hfew : ((backTo cpos (starEach (e :: es) X.env)).all (fun x => !x.1) && (backToKw cpos (keywordEach [] X.env)).all (fun x => x.1.isSome)
      && decide ((e :: es).length + ([] : List Keyword).length + (if ([] : List Keyword).isEmpty then 0 else 1) < 30)) = true := by rfl)
    (hline : (apos.endLine == cpos.line) = true := by rfl) (hs : starEach (e :: es) X.env = (false, eval e X.env) :: starEach es X.env := by rfl) (hplain : (backTo cpos (starEach es X.env)).any (·.1) = false := by rfl) :
    PE X (.Call (.Attribute o name apos) (e :: es) [] cpos) (tBM X.K T r to t) := by
  intro pins s σ H Q I h
  refine wpAny_Call_method_late hbase hfew hline rfl (thn (ho pins s σ H _ I h) fun v s1 zq => ?_)
  obtain ⟨x, H1, I1, r1, ty, q1⟩ := zq
  obtain ⟨h1, h2⟩ := tyV_is I1 r1 ty
  refine ⟨T, id, pa, slot, hty, h1, h2, ?_⟩
  have hA := ha cpos pins s1 σ H1 _ I1 q1
  rw [hs] at hA ⊢
  refine Calls.callWith_builtin (by show (false || (backTo cpos (starEach es X.env)).any (·.1)) = false; rw [hplain] <;> rfl) (Calls.evalArgs_plain ?_)
  exact thn hA fun us s2 ⟨vs, H2, I2, r2, q2⟩ => hm pins s2 σ H2 x vs v us Q I2 r1 r2 q2
/- xs.append(e), list.index on a module's tuple .. are MtR facts of 06m -/
end
end L2
namespace L2
open PySem PySem.Spec PyProof.Rows
noncomputable def MtM (X : Cx) (id : String) (r : V → List V → Hp → VK → Prop) : Prop :=
  ∀ (pins : List (Addr × Obj)) (s : Shared) (σ : St) (H : Hp) (x : V) (xs : List V) (v : Value) (us : List Value) (Q : VK), Inv X pins σ H s → RelV x v → Vals xs us → r x xs H Q →
    wpAny (model X.prog X.w) X.A (call (.builtin id) (v :: us)) (EP X pins σ Q) X.xe s
theorem Vals.one : ∀ {x : V} {us : List Value}, Vals [x] us → ∃ u, us = [u] ∧ RelV x u
  | _, _, .cons r .nil => ⟨_, rfl, r⟩
theorem Vals.rep {xs : List V} {us : List Value} (h : Vals xs us) : ∀ k : Nat, Vals (List.replicate k xs).flatten (List.replicate k us).flatten
  | 0 => .nil
  | k + 1 => by
    rw [List.replicate_succ, List.replicate_succ, List.flatten_cons, List.flatten_cons]
    exact Vals.append h (Vals.rep h k)
theorem foldl_rep (its : List Value) : ∀ (k : Nat) (acc : List Value),
    List.foldl (fun x1 x2 => x1 ++ x2) acc.toArray (List.replicate k its.toArray) = (acc ++ (List.replicate k its).flatten).toArray
  | 0, acc => by simp
  | k + 1, acc => by
    have e : acc.toArray ++ its.toArray = (acc ++ its).toArray := by simp
    have e2 : (acc ++ its) ++ (List.replicate k its).flatten = acc ++ (List.replicate (k + 1) its).flatten := by
      rw [List.replicate_succ, List.flatten_cons, List.append_assoc]
    rw [← e2, ← foldl_rep its k (acc ++ its), ← e, List.replicate_succ, List.foldl_cons]
section
variable {X : Cx} {pins : List (Addr × Obj)} {σ : St} {H : Hp} {s : Shared} {l b : Addr} {xs ys zs : List V}
theorem Inv.lset {its its' : List Value} {n : Nat} {f : Array Value → Array Value} {t' : Nat} (I : Inv X pins σ H s) (hH : H l = some (.lst xs))
    (e : s.heap.get? l = some { cls := .type "list", data := .seq its.toArray n }) (hf : f its.toArray = its'.toArray) (hv : Vals ys its') (hz : ys.length ≤ sizeLine) :
    Inv X pins σ (upd H l (.lst ys)) { s with heap := s.heap.update l (Obj.mapSeq f), toks := t' } := by
  have q := PySem.IsL.update e f
  rw [hf] at q
  refine I.write (x := l) (e := l) (by rw [hH]; exact trivial) (.inl rfl) (fun b' u hb hu => (Heap.get?_update_other s.heap (Obj.mapSeq f) (Ne.symm hb)).trans hu) ⟨_, q⟩ ?_
  exact ⟨hz, its', _, hv, q⟩
theorem Inv.lnew {its : List Value} {t' : Nat} (I : Inv X pins σ H s) (hv : Vals ys its) (hz : ys.length ≤ sizeLine) :
    Inv X pins σ (upd H s.heap.objs.size (.lst ys)) { s with heap := s.heap.push { cls := .type "list", data := .seq its.toArray }, toks := t' } :=
  I.laid (fun _ _ q => Heap.get?_push_of_some _ q) (Nat.le_refl _) ⟨hz, its, 0, hv, Heap.get?_push_size _ rfl⟩
theorem Inv.fresh (I : Inv X pins σ H s) : H s.heap.objs.size = none := I.hok.fresh (Nat.le_refl _)
theorem Inv.lstM (I : Inv X pins σ H s) (hH : H l = some (.lst xs)) : xs.length ≤ sizeLine ∧ ∃ (its : List Value) (n : Nat), Vals xs its ∧ xs.length = its.length ∧ s.heap.get? l = some { cls := .type "list", data := .seq its.toArray n } := by
  obtain ⟨z, its, n, r, e⟩ := I.hok l _ hH
  exact ⟨z, its, n, r, r.length, e⟩
theorem notLongL {n : Nat} (h : n ≤ sizeLine) : Builtin.List.listTooLong n = false := by
  unfold Builtin.List.listTooLong
  exact decide_eq_false (by lia)
end
section
variable {X : Cx}
inductive rAppendS (x : V) (vs : List V) (H : Hp) (Q : VK) : Prop
  | mk (l : Addr) (xs : List V) (y : V) (h0 : x = .ref l) (h1 : vs = [y]) (h2 : H l = some (.lst xs)) (h3 : xs.length < sizeLine) (h4 : Q .non (upd H l (.lst (xs ++ [y])))) : rAppendS x vs H Q
noncomputable def rAppend : V → List V → Hp → VK → Prop := fun x vs H Q => rAppendS x vs H Q
theorem mt_append : MtM X "list.append" rAppend := by
  intro pins s σ H x vs v us Q I rx rv h
  obtain ⟨l, xs, y, rfl, rfl, hH, hz, q⟩ := h
  cases rx
  obtain ⟨u, rfl, ru⟩ := rv.one
  obtain ⟨z, its, n, r, hl, e⟩ := I.lstM hH
  refine call_meets F.slot_list_append ⟨_, e, rfl⟩ F.entry_list_append (F.args_list_append_2 _ _) (PySem.list_append l its.toArray n u (by rw [List.size_toArray]; lia)) ⟨e, ?_⟩
  refine ⟨.non, _, I.lset (its' := its ++ [u]) hH e (by simp) (r.append (.cons ru .nil)) ?_, rfl, q⟩
  rw [List.length_append, List.length_singleton]
  lia
inductive rExtendS (x : V) (vs : List V) (H : Hp) (Q : VK) : Prop
  | mk (l b : Addr) (xs zs : List V) (h0 : x = .ref l) (h1 : vs = [.ref b]) (h2 : H l = some (.lst xs)) (h3 : H b = some (.lst zs)) (h4 : xs.length + zs.length ≤ sizeLine) (h5 : Q .non (upd H l (.lst (xs ++ zs)))) : rExtendS x vs H Q
noncomputable def rExtend : V → List V → Hp → VK → Prop := fun x vs H Q => rExtendS x vs H Q
theorem mt_extend : MtM X "list.extend" rExtend := by
  intro pins s σ H x vs v us Q I rx rv h
  obtain ⟨l, b, xs, zs, rfl, rfl, hH, hB, hz, q⟩ := h
  cases rx
  obtain ⟨u, rfl, ru⟩ := rv.one
  cases ru
  obtain ⟨z, its, n, r, hl, e⟩ := I.lstM hH
  obtain ⟨z2, its2, n2, r2, hl2, e2⟩ := I.lstM hB
  have hsz : its.toArray.size + its2.toArray.size ≤ sizeLine := by rw [List.size_toArray, List.size_toArray]; lia
  have hlong : ¬ (!its.toArray.isEmpty && Builtin.List.listTooLong (its.toArray.size + its2.toArray.size)) = true := by
    rw [notLongL hsz, Bool.and_false]
    exact Bool.false_ne_true
  refine call_meets F.slot_list_extend ⟨_, e, rfl⟩ F.entry_list_extend (F.args_list_extend_2 _ _)
    (AutoSeq1.list_extend_list_list_0 l its.toArray n b its2.toArray n2 hlong (by rw [List.size_toArray]; lia) (by lia)) ⟨e, e2, ?_⟩
  refine ⟨.non, _, I.lset (its' := its ++ its2) hH e (by simp) (r.append r2) ?_, rfl, q⟩
  rw [List.length_append]
  lia
inductive rCatS (x y : V) (H : Hp) (Q : VK) : Prop
  | mk (l b : Addr) (xs zs : List V) (h0 : x = .ref l) (h1 : y = .ref b) (h2 : H l = some (.lst xs)) (h3 : H b = some (.lst zs)) (h4 : xs.length + zs.length ≤ sizeLine) (h5 : ∀ p, H p = none → Q (.ref p) (upd H p (.lst (xs ++ zs)))) : rCatS x y H Q
noncomputable def rCat : R2 := fun x y H Q => rCatS x y H Q
theorem op_cat : OpR X (binaryOp .Add) rCat := by
  intro pins s σ H x y v u Q I rx ry h
  obtain ⟨l, b, xs, zs, rfl, rfl, hH, hB, hz, q⟩ := h
  cases rx
  cases ry
  obtain ⟨z, its, n, r, hl, e⟩ := I.lstM hH
  obtain ⟨z2, its2, n2, r2, hl2, e2⟩ := I.lstM hB
  refine PySem.P.add_list e e2 ?_ (by rw [List.size_toArray, List.size_toArray]; lia)
  have ea : its.toArray ++ its2.toArray = (its ++ its2).toArray := by simp
  rw [ea]
  exact ⟨.ref _, _, I.lnew (t' := s.toks) (r.append r2) (by rw [List.length_append]; lia), rfl, q _ I.fresh⟩
noncomputable def rRep : R2 := fun x y H Q => ∃ l k xs, x = .ref l ∧ y = .int k ∧ H l = some (.lst xs) ∧ -(2 ^ 63) ≤ k ∧ k < 2 ^ 63 ∧ xs.length * k.toNat ≤ sizeLine ∧
  ∀ p, H p = none → Q (.ref p) (upd H p (.lst (List.replicate k.toNat xs).flatten))
theorem len_rep {α : Type} (xs : List α) (k : Nat) : (List.replicate k xs).flatten.length = k * xs.length := by
  induction k with
  | zero => simp
  | succ k ih => rw [List.replicate_succ, List.flatten_cons, List.length_append, ih, Nat.succ_mul, Nat.add_comm]
theorem op_rep : OpR X (binaryOp .Mult) rRep := by
  intro pins s σ H x y v u Q I rx ry h
  obtain ⟨l, k, xs, rfl, rfl, hH, h1, h2, hz, q⟩ := h
  cases rx
  obtain ⟨t, rfl⟩ := ry
  obtain ⟨z, its, n, r, hl, e⟩ := I.lstM hH
  have hlen : its.toArray.size * k.toNat ≤ sizeLine := by rw [List.size_toArray, ← hl]; exact hz
  have hcap : ¬ its.toArray.size * k.toNat > (2 ^ 63 - 1) / 8 := by
    have : (sizeLine : Nat) ≤ (2 ^ 63 - 1) / 8 := by decide
    lia
  have hfit : ¬ (!Builtin.List.listFitsIndex k) = true := by
    rw [fitsIndex_both h1 h2]
    exact Bool.false_ne_true
  have hlong : ¬ Builtin.List.listTooLong (its.toArray.size * k.toNat) = true := by
    rw [notLongL hlen]
    exact Bool.false_ne_true
  have hnew : List.foldl (fun x1 x2 => x1 ++ x2) #[] (List.replicate (if its.toArray.isEmpty = true then 0 else k.toNat) its.toArray) = (List.replicate k.toNat its).flatten.toArray := by
    have f0 : ∀ m : Nat, List.foldl (fun x1 x2 => x1 ++ x2) #[] (List.replicate m its.toArray) = (List.replicate m its).flatten.toArray := fun m => by
      have := foldl_rep its m []
      rw [List.nil_append] at this
      exact this
    rw [f0]
    cases its with
    | nil => simp
    | cons a r' => rw [if_neg (by simp)]
  refine wpAny_binaryOp_repeat_ref (T := "list") (U := "int") (by decide) ⟨_, e, rfl⟩ (fun s' => typeIs_int s' k t) noFill_list_mul F.fills_int_mul F.slot_int_rmul repeat_list F.slot_int_index.lookup
    (call_meets F.slot_int_rmul (typeIs_int s k t) F.entry_int_rmul (F.args_int_rmul_2 _ _) (int___rmul___int_list k t l its.toArray n)
      ⟨e, rfl, ⟨_, e, rfl⟩, call_meets F.slot_list_mul ⟨_, e, rfl⟩ F.entry_list_mul (F.args_list_mul_2 _ _) (AutoListH.list___mul___list_int_3 l its.toArray n k t hfit hcap hlong) ⟨e, ?_⟩⟩)
  rw [hnew]
  exact ⟨.ref _, _, I.lnew (t' := s.toks) (r.rep k.toNat) (by rw [len_rep, Nat.mul_comm]; exact hz), rfl, q _ I.fresh⟩
end
section
variable {prog : Program} {w : World} {A : Around} {E : Value → Shared → Prop} {s : Shared}
end
section
variable {X : Cx}
end
end L2
namespace Att
open PySem PySem.W PySem.Calls PyProof.Rows
theorem ints_of_wellAll {P : Params} {h : Heap} : ∀ (ns : List Int) (vs : List Value), WellAll P h vs (ns.map WData.int) → IntsAre vs ns := by
  intro ns
  induction ns with
  | nil =>
    intro vs w
    rw [List.map_nil] at w
    cases w
    exact .nil
  | cons n ns ih =>
    intro vs w
    rw [List.map_cons] at w
    cases w with
    | cons a b =>
      cases a
      exact .cons _ _ (ih _ b)
theorem script_of {l : OpenLaw} {n : Nat} (hn : l.most = some n) {P : Params} {h : Heap} {args : List WData} {vals : List Value}
    (hpre : l.row.toRowW.claim.pre args = true) (hwl : WellAll P h vals args) :
    ∃ a vs ns, vals = [Value.ref a] ∧ args = [WData.list (ns.map WData.int)] ∧ h.get? a = some { cls := .type "list", data := .seq vs.toArray } ∧ IntsAre vs ns ∧ ns.length ≤ n := by
  have hsh : WShape.hasAll [] args [.list .int] = true := (pre_splitW hpre).1
  have hc : l.pre.holds [] { args := args } = true := (pre_splitW hpre).2
  obtain ⟨d, r, rfl, h1, h2⟩ := hasAllW_cons hsh
  obtain rfl := hasAllW_nil h2
  obtain ⟨xs, rfl, h3⟩ := hasW_list h1
  obtain ⟨ns, rfl⟩ := items_int h3
  have hlen : ns.length ≤ n := by
    unfold OpenLaw.pre at hc
    have h4 : (WTm.not (.lt (.lit (.int (n : Int))) (.len (.arg 0)))).holds [] { args := [.list (ns.map .int)] } = true := by
      have h4 := (holds_andW hc).1
      rw [hn] at h4
      exact h4
    have h5 := condW_of h4 (w_not (w_lt w_lit (w_len_list (w_arg rfl))))
    rw [List.length_map] at h5
    refine Nat.le_of_not_lt fun q => ?_
    have q' : (n : Int) < ((ns.length : Nat) : Int) := by lia
    first
      | (rw [decide_eq_true q'] at h5; exact absurd h5 (by decide))
      | (simp at h5; lia)
  cases hwl with
  | cons w1 w2 =>
    cases w2
    cases w1 with
    | list ho hall => exact ⟨_, _, ns, rfl, rfl, ho, ints_of_wellAll ns _ hall, hlen⟩
theorem post_true (l : OpenLaw) (args : List WData) : l.row.toRowW.claim.post args (.bool true) args = true :=
  postW_of (r := l.row.toRowW) (X := (true == true))
    (show WShape.has [] (.bool true) .bool = true by first | rfl | decide | simp [WShape.has, WShape.arms, WShape.armsAll])
    (show (WTm.eq .res (.lit (.bool true))).value [] { args := args, res := some (.bool true), after := args } = some (.bool (true == true)) from w_eq_bool (w_res rfl) w_lit) rfl
theorem attach_call {l : OpenLaw} {n : Nat} {q : Program} {loose : List Str} {XP : (Str → Option Value) → Heap → Prop} {YP : World → Heap → Prop} {d : DefRec}
    (hn : l.most = some n) (hdf : d.params.defaults = [])
    (call : ∀ (w : World) (s₀ s₁ : Shared) (mg mb : Str → Option Value) (fa : Addr) (o : Obj) (pm cd doc : Value) (a : Addr) (vs : List Value) (ns : List Int),
      Ground q loose [] XP w s₀ mg mb s₁.heap → YP w s₁.heap →
      s₁.heap.get? fa = some o → o.data = .func (docDef d.name d.params d.body d.scope pm cd doc) → s₁.heap.CodeRec cd d.name → mg d.name = some (.ref fa) →
      s₁.heap.get? a = some { cls := .type "list", data := .seq vs.toArray } → IntsAre vs ns → ns.length ≤ n → s₁.gens = #[] →
      codeAny (model l.prog w) callerA (.call (.ref fa) ⟨[.ref a], []⟩) (fun r s' => r = .ok (.ret (.bool true)) ∧ OldK s₁.heap s'.heap ∧ s'.os = s₁.os ∧ AllBare s'.gens) s₁) :
    WalkO q loose XP YP l.row.toRowW d [] (fun f vs => PySem.call f vs) := by
  intro w s₀ s₁ mg mb G Y fa o pm cd doc dV kV ho hd hcd hD hmg hg args vals as hpre hlay hrd hwl hlo
  obtain rfl : dV = .none := Dflts.none hD hdf
  obtain rfl : kV = .none := Dflts.noKw hD
  obtain ⟨a, vs, ns, rfl, rfl, hobj, hints, hlen⟩ := script_of hn hpre hwl
  refine enter_call (codeAny_mono (call w s₀ s₁ mg mb fa o pm cd doc a vs ns G Y ho (fd_plain hd) hcd hmg hobj hints hlen hg) fun r s' hq => ?_)
  obtain ⟨rfl, h2, h3, h4⟩ := hq
  exact ⟨.inl ⟨.bool true, .bool true, [], rfl, fun _ => rfl, .bool true, post_true l _, fun _ => ⟨List.Pairwise.nil, fun _ hm => (nomatch hm)⟩⟩, h2, h3, h4⟩
section
variable {prog : Program} {w : World} {A : Around} {E : Value → Shared → Prop} {s : Shared} {K : Frag}
end
end Att
namespace L2
open PySem PySem.Spec PyProof.Rows
theorem vals_ints : ∀ {vs : List Value} {ns : List Int}, IntsAre vs ns → Vals (ns.map V.int) vs
  | _, _, .nil => .nil
  | _, _, .cons n t h => .cons ⟨t, rfl⟩ (vals_ints h)
noncomputable def Only (H : Hp) : Prop := ∀ b, H b = none ∨ ∃ o xs, H b = some (.frz o (.lst xs))
theorem law_call {P : Program} {w : World} {K : PySem.W.Frag} {mg mb : Str → Option Value} {CX : CXT} {k : Nat} {fa a : Addr} {fd : FuncData} {x : Str} {sp : Sp} {s₁ : Shared} {vs : List Value} {ns : List Int}
    (KX : K.In s₁.heap) (hns : s₁.heap.Ns mainGlobals mg) (hb : s₁.heap.Ns builtinsNs mb) (hbb : ∀ x : Str, x ≠ "__name__" → mb x = bootBuiltins x) (hlim : s₁.heap.NoLimit) (hg : s₁.gens = #[])
    (ha : s₁.heap.get? a = some { cls := .type "list", data := .seq vs.toArray }) (hi : IntsAre vs ns) (hl : ns.length ≤ sizeLine) (hr : Room k callerA)
    (F : ∀ base : Heap, K.In base → base.Ns mainGlobals mg → FnOk P w K mg base CX k fa fd [x] sp) (hbind : ∀ (s : Shared) (u : Value), BindsTo s fd ⟨[u], []⟩ [(x, u)])
    (hsp : ∀ H : Hp, Only H → SqL K H a (ns.map V.int) → sp [.ref a] H (fun v _ => v = .bl true) fun _ _ _ => False)
    (hCX : ∀ H e s', CX [] H s₁ (fun _ _ _ => False) e s' → False) :
    codeAny (model P w) callerA (.call (.ref fa) ⟨[.ref a], []⟩) (fun r s' => r = .ok (.ret (.bool true)) ∧ OldK s₁.heap s'.heap ∧ s'.os = s₁.os ∧ AllBare s'.gens) s₁ := by
  have rv := vals_ints hi
  have lenV := hi.length
  have core : ∀ H : Hp, Only H → SqL K H a (ns.map V.int) → HOk P w H s₁.heap → (∀ b, H b ≠ none → b = a) → (H a ≠ none → K.lookup a = none) →
      codeAny (model P w) callerA (.call (.ref fa) ⟨[.ref a], []⟩) (fun r s' => r = .ok (.ret (.bool true)) ∧ OldK s₁.heap s'.heap ∧ s'.os = s₁.os ∧ AllBare s'.gens) s₁ := by
    intro H hO hS hok hA hK
    have base_of : ∀ {b : Addr} {o : Obj}, s₁.heap.get? b = some o → H b = none → (hidT s₁.heap H).get? b = some o := fun e n => hidT_get e n
    have noA : ∀ {b : Addr} {o : Obj} {es : Array DictEntry} {ep : Nat}, s₁.heap.get? b = some o → o.data = .dict es ep → H b = none := fun {b o es ep} e d => by
      cases q : H b with
      | none => rfl
      | some u =>
        have e' : b = a := hA b (by rw [q]; simp)
        subst e'
        rw [ha] at e; cases e
        have d' : Data.seq vs.toArray _ = Data.dict es ep := d
        cases d'
    have nsK : ∀ {b : Addr} {m : Str → Option Value}, s₁.heap.Ns b m → (hidT s₁.heap H).Ns b m := fun {b m} ⟨o, es, ep, e, d, r⟩ => ⟨o, es, ep, base_of e (noA e d), d, r⟩
    have hKb : K.In (hidT s₁.heap H) := fun b o e => base_of (KX b o e) (by
      cases q : H b with
      | none => rfl
      | some u =>
        have e' : b = a := hA b (by rw [q]; simp)
        subst e'
        rw [hK (by rw [q]; simp)] at e; cases e)
    have hM : Mod K mg (hidT s₁.heap H) := ⟨hKb, nsK hns, ⟨mb, nsK hb, hbb⟩, let ⟨mc, h1, h2⟩ := hlim; ⟨mc, nsK h1, h2⟩⟩
    have e0 : Env0 P w K mg (hidT s₁.heap H) callerA [] s₁ H := ⟨rfl, hM, fun b o e => of_hidT e, Nat.le_of_eq (hidT_size _ _), trivial, fun b hb => absurd (show b ∈ ([] : List Addr) from hb) (by simp), hok, .of_eq hg⟩
    refine codeAny_mono ((F _ hKb (nsK hns)).run callerA [] s₁ H ⟨[.ref a], []⟩ [.ref a] [.ref a] _ _ hr e0 (hbind s₁ (.ref a)) (.cons rfl .nil) (hsp H hO hS)) fun r s' h => ?_
    cases r with
    | error e => exact (hCX H e s' h).elim
    | ok fl =>
      cases fl with
      | next => exact False.elim h
      | brk => exact False.elim h
      | cont => exact False.elim h
      | ret u =>
        obtain ⟨v, H', os, bare, un, hok', r', q⟩ := h
        have q' : v = .bl true := q
        subst q'
        obtain rfl : u = Value.bool true := r'
        refine ⟨rfl, OldK.of_keep fun b o e => ?_, os, bare⟩
        cases q : H b with
        | none => exact un.keep b o e q (by intro z; exact absurd (show b ∈ ([] : List Addr) from z) (by simp)) (by simp)
        | some u =>
          rcases hO b with z | ⟨ob, xs, z⟩
          · rw [q] at z; cases z
          · have z2 := un.frzs b ob _ z
            obtain ⟨e1, _⟩ := hok b _ z
            obtain ⟨e2, _⟩ := hok' b _ z2
            rw [e] at e1; cases e1
            exact e2
  cases hk : K.lookup a with
  | some o =>
    have e := KX a o hk
    rw [ha] at e
    cases e
    refine core (fun _ => none) (fun _ => .inl rfl) (.inr ⟨_, vs.toArray, _, hk, rfl, rfl, rfl, by rw [List.size_toArray, lenV]; exact hl, by simpa using rv⟩) (fun b u z => by have z' : (none : Option HO) = some u := z; cases z') (fun b z => absurd rfl z) fun z => absurd rfl z
  | none =>
    refine core (fun b => if b = a then some (.frz { cls := .type "list", data := .seq vs.toArray } (.lst (ns.map V.int))) else none) (fun b => ?_) (.inl (.inr ⟨{ cls := .type "list", data := .seq vs.toArray }, if_pos rfl⟩)) (fun b u z => ?_) (fun b z => ?_) fun _ => hk
    · by_cases hb : b = a
      · exact .inr ⟨_, _, if_pos hb⟩
      · exact .inl (if_neg hb)
    · by_cases hb : b = a
      · have z' := (if_pos hb).symm.trans z
        cases z'
        subst hb
        exact ⟨ha, by rw [List.length_map]; exact hl, vs, _, rv, ha⟩
      · have z' := (if_neg hb).symm.trans z
        cases z'
    · by_cases hb : b = a
      · exact hb
      · exact absurd (if_neg hb) z
end L2
namespace L2
open PySem PySem.Spec PyProof.Rows
theorem walk_of {l : PySem.W.OpenLaw} {n k : Nat} {q : Program} {loose : List Str} {XP : (Str → Option Value) → Heap → Prop} {YP : World → Heap → Prop} {d : DefRec} {K : Params → PySem.W.Frag} {CX : World → CXT} {sp : World → Sp} {x : Str}
    (hn : l.most = some n) (hn2 : n ≤ sizeLine) (hdf : d.params.defaults = []) (hr : Room k callerA)
    (hY : ∀ (w : World) (h : Heap), YP w h → (K w.params).In h)
    (F : ∀ (w : World) (mg : Str → Option Value) (fa : Addr) (h : Heap), (K w.params).In h → h.Ns mainGlobals mg → mg d.name = some (.ref fa) →
      ∃ fd : FuncData, (∀ (s : Shared) (u : Value), BindsTo s fd ⟨[u], []⟩ [(x, u)]) ∧
        ∀ base : Heap, (K w.params).In base → base.Ns mainGlobals mg → FnOk l.prog w (K w.params) mg base (CX w) k fa fd [x] (sp w))
    (hsp : ∀ (w : World) (H : Hp) (a : Addr) (ns : List Int), ns.length ≤ n → Only H → SqL (K w.params) H a (ns.map V.int) → sp w [.ref a] H (fun v _ => v = .bl true) fun _ _ _ => False)
    (hCX : ∀ (w : World) (H : Hp) (s : Shared) (e : Value) (s' : Shared), CX w [] H s (fun _ _ _ => False) e s' → False) :
    PySem.W.WalkO q loose XP YP l.row.toRowW d [] (fun f vs => PySem.call f vs) := by
  refine Att.attach_call hn hdf fun w s₀ s₁ mg mb fa o pm cd doc a vs ns G Y ho hd hcd hmg hobj hints hlen hg => ?_
  have KX := hY w _ Y
  obtain ⟨fd, hb, hF⟩ := F w mg fa _ KX G.T.g hmg
  exact law_call KX G.T.g G.T.b G.T.builtins G.T.nolimit hg hobj hints (Nat.le_trans hlen hn2) hr hF hb (fun H hO hS => hsp w H a ns hlen hO hS) fun H e s' => hCX w H s₁ e s'
end L2
/- THE LAST THEOREM (shape; LID, My.* are yours):
   My.Adr: a structure of the addresses that your layer names (classes, functions); My.Txt K t: a structure (Prop) of the equations over K;
   My.txt_mk : {K} {implicit addresses ..} (e1 : nsIn K mainGlobals "law" = some (some (.ref f))) (e2 : K.lookup f = some ⟨oc, od, .func (fnOf "law" "law" params body scope dV kV doc pm an cdv ct), sl⟩) (e3 : codeIn K cdv "law" = true) .. : ∃ t, My.Txt K t
(the tactic k_is has no namespace: write k_is) -/
namespace L2
open PySem PySem.Spec PyProof.Rows
noncomputable def defArgs (s : Stmt) : Arguments := match s with
  | .FunctionDef _ a _ _ _ _ _ _ _ _ => a
  | _ => { posonlyargs := [], args := [], vararg := none, kwonlyargs := [], kw_defaults := [], kwarg := none, defaults := [] }
noncomputable def defBody (s : Stmt) : List Stmt := match s with
  | .FunctionDef _ _ b _ _ _ _ _ _ _ => b
  | _ => []
noncomputable def defScope (s : Stmt) : Scope := match s with
  | .FunctionDef _ _ _ _ _ _ sc _ _ _ => sc
  | _ => { kind := .function, names := [], isGenerator := false, isCoroutine := false }
abbrev CX0 : CXT := fun _ _ _ _ _ _ => False
abbrev E0 : XK := fun _ _ _ => False
theorem pass0 {X : Cx} : Passes CX0 X E0 := fun _ _ _ _ _ _ _ h => h.elim
structure Fun (K : PySem.W.Frag) (x qual : Str) (st : Stmt) (f : Addr) (fd : FuncData) : Prop where
  ex : ∃ (oc : Value) (od : Option Addr) (kV doc pm : Value) (an : Option Addr) (cdv ct : Value) (osl : Array (Option Value)),
    fd = PySem.W.fnOf x qual (defArgs st) (defBody st) (defScope st) .none kV doc pm an cdv ct ∧ K.lookup f = some ⟨oc, od, .func fd, osl⟩ ∧ PySem.W.codeIn K cdv qual = true
  kp : PySem.W.keepIn K (.ref f) = true
section
variable {P : Program} {w : World} {K : PySem.W.Frag} {mg : Str → Option Value} {base : Heap}
theorem Fun.ok {x qual : Str} {st : Stmt} {f : Addr} {fd : FuncData} {N ps : List Str} {k : Nat} {sp : Sp} (F : Fun K x qual st f fd) (S : FnScope N ps (defScope st)) (len : ∀ vs H Q E, sp vs H Q E → vs.length = ps.length)
    (hbody : ∀ (cdv : Value) (A : Around) (outer : List Env) (s : Shared) (H : Hp) (vs : List V) (Q : VK) (E : XK), Room k (A.deeper (envOfC qual (defScope st) s.heap.objs.size f cdv)) → sp vs H Q E →
      ∃ t, PSs (cxOf CX0 P w K mg base N qual (defScope st) f cdv A outer s H E).nox (defBody st) t ∧ t { nx := fun _ H' => Q .non H', rt := Q } (start N vs) H) : FnOk P w K mg base CX0 (k + 1) f fd ps sp := by
  obtain ⟨oc, od, kV, doc, pm, an, cdv, ct, osl, rfl, lk, hcd⟩ := F.ex
  refine fn_of lk hcd S len fun A outer s H vs Q E hr hsp => ?_
  obtain ⟨t, h, q⟩ := hbody cdv A outer s H vs Q E hr hsp
  exact ⟨t, h.nox, q⟩
theorem Fun.binds {x qual : Str} {st : Stmt} {f : Addr} {fd : FuncData} {ps : List Str} (F : Fun K x qual st f fd)
    (h : ∀ (kV doc pm : Value) (an : Option Addr) (cdv ct : Value) (us : List Value), us.length = ps.length → bindArgs (PySem.W.fnOf x qual (defArgs st) (defBody st) (defScope st) .none kV doc pm an cdv ct) ⟨us, []⟩ = pure (ps.zip us)) : Binds K fd ps [] := by
  obtain ⟨oc, od, kV, doc, pm, an, cdv, ct, osl, rfl, lk, hcd⟩ := F.ex
  exact .all (h kV doc pm an cdv ct)
theorem fun_mk {x qual : Str} {st : Stmt} {f : Addr} {oc : Value} {od an : Option Addr} {osl : Array (Option Value)} {kV doc pm cdv ct : Value} (l : K.lookup f = some ⟨oc, od, .func (PySem.W.fnOf x qual (defArgs st) (defBody st) (defScope st) .none kV doc pm an cdv ct), osl⟩)
    (c : PySem.W.codeIn K cdv qual = true) (k : PySem.W.keepIn K (.ref f) = true) : Fun K x qual st f (PySem.W.fnOf x qual (defArgs st) (defBody st) (defScope st) .none kV doc pm an cdv ct) := ⟨⟨oc, od, kV, doc, pm, an, cdv, ct, osl, rfl, l, c⟩, k⟩
end
theorem hu_of {A : Around} {k : Nat} (hr : Room k A) : A.units + 1 < cLine := Nat.lt_of_le_of_lt (Nat.add_le_add_left (by decide : 1 ≤ 64) _) hr.units
theorem small1000 {n : Nat} (h : n ≤ 1000) : n < sizeLine := Nat.lt_of_le_of_lt h (by decide)
section
variable {X : Cx}
theorem pv (i : Nat) {x : Str} {pos : Pos} (hN : X.N[i]? = some x := by rfl) (hv : Vis X.env.scope x := by first | exact Or.inl rfl | exact Or.inr (Or.inl rfl) | exact Or.inr (Or.inr rfl)) (hd : (x == ("__debug__" : Str)) = false := by decide)
    (hcd : (x == ("__classdict__" : Str)) = false := by decide) : PE X (.Name x pos) (tVar i) := pe_var hN hv hd hcd
end
theorem iteF {A B : Prop} (h : B) : if false = true then A else B := by
  rw [if_neg Bool.false_ne_true]
  exact h
theorem iteT {A B : Prop} (h : A) : if true = true then A else B := by
  rw [if_pos rfl]
  exact h
noncomputable def Same (H H' : Hp) : Prop := ∀ b o, H b = some o → H' b = some o
theorem Same.refl (H : Hp) : Same H H := fun _ _ h => h
theorem Same.trans {H H1 H2 : Hp} (a : Same H H1) (b : Same H1 H2) : Same H H2 := fun c o h => b c o (a c o h)
theorem Same.free {H H' : Hp} (e : Same H H') {l : Addr} (h : H' l = Option.none) : H l = Option.none := by
  cases q : H l with
  | none => rfl
  | some o =>
    rw [e l o q] at h
    cases h
theorem Same.seq {K : PySem.W.Frag} {H H' : Hp} {a : Addr} {xs : List V} (e : Same H H') (h : SqL K H a xs) : SqL K H' a xs := by
  rcases h with (h | ⟨o, h⟩) | h
  · exact .inl (.inl (e _ _ h))
  · exact .inl (.inr ⟨o, e _ _ h⟩)
  · exact .inr h
end L2
namespace L2
end L2
set_option maxHeartbeats 16000000
namespace L2
open PySem PySem.Spec PyProof.Rows
noncomputable def blk (X : Cx) (N : List Str) (s : Shared) (H : Hp) (sc : Scope) (cl : List (Str × Addr)) (C : Addr) (ex : List Addr) : Cx where
  prog := X.prog
  w := X.w
  K := X.K
  mg := X.mg
  base := X.base
  A := X.A
  N := N
  s₀ := s
  H₀ := H
  env := compEnvC sc cl C X.env
  outer := X.stack
  stack := X.stack
  ex := ex
  fn := fun _ => false
  calm := X.calm
  pn := []
  xe := fun _ _ => False
section
variable {prog : Program} {w : World} {A : Around} {R : Result → Shared → Prop} {s : Shared}
theorem compLoop_go {elt target iter : Expr} {ifs : List Expr} {scope : Scope} {pos : Pos} {it acc : Value} {env : Env} (I : Nat → Shared → Prop)
    (turn : ∀ n s, I n s → wpAny (model prog w) A (pyNext it) (fun r s₁ => match r with
      | none => R (.ok .next) s₁
      | some v => wpAny (model prog w) A (letOwnedTupleGo target it v) (fun _ s₁' => wpAny (model prog w) A (assign target env v) (fun _ s₂ =>
          wpAny (model prog w) A (forIn ifs true fun c r => if r = true then do let ok ← isTrue c env (eval c env); pure (ForInStep.yield ok) else pure (ForInStep.yield r)) (fun ok s₃ =>
            if ok = true then wpAny (model prog w) A (eval elt env) (fun x s₄ =>
              wpAny (model prog w) A (call (.builtin "list.append") [acc, x]) (fun _ s₅ => ∃ m, m < n ∧ I m s₅) (fun _ _ => False) s₄) (fun _ _ => False) s₃
            else ∃ m, m < n ∧ I m s₃) (fun _ _ => False) s₂) (fun _ _ => False) s₁') (fun _ _ => False) s₁) (fun _ _ => False) s)
    (n : Nat) (h : I n s) :
    codeAny (model prog w) A (.compLoop (.ListComp elt [⟨target, iter, ifs, 0⟩] scope pos) 0 it acc env) R s := by
  refine codeAny_loop rfl I (fun n s hI => ?_) n h
  show wpAny _ A ((compTurn (.ListComp elt [⟨target, iter, ifs, 0⟩] scope pos) 0 it acc env).onRaise (fun x => do noteFrame x env; theTreesLotGoes x)) _ _ s
  refine wpAny_noted ?_
  rw [compTurn_list]
  refine wpAny_bind (wpAny_standAt (wpAny_bind (wpAny_mono (turn n s hI) (fun r s₁ h₁ => ?_) fun _ _ h' => h'.elim)))
  cases r with
  | none => exact wpAny_pure h₁
  | some v =>
    refine wpAny_bind (wpAny_mono h₁ (fun _ s₁' h₁' => ?_) fun _ _ h' => h'.elim)
    refine wpAny_bind (wpAny_mono h₁' (fun _ s₂ h₂ => wpAny_bind (wpAny_mono h₂ (fun ok s₃ h₃ => ?_) fun _ _ h' => h'.elim)) fun _ _ h' => h'.elim)
    cases ok with
    | false => exact wpAny_pure ⟨rfl, h₃⟩
    | true =>
      exact wpAny_bind (wpAny_bind (wpAny_mono h₃ (fun x s₄ h₄ => wpAny_bind (wpAny_mono h₄ (fun _ s₅ h₅ => wpAny_pure (wpAny_pure ⟨rfl, h₅⟩)) fun _ _ h' => h'.elim)) fun _ _ h' => h'.elim))
end
noncomputable def PTs (X : Cx) (ifs : List Expr) (t : TT) : Prop :=
  ∀ (pins : List (Addr × Obj)) (s : Shared) (σ : St) (H : Hp) (Q : Bool → Hp → Prop), Inv X pins σ H s → t σ H Q →
    wpAny (model X.prog X.w) X.A (forIn ifs true fun c r => if r = true then do let ok ← isTrue c X.env (eval c X.env); pure (ForInStep.yield ok) else pure (ForInStep.yield r)) (TP X pins σ Q) X.xe s
noncomputable def tYes : TT := fun _ H Q => Q true H
theorem pts_nil {X : Cx} : PTs X [] tYes := fun _ _ _ H _ I h => wpAny_tests_nil ⟨H, I, h⟩
theorem pts_one {X : Cx} {c : Expr} {t : TT} (h : PT X c t) : PTs X [c] t := fun pins s σ H Q I q => wpAny_tests_one (h pins s σ H Q I q)
noncomputable def frees (σ : St) (ix : List Nat) : St := ix.map fun j => (σ[j]?).getD none
noncomputable def CompGo (J : It) (H1 : Hp) (σ : St) (ix : List Nat) (tc : TT) (te : TE) (Q : VK) : Prop := ∀ D, H1 D = none →
  ∃ W : Nat → Nat → Hp → Prop, (∃ m, W 0 m (upd H1 D (.lst []))) ∧ ∀ i m H, W i m H →
    (J.stop i H ∧ Q (.ref D) H) ∨ (J.go i H ∧ ∀ x H', J.yld i H x H' → tc (some x :: frees σ ix) H' fun b H2 =>
      if b = true then te (some x :: frees σ ix) H2 fun y H3 => ∃ ys, H3 D = some (.lst ys) ∧ ys.length < sizeLine ∧ ∃ m', m' < m ∧ W (i + 1) m' (upd H3 D (.lst (ys ++ [y])))
      else ∃ m', m' < m ∧ W (i + 1) m' H2)
noncomputable def tComp (ix : List Nat) (wi : TI) (tc : TT) (te : TE) : TE := fun σ H Q => wi σ H fun J H1 => CompGo J H1 σ ix tc te Q
section
variable {X : Cx}
theorem inv_blk {pins : List (Addr × Obj)} {σ : St} {H : Hp} {s : Shared} {N : List Str} {x : Str} {sc : Scope} {cl : List (Str × Addr)} {fp : List Addr} {ix : List Nat} {h1 : Heap} {m : Str → Option Value} {tk : Nat}
    (I : Inv X pins σ H s) (hkind : sc.kind = .function) (hN : N = x :: ix.map fun j => (X.N[j]?).getD "")
    (hsub : ∀ y c, cl.lookup y = some c → X.env.cells.lookup y = some c) (hhas : ∀ y, ((relabel sc X.env).names.lookup y = some .cell ∨ (relabel sc X.env).names.lookup y = some .free) → ∃ c, cl.lookup y = some c)
    (hix : ∀ j ∈ ix, ∃ y, X.N[j]? = some y ∧ X.env.kindOf y = some .cell ∧ (relabel sc X.env).names.lookup y = some .cell)
    (hfp : ∀ b ∈ fp, FpOk X pins H b) (hlt : ∀ b ∈ fp, b < s.heap.objs.size)
    (hns : h1.Ns s.heap.objs.size m) (hk : ∀ b o, s.heap.get? b = some o → h1.get? b = some o) :
    Inv (blk X N s H sc cl s.heap.objs.size fp) [] (none :: frees σ ix) H { s with heap := h1, toks := tk } := by
  have fresh : H s.heap.objs.size = none := I.hok.fresh (Nat.le_refl _)
  refine ⟨⟨I.ok.mod, hkind, I.ok.glob, I.ok.blt, Nat.le_refl _, fun y z c h1 h2 => I.ok.inj y z c (hsub y c h1) (hsub z c h2), fun y hy => hhas y hy, fun y c z _ => absurd (show false = true from z) (by decide), I.ok.hd, I.ok.frames, .inl rfl,
    fun b hb => ⟨Nat.ne_of_lt (hlt b hb), fun y c e => (hfp b hb).2.2.2.2.1 y c (hsub y c e)⟩, I.bs, Nat.le_trans I.ok.bsz I.sz, fun b o e hb => ?_, fun b hb z => ?_, I.stack, I.stkFree⟩,
    rfl, I.bare, Un.kept hk, ⟨m, hns, fun i y v e1 e2 e3 => ?_⟩, fun y c e => ?_, fresh, fun y c e => I.freeC y c (hsub y c e), fun p hp => absurd (show p ∈ ([] : List (Addr × Obj)) from hp) (by simp), I.hok.kept hk, ?_⟩
  · rcases (hfp b hb).2.2.2.1 with z | z
    · exact I.ok.noex b o e z
    · exact absurd (Nat.lt_of_lt_of_le (Heap.lt_size e) (Nat.le_trans I.ok.bsz z)) (Nat.lt_irrefl _)
  · rcases List.mem_cons.mp (I.stkSub b z) with q | q
    · exact (hfp b hb).2.1 q
    · exact (hfp b hb).2.2.1 q
  · cases i with
    | zero =>
      have e2' : (some none : Option (Option V)) = some (some v) := e2
      cases e2'
    | succ i =>
      have e2' : (frees σ ix)[i]? = some (some v) := by simpa using e2
      unfold frees at e2'
      rw [List.getElem?_map] at e2'
      cases q : ix[i]? with
      | none => rw [q] at e2'; cases e2'
      | some j =>
        rw [q] at e2'
        have e3' : (σ[j]?).getD none = some v := by simpa using e2'
        have e4 : σ[j]? = some (some v) := by
          cases q2 : σ[j]? with
          | none => rw [q2] at e3'; cases e3'
          | some w => rw [q2] at e3'; simpa using e3'
        obtain ⟨y', hy, hc, hr⟩ := hix j (List.mem_of_getElem? q)
        have ey : y' = y := by
          have e1' : N[i + 1]? = some y := e1
          rw [hN, List.getElem?_cons_succ, List.getElem?_map, q] at e1'
          have := Option.some.inj e1'
          simpa [hy] using this
        subst ey
        obtain ⟨m0, hn0, hl0⟩ := I.loc
        obtain ⟨u, r, l⟩ := hl0 j y' v hy e4 (.inr (.inl hc))
        refine ⟨u, r, .inr ⟨.inl hr, ?_⟩⟩
        rcases l with ⟨k, _⟩ | ⟨_, c, ec, ic⟩
        · rw [hc] at k; cases k
        · obtain ⟨c', ec'⟩ := hhas y' (.inl hr)
          have := hsub y' c' ec'
          rw [ec] at this; cases this
          obtain ⟨o, ho, hd⟩ := ic
          exact ⟨c, ec', o, hk c o ho, hd⟩
  · obtain ⟨v, o, ho, hd⟩ := I.cell y c (hsub y c e)
    exact ⟨v, o, hk c o ho, hd⟩
  · show (none :: frees σ ix).length = N.length
    rw [hN]
    simp [frees]
theorem pe_comp {elt iter : Expr} {x : Str} {px pos : Pos} {ifs : List Expr} {sc : Scope} {cl : List (Str × Addr)} {ix : List Nat} {wi : TI} {tc : TT} {te : TE} (N : List Str)
    (hc : X.calm = true) (hi : PI X (.Name x px) iter wi) (hif : ∀ s H C ex, PTs (blk X N s H sc cl C ex) ifs tc) (he : ∀ s H C ex, PE (blk X N s H sc cl C ex) elt te)
    (hkind : sc.kind = .function) (hN : N = x :: ix.map fun j => (X.N[j]?).getD "") (hnd : N.Nodup) (hx : sc.names.lookup x = some .local)
    (hcl : closureFor sc X.env = pure cl) (hcell : ∀ y ∈ sc.names, y.2 ≠ .cell) (hnames : ∀ y ∈ sc.names, y.2 = .local → sc.names.lookup y.1 = some .local)
    (hsub : ∀ y c, cl.lookup y = some c → X.env.cells.lookup y = some c) (hhas : ∀ y, ((relabel sc X.env).names.lookup y = some .cell ∨ (relabel sc X.env).names.lookup y = some .free) → ∃ c, cl.lookup y = some c)
    (hix : ∀ j ∈ ix, ∃ y, X.N[j]? = some y ∧ X.env.kindOf y = some .cell ∧ (relabel sc X.env).names.lookup y = some .cell)
    (hs : ∀ x, foldedSetIterable iter X.env x = pure x := by intro _; rfl) :
    PE X (.ListComp elt [⟨.Name x px, iter, ifs, 0⟩] sc pos) (tComp ix wi tc te) := by
  intro pins s σ H Q I h
  rw [eval_ListComp]
  refine wpAny_comprehension_free (use := none) rfl hs hcl hkind hnames (thn (hi pins s σ H _ I h) fun v s1 h1 => thn h1 fun itv s2 h2 => ?_)
  obtain ⟨it, fp, tn, J, H2, e, I2, T, st2, f2, q2⟩ := h2
  subst e
  have fr2 : H2 s2.heap.objs.size = none := I2.hok.fresh (Nat.le_refl _)
  obtain ⟨W, ⟨m0, w0⟩, turn⟩ := q2 s2.heap.objs.size fr2
  refine wpAny_newObj_type ?_
  have I3 : Inv X pins σ (upd H2 s2.heap.objs.size (.lst [])) { s2 with heap := s2.heap.push { cls := .type "list", dict := none, data := .seq ([] : List Value).toArray } } := by
    exact I2.lnew (its := []) (ys := []) (t' := s2.toks) .nil (Nat.zero_le _)
  have lt2 : ∀ b ∈ fp, b < s2.heap.objs.size := fun b hb => by
    obtain ⟨o, ho, _⟩ := T.obj _ _ st2 b hb
    exact Heap.lt_size ho
  have f3 : ∀ b ∈ fp, FpOk X pins (upd H2 s2.heap.objs.size (.lst [])) b := fun b hb => ⟨by rw [upd_ne (Nat.ne_of_lt (lt2 b hb))]; exact (f2 b hb).1, (f2 b hb).2⟩
  generalize hs3 : ({ s2 with heap := s2.heap.push { cls := .type "list", dict := none, data := .seq ([] : List Value).toArray } } : Shared) = s3 at I3
  have hsz3 : s2.heap.objs.size ≤ s3.heap.objs.size := by rw [← hs3]; show _ ≤ (s2.heap.push _).objs.size; rw [Heap.size_push]; exact Nat.le_succ _
  have tn3 : tn 0 s3.heap := T.keep _ _ _ st2 fun b _ o e => by rw [← hs3]; exact Heap.get?_push_of_some _ e
  have lt3 : ∀ b ∈ fp, b < s3.heap.objs.size := fun b hb => Nat.lt_of_lt_of_le (lt2 b hb) hsz3
  refine wpAny_newFunctionEnv hcell (by intro y hy; simp at hy) (fun h4 hns4 hsb4 => ?_) hkind
  have old : ∀ b o, s3.heap.get? b = some o → h4.get? b = some o := fun b o e => hsb4.extBut b o (Nat.ne_of_lt (Heap.lt_size e)) (Heap.get?_push_of_some _ e)
  have I4 := inv_blk (m := _) (tk := s3.toks + ([] : List (Str × Value)).length) (N := N) I3 hkind hN hsub hhas hix f3 lt3 hns4 old
  have tn4 : tn 0 h4 := T.keep _ _ _ tn3 fun b _ o e => old b o e
  have fpB : ∀ {H' : Hp}, (∀ b ∈ fp, H' b = none) → ∀ b ∈ fp, FpOk (blk X N s3 (upd H2 s2.heap.objs.size (.lst [])) sc cl s3.heap.objs.size fp) [] H' b := fun {H'} hn b hb =>
    ⟨hn b hb, Nat.ne_of_lt (lt3 b hb), I4.ok.exfs b hb, .inl hb, fun y c e => (I4.ok.exf b hb).2 y c e, fun p hp => absurd (show p ∈ ([] : List (Addr × Obj)) from hp) (by simp)⟩
  have loop : codeAny (model X.prog X.w) X.A (.compLoop (.ListComp elt [⟨.Name x px, iter, ifs, 0⟩] sc pos) 0 (.ref it) (.ref s2.heap.objs.size) (compEnvC sc cl s3.heap.objs.size X.env))
      (compPost (model X.prog X.w) X.A X.xe none (EP X pins σ Q) (.ref s2.heap.objs.size) s3.heap.objs.size) { s3 with heap := h4, toks := s3.toks + ([] : List (Str × Value)).length } := by
    refine compLoop_go (fun n s' => ∃ i v0 H', Inv (blk X N s3 (upd H2 s2.heap.objs.size (.lst [])) sc cl s3.heap.objs.size fp) [] (v0 :: frees σ ix) H' s' ∧ tn i s'.heap ∧ (∀ b ∈ fp, H' b = none) ∧ W i n H') ?_ m0
      ⟨0, none, _, I4, tn4, fun b hb => (f3 b hb).1, w0⟩
    rintro n s5 ⟨i, v0, H5, I5, st5, fr5, w5⟩
    rcases turn i n H5 w5 with ⟨stop, qn⟩ | ⟨go, step⟩
    · refine thn (T.done (blk X N s3 (upd H2 s2.heap.objs.size (.lst [])) sc cl s3.heap.objs.size fp) rfl rfl rfl hc i [] s5 _ H5 _ I5 (fpB fr5) st5 stop) fun r s6 zq => ?_
      obtain ⟨hr, I6⟩ := zq
      subst hr
      obtain ⟨mm, hm, _⟩ := I6.loc
      refine ⟨mm, hm, fun h7 sb7 => ?_⟩
      have I7 : Inv X pins σ H5 { s6 with heap := h7 } := by
        have hC : H5 s3.heap.objs.size = none := I6.free
        have hc3 : s3.heap.get? s3.heap.objs.size = none := Heap.get?_none_of_le (Nat.le_refl _)
        have up : ∀ b o, b ≠ s3.heap.objs.size → s6.heap.get? b = some o → h7.get? b = some o := fun b o hb e => sb7.extBut b o hb e
        have neC : ∀ b o, s3.heap.get? b = some o → b ≠ s3.heap.objs.size := fun b o e => Nat.ne_of_lt (Heap.lt_size e)
        have u := I6.base
        refine I3.call' (s' := { s6 with heap := h7 }) (ch := fp) I6.os ⟨fun b o e n hb hx => ?_, fun b o e n hb hx => ?_, fun b o e n hx => u.free b o e n hx, fun b o e hx => ?_, u.tups, u.frzs, u.tbls⟩ (fun b o e => ?_) I6.bare fun b hb => ⟨(f3 b hb).2.2.2.1, (f3 b hb).2.1, (f3 b hb).2.2.2.2.1, (f3 b hb).2.2.2.2.2⟩
        · exact up b o (neC b o e) (u.keep b o e n hb hx)
        · obtain ⟨sl, e1⟩ := u.slot b o e n hb hx
          exact ⟨sl, up b _ (neC b o e) e1⟩
        · obtain ⟨o', e1⟩ := u.there b o e hx
          exact ⟨o', up b _ (neC b o e) e1⟩
        · refine (I6.hok b o e).stay (fun c v hc' q => up c v ?_ q) (fun _ q => q) fun _ _ q => q
          rintro rfl
          rcases hc' with z | z
          · rw [← z, hC] at e; cases e
          · rw [hC] at z; cases z
      exact ⟨.ref s2.heap.objs.size, H5, I7, rfl, qn⟩
    · refine thn (T.item (blk X N s3 (upd H2 s2.heap.objs.size (.lst [])) sc cl s3.heap.objs.size fp) rfl rfl rfl hc i [] s5 _ H5 _ I5 (fpB fr5) st5 go) fun r s6 zq => ?_
      obtain ⟨u, hr, h6⟩ := zq
      subst hr
      refine thn h6 fun _ s7 zq => ?_
      obtain ⟨y, H7, I7, r7, y7, st7, fr7⟩ := zq
      have I7' := I7.pinned (fpB fr7) (T.obj _ _ st7)
      refine wpAny_assign_Name (store_ok (i := 0) I7' hnd (by show N[0]? = some x; rw [hN]; rfl) (.inl (lookup_relabel_local hx)) r7 (fun s8 I8 => ?_) (.inr (lookup_relabel_local hx)))
      have I8' : Inv (blk X N s3 (upd H2 s2.heap.objs.size (.lst [])) sc cl s3.heap.objs.size fp) ([] ++ pinsAt fp s7.heap) (some y :: frees σ ix) H7 s8 := I8
      refine thn (hif _ _ _ _ _ s8 _ H7 _ I8' (step y H7 y7)) fun ok s9 zq => ?_
      obtain ⟨H9, I9, q9⟩ := zq
      have again : ∀ {H' : Hp} {s' : Shared} {m' : Nat}, Inv (blk X N s3 (upd H2 s2.heap.objs.size (.lst [])) sc cl s3.heap.objs.size fp) ([] ++ pinsAt fp s7.heap) (some y :: frees σ ix) H' s' → m' < n → W (i + 1) m' H' →
          ∃ m, m < n ∧ ∃ i v0 H', Inv (blk X N s3 (upd H2 s2.heap.objs.size (.lst [])) sc cl s3.heap.objs.size fp) [] (v0 :: frees σ ix) H' s' ∧ tn i s'.heap ∧ (∀ b ∈ fp, H' b = none) ∧ W i m H' := fun {H' s' m'} Ia hm wa => by
        refine ⟨m', hm, i + 1, some y, H', Ia.unpinned, T.keep _ _ _ st7 fun b hb o e => (Ia.pin (b, o) (List.mem_append_right _ (List.mem_append_right _ (mem_pinsAt hb e)))).1, fun b hb => ?_, wa⟩
        obtain ⟨o, e, d⟩ := T.obj _ _ st7 b hb
        exact (Ia.pin (b, o) (List.mem_append_right _ (List.mem_append_right _ (mem_pinsAt hb e)))).2.1
      cases ok with
      | false =>
        rw [if_neg Bool.false_ne_true] at q9 ⊢
        obtain ⟨m', hm, wa⟩ := q9
        exact again I9 hm wa
      | true =>
        rw [if_pos rfl] at q9 ⊢
        refine thn (he _ _ _ _ _ s9 _ H9 _ I9 q9) fun v10 s10 zq => ?_
        obtain ⟨z, H10, I10, r10, ys, hD, hl, m', hm, wa⟩ := zq
        exact thn (mt_append _ s10 _ H10 (.ref s2.heap.objs.size) [z] (.ref s2.heap.objs.size) [v10] (fun _ H' => H' = upd H10 s2.heap.objs.size (.lst (ys ++ [z]))) I10 rfl (.cons r10 .nil) ⟨_, ys, z, rfl, rfl, hD, hl, rfl⟩)
          fun _ s11 ⟨_, H11, I11, _, e11⟩ => again I11 hm (by rw [e11]; exact wa)
  subst hs3
  exact codeAny_compStart_list loop (T.self _ 0 _ _ _ tn4 loop)
end
end L2
namespace L2
open PySem PySem.Spec PyProof.Rows
noncomputable def Its (x : Str) : It := ⟨fun i _ => i < x.cps.size, fun i H v H' => H' = H ∧ ∃ c, x.cps[i]? = some c ∧ v = .str ⟨#[c]⟩, fun i _ => x.cps.size ≤ i⟩
theorem turn_str {P : Program} {w : World} {K : PySem.W.Frag} {tg : Expr} {x : Str} {t : Tok} (it : Addr) (T : String) (hT : T = "str_ascii_iterator" ∨ T = "str_iterator") : Turn P w K tg (Its x) [it] it (fun i h => h.IsStrIter it T x t i ∧ i ≤ x.cps.size) where
  mem := by simp
  obj := fun i h st b hb => by
    have e : b = it := by simpa using hb
    subst e
    obtain ⟨⟨o, e, c, d⟩, _⟩ := st
    exact ⟨o, e, fun v z => by rw [d] at z; cases z⟩
  keep := fun i h h' st k => ⟨let ⟨o, ho, r⟩ := st.1; ⟨o, k it (by simp) o ho, r⟩, st.2⟩
  item := by
    intro X hP hw hK hc i pins s σ H E I hf st hg
    subst hP hw hK
    obtain ⟨f0, f1, f2, f3, f4, f5⟩ := hf it (by simp)
    have hi : i < x.cps.size := hg
    have fin : ∀ h', h'.IsStrIter it T x t (i + 1) → (∀ b o, b ≠ it → s.heap.get? b = some o → h'.get? b = some o) → ∀ u : Tok, ∃ uv, some (Value.str ⟨#[x.cps[i]]⟩ u) = some uv ∧
        wpAny (model X.prog X.w) X.A (letOwnedTupleGo tg (.ref it) uv) (fun _ s2 => ∃ v H', Inv X pins σ H' s2 ∧ RelV v uv ∧ (Its x).yld i H v H' ∧ (s2.heap.IsStrIter it T x t (i + 1) ∧ i + 1 ≤ x.cps.size) ∧ ∀ b ∈ [it], H' b = none) E { s with heap := h', toks := s.toks + 1 } := fun h' st' kk u => by
      have I1 : Inv X pins σ H { s with heap := h', toks := s.toks + 1 } := I.turned (fun b o hb e => kk b o hb e) f0 f1 f3 f4 f5
      obtain ⟨o, e, c, d⟩ := id st'
      refine ⟨_, rfl, go_of (s := { s with heap := h', toks := s.toks + 1 }) e c d (by rcases hT with rfl | rfl <;> decide) ⟨.str ⟨#[x.cps[i]]⟩, H, I1, ⟨u, rfl⟩, ⟨rfl, _, by simp [hi], rfl⟩, ⟨st', hi⟩, fun b hb => ?_⟩⟩
      exact (hf b hb).1
    rcases hT with rfl | rfl
    · exact wpAny_pyNext_ascii_item st.1 (c := x.cps[i]) (by simp [hi]) fun h' hit' hs' => fin h' hit' (fun b o hb e => hs'.extBut b o hb e) _
    · exact wpAny_pyNext_wide_item st.1 (c := x.cps[i]) (by simp [hi]) fun h' hit' hs' => fin h' hit' (fun b o hb e => hs'.extBut b o hb e) _
  done := by
    intro X hP hw hK hc i pins s σ H E I hf st hg
    subst hP hw hK
    obtain ⟨f0, f1, f2, f3, f4, f5⟩ := hf it (by simp)
    have hi : x.cps.size ≤ i := hg
    rcases hT with rfl | rfl
    · exact wpAny_pyNext_ascii_end (I.ok.hd hc) st.1 (by simp; lia) fun h' eb => ⟨rfl, I.turned (t' := s.toks) (fun b o hb e => eb b o hb e) f0 f1 f3 f4 f5⟩
    · exact wpAny_pyNext_wide_end (I.ok.hd hc) st.1 (by simp; lia) fun h' eb => ⟨rfl, I.turned (t' := s.toks) (fun b o hb e => eb b o hb e) f0 f1 f3 f4 f5⟩
  self := fun _ _ _ _ _ st h => by
    rcases hT with rfl | rfl
    · exact wpAny_pyIter_striter_ascii st.1 h
    · exact wpAny_pyIter_striter_wide st.1 h
section
variable {X : Cx} {tg : Expr}
noncomputable def iStr (tl : TE) : TI := fun σ H R => tl σ H fun x H1 => ∃ z, x = .str z ∧ R (Its z) H1
theorem pi_str {l : Expr} {tl : TE} (hl : PE X l tl) : PI X tg l (iStr tl) := by
  intro pins s σ H R I h
  refine thn (hl pins s σ H _ I h) fun v s1 zq => ?_
  obtain ⟨x, H1, I1, r1, q1⟩ := zq
  obtain ⟨z, e, q⟩ := q1
  subst e
  obtain ⟨t, rfl⟩ := r1
  have fin : ∀ (o : Obj) (T : String), (T = "str_ascii_iterator" ∨ T = "str_iterator") → (s1.heap.push o).IsStrIter s1.heap.objs.size T z t 0 → PIE X pins σ tg R (.ref s1.heap.objs.size) { s1 with heap := s1.heap.push o } := fun o T hT hs => by
    refine ⟨s1.heap.objs.size, [s1.heap.objs.size], _, _, H1, rfl, I1.kept (t' := s1.toks) fun b o e => Heap.get?_push_of_some _ e, turn_str (x := z) (t := t) _ T hT, ⟨hs, Nat.zero_le _⟩, fun b hb => ?_, q⟩
    have e : b = s1.heap.objs.size := by simpa using hb
    subst e
    exact I1.fpOk (Nat.le_refl _) (I1.hok.fresh (Nat.le_refl _))
  cases ha : z.cps.all (· < 128)
  · exact wpAny_pyIter_wide ha (fin _ _ (.inr rfl) ⟨_, Heap.get?_push_size _ rfl, rfl, rfl⟩)
  · exact wpAny_pyIter_ascii ha (fin _ _ (.inl rfl) ⟨_, Heap.get?_push_size _ rfl, rfl, rfl⟩)
theorem call_all (hc : X.calm = true) : CallR X (.builtin "all") (fun xs H Q => ∃ (a : Addr) (bs : List Bool), xs = [.ref a] ∧ SqL X.K H a (bs.map V.bl) ∧ Q (.bl (bs.all id)) H) := by
  intro pins s σ H xs us Q I r h
  obtain ⟨a, bs, rfl, hq, q⟩ := h
  obtain ⟨u, rfl, ru⟩ := r.one
  cases ru
  obtain ⟨its, rv, p, hz⟩ := I.list hq
  have hlt : a < s.heap.objs.size := by obtain ⟨o, n, e, _⟩ := p; exact Heap.lt_size e
  refine call_all_walk (wpAny_pyIter_list p.isList ?_)
  have len : bs.length = its.length := by have := rv.length; simpa using this
  refine ⟨s.heap.objs.size, _, _, _, _, _, fun i => (bs[i]?).getD false, rfl, Walks.list (A := X.A.in1) (show X.A.in1.handled = none from I.ok.hd hc) s.heap.objs.size a (Nat.ne_of_lt hlt) its.toArray, ⟨⟨_, Heap.get?_push_size _ rfl, rfl, rfl⟩, p.isList.at fun o e => Heap.get?_push_of_some _ e⟩, ?_, ?_⟩
  · intro i v s' Q' E' hv hQ
    have hv' : its[i]? = some v := by simpa using hv
    cases hb : bs[i]? with
    | none =>
      have h1 := List.getElem?_eq_none_iff.mp hb
      have h2 := (List.getElem?_eq_some_iff.mp hv').1
      lia
    | some b =>
      obtain ⟨u, hu, ru⟩ := rv.get (i := i) (x := V.bl b) (by rw [List.getElem?_map, hb] <;> rfl)
      rw [hv'] at hu
      cases hu
      cases ru
      simp only [hb, Option.getD_some] at hQ
      exact wpAny_truthy_bool hQ
  · intro h' tk hk
    have e : (List.range its.toArray.size).all (fun i => (bs[i]?).getD false) = bs.all id := by
      rw [List.size_toArray, ← len]
      rw [Bool.eq_iff_iff]
      simp only [List.all_eq_true, List.mem_range, id]
      constructor
      · intro h b hb
        obtain ⟨i, hi, e⟩ := List.mem_iff_getElem.mp hb
        have := h i hi
        rw [List.getElem?_eq_getElem hi, Option.getD_some, e] at this
        exact this
      · intro h i hi
        rw [List.getElem?_eq_getElem hi, Option.getD_some]
        exact h _ (List.getElem_mem hi)
    have fr : FpOk X pins H s.heap.objs.size := I.fpOk (Nat.le_refl _) (I.hok.fresh (Nat.le_refl _))
    refine ⟨.bl (bs.all id), H, ?_, by rw [e]; rfl, q⟩
    have I1 : Inv X pins σ H { s with heap := h', toks := tk } := I.kept (h' := h') (t' := tk) fun b o e => hk b o (fun z => by
      have : b = s.heap.objs.size := by simpa using z
      exact absurd (Heap.lt_size e) (by rw [this]; exact Nat.lt_irrefl _)) (Heap.get?_push_of_some _ e)
    exact I1
theorem call_isi_list : CallR X (.builtin "isinstance") (fun xs H Q => ∃ a ys, xs = [.ref a, .ty "list"] ∧ SqL X.K H a ys ∧ Q (.bl true) H) := by
  intro pins s σ H xs us Q I r h
  obtain ⟨a, ys, rfl, hq, q⟩ := h
  cases r with
  | cons r1 r =>
    cases r with
    | cons r2 r =>
      cases r
      cases r1
      cases r2
      obtain ⟨its, rv, p, hz⟩ := I.list hq
      obtain ⟨o, n, e, hc, _⟩ := p
      exact IsiPair.list_list e hc ⟨.bl true, H, I, rfl, q⟩
theorem call_isi_tuple : CallR X (.builtin "isinstance") (fun xs H Q => ∃ a ys, xs = [.ref a, .ty "tuple"] ∧ SqT X.K H a ys ∧ Q (.bl true) H) := by
  intro pins s σ H xs us Q I r h
  obtain ⟨a, ys, rfl, hq, q⟩ := h
  cases r with
  | cons r1 r =>
    cases r with
    | cons r2 r =>
      cases r
      cases r1
      cases r2
      obtain ⟨its, rv, p, hz⟩ := I.tuple hq
      obtain ⟨o, e, hc, _⟩ := p
      exact IsiPair.tuple_tuple e hc ⟨.bl true, H, I, rfl, q⟩
theorem call_isi_str : CallR X (.builtin "isinstance") (fun xs H Q => ∃ z, xs = [.str z, .ty "str"] ∧ Q (.bl true) H) := by
  intro pins s σ H xs us Q I r h
  obtain ⟨z, rfl, q⟩ := h
  cases r with
  | cons r1 r =>
    cases r with
    | cons r2 r =>
      cases r
      obtain ⟨t, rfl⟩ := r1
      cases r2
      exact IsiPair.str_str ⟨.bl true, H, I, rfl, q⟩
end
end L2
namespace L2
open PySem PySem.Spec PyProof.Rows
theorem layNew_led (t : SetTable) (es : Array (Int × Value)) (h : Int) (x : Value) : (layNew t es h x).2.1.led = t.led := by
  unfold layNew
  split
  · dsimp only
    unfold SetTable.orStandIn
    split <;> rfl
  · rfl
theorem relaid_flags {t t' : SetTable} {hs : Array Int} {n : Nat} {o : Array Nat} (h : t.relaid hs n = some (t', o)) : t'.led = t.led ∧ t'.plain = t.plain := by
  unfold SetTable.relaid SetTable.laid at h
  cases e : SetTable.layClean (SetTable.sizeAbove n - 1) hs with
  | none => rw [e] at h; cases h
  | some ow =>
    rw [e] at h
    have h' := Option.some.inj h
    cases h'
    exact ⟨rfl, rfl⟩
theorem relayAll_led (t : SetTable) (es : Array (Int × Value)) (n : Nat) : (relayAll t es n).2.1.led = t.led := by
  unfold relayAll
  split
  · rename_i t' o e
    dsimp only
    split
    · exact (relaid_flags e).1
    · rfl
  · rfl
theorem relayAll_plain (t : SetTable) (es : Array (Int × Value)) (n : Nat) (hp : (relayAll t es n).2.1.plain = true) : t.plain = true := by
  unfold relayAll at hp
  split at hp
  · rename_i t' o e
    dsimp only at hp
    split at hp
    · rw [← (relaid_flags e).2]; exact hp
    · cases hp
  · cases hp
noncomputable def txtOf : Value → Str
  | .str x _ => x
  | _ => ⟨#[]⟩
noncomputable def SSet (P : Program) (w : World) (h : Heap) (a : Addr) (ss : List Str) : Prop :=
  ∃ o es ep t, h.get? a = some o ∧ o.ExactSet ∧ o.data = .set es ep t ∧ ElemsOf (strKind P w) es.toList ∧ es.toList.map (fun e => txtOf e.2) = ss ∧ ss.Nodup ∧ es.size < scanBound ∧ t.fits es.size = true ∧
    t.led = !w.params.followText "set-order" ∧ (1 ≤ es.size → t.plain = false)
theorem str_is {P : Program} {w : World} {x : Str} {v : Value} (h : (strKind P w).is x v = true) : ∃ u, v = .str x u := Value.isStrOf_shape h
theorem elems_txt {P : Program} {w : World} {l : List (Int × Value)} (h : ElemsOf (strKind P w) l) {e : Int × Value} (he : e ∈ l) : ∃ u, e.2 = .str (txtOf e.2) u := by
  obtain ⟨⟨k, hk, _⟩, _⟩ := h e he
  obtain ⟨u, hu⟩ := str_is hk
  exact ⟨u, by rw [hu]; rfl⟩
theorem find_mem {P : Program} {w : World} {l : List (Int × Value)} (h : ElemsOf (strKind P w) l) (x : Str) : (l.findIdx? (fun e => (strKind P w).is x e.2)).isSome = decide (x ∈ l.map fun e => txtOf e.2) := by
  rw [Bool.eq_iff_iff, List.findIdx?_isSome, List.any_eq_true, decide_eq_true_eq, List.mem_map]
  constructor
  · rintro ⟨e, he, hk⟩
    obtain ⟨u, hu⟩ := str_is hk
    exact ⟨e, he, by rw [hu]; rfl⟩
  · rintro ⟨e, he, rfl⟩
    obtain ⟨u, hu⟩ := elems_txt h he
    refine ⟨e, he, ?_⟩
    rw [hu]
    exact strKind_is _ _ _ _
section
variable {P : Program} {w : World} {A : Around} {E : Value → Shared → Prop} {s : Shared}
theorem sset_add {a : Addr} {ss : List Str} {x : Str} {u : Tok} {Q : Bool → Shared → Prop} (hS : SSet P w s.heap a ss) (hroom : ss.length + 1 < scanBound)
    (h : ∀ h' ss' b, Heap.SameBut a s.heap h' → SSet P w h' a ss' → (if x ∈ ss then ss' = ss else ss'.Perm (ss ++ [x])) → Q b { s with heap := h' }) :
    wpAny (model P w) A (setAddHashed a (.str x u) (hashStr w x)) Q E s := by
  obtain ⟨o, es, ep, t, ho, hex, hd, hel, hss, hnd, hb, hf, hled, hpl⟩ := hS
  have hkey : (strKind P w).is x (.str x u) = true := strKind_is _ _ _ _
  have hn : es.size = ss.length := by rw [← hss, List.length_map, Array.length_toList]
  unfold setAddHashed setAddHashedIn
  refine wpAny_holding (wpAny_bind (wpAny_setState_of ho hd hf ?_))
  dsimp only
  rw [byScan_of (knd := strKind P w) rfl hb hel]
  simp only [↓reduceIte]
  unfold setAddByScan
  refine wpAny_bind ?_
  refine wpAny_bind (wpAny_rule ?_)
  refine wpAny_bind (wpAny_setScan_of (knd := strKind P w) hkey ho hd hf hel ?_)
  have hfm := find_mem hel x
  rw [hss] at hfm
  cases hr : List.findIdx? (fun e => (strKind P w).is x e.2) es.toList with
  | some j =>
    dsimp only
    rw [hr] at hfm
    have hx : x ∈ ss := of_decide_eq_true (Eq.symm hfm)
    refine wpAny_pure (wpAny_pure ?_)
    have := h s.heap ss false (Heap.SameBut.refl a s.heap) ⟨o, es, ep, t, ho, hex, hd, hel, hss, hnd, hb, hf, hled, hpl⟩ (by rw [if_pos hx])
    exact this
  | none =>
    dsimp only
    rw [hr] at hfm
    have hx : x ∉ ss := of_decide_eq_false (Eq.symm hfm)
    have hgw : ∀ (b : Bool) {s₁ : Shared} {Q' : Unit → Shared → Prop}, Q' () s₁ → wpAny (model P w) A (match b with | true => rule "set.scan.the-table-gave-way" | false => pure ()) Q' E s₁ :=
      fun b s₁ Q' hq => by cases b <;> first | exact wpAny_pure hq | exact wpAny_rule hq
    have hperm := layNew_perm t es (hashStr w x) (.str x u)
    have hfits := layNew_fits t es (hashStr w x) (.str x u)
    have hled1 := layNew_led t es (hashStr w x) (.str x u)
    show wpAny (model P w) A _ _ E s
    have hash : (strKind P w).hash x = hashStr w x := rfl
    try rw [hash]
    generalize hL : layNew t es (hashStr w x) (.str x u) = L at hperm hfits hled1 ⊢
    obtain ⟨es1, t1, wasDummy, gave⟩ := L
    dsimp only at hperm hfits hled1 ⊢
    rw [Array.toList_push] at hperm
    have hel1 : ElemsOf (strKind P w) es1.toList := (ElemsOf.push (knd := strKind P w) hel hkey rfl).perm hperm
    have hss1 : (es1.toList.map fun e => txtOf e.2).Perm (ss ++ [x]) := by
      have := hperm.map (fun e : Int × Value => txtOf e.2)
      rw [List.map_append, hss] at this
      exact this
    have hsz1 : es1.size = ss.length + 1 := by rw [← Array.length_toList, hperm.length_eq, List.length_append, Array.length_toList, hn]; rfl
    have hb1 : es1.size < scanBound := by rw [hsz1]; exact hroom
    have hnd1 : (es1.toList.map fun e => txtOf e.2).Nodup := by
      refine hss1.nodup_iff.mpr ?_
      rw [List.nodup_append]
      exact ⟨hnd, by simp, fun y hy z hz e => by rw [List.mem_singleton.mp hz] at e; exact hx (e ▸ hy)⟩
    refine wpAny_bind (hgw _ ?_)
    have tail : ∀ t2 : SetTable, t2.fits es1.size = true → t2.led = t.led → t2.plain = false → ∀ (g : Bool → Sem Unit), (∀ (b : Bool) (s₁ : Shared) (Q' : Unit → Shared → Prop), Q' () s₁ → wpAny (model P w) A (g b) Q' E s₁) →
        wpAny (model P w) A (do
          storeSet a es1 t2
          if (!wasDummy && t2.tooFull) = true then do
              g (relayAll t2 es1 (SetTable.grown es1.size)).2.2
              storeSet a (relayAll t2 es1 (SetTable.grown es1.size)).1 (relayAll t2 es1 (SetTable.grown es1.size)).2.1
              pure (some true)
            else pure (some true)) (fun r s' => r = some true ∧ ∃ h' ss', s' = { s with heap := h' } ∧ Heap.SameBut a s.heap h' ∧ SSet P w h' a ss' ∧ ss'.Perm (ss ++ [x])) E s := by
      intro t2 hf2 hl2 hp2 g hg
      refine wpAny_bind (wpAny_storeSet_of ho hd ?_ (fits_of_scanBound hb1))
      have ho1 : (s.heap.update a (Obj.putSet es1 t2)).get? a = some { o with data := .set es1 (ep + 1) t2 } := by
        have := Heap.get?_update_self (Obj.putSet es1 t2) ho (by rw [putSet_of es1 t2 hd]; rfl)
        rw [putSet_of es1 t2 hd] at this; exact this
      have hsb1 := Heap.SameBut.update s.heap a (Obj.putSet es1 t2)
      split
      · have hp := relayAll_perm t2 es1 (SetTable.grown es1.size)
        have hfr := relayAll_fits t2 es1 (SetTable.grown es1.size)
        have hlr := relayAll_led t2 es1 (SetTable.grown es1.size)
        have hpr := relayAll_plain t2 es1 (SetTable.grown es1.size)
        generalize hRl : relayAll t2 es1 (SetTable.grown es1.size) = Rl at hp hfr hlr hpr ⊢
        obtain ⟨es2, t3, gave2⟩ := Rl
        dsimp only at hp hfr hlr hpr ⊢
        have hsz : es2.size = es1.size := by rw [← Array.length_toList, hp.length_eq, Array.length_toList]
        have hb2 : es2.size < scanBound := by rw [hsz]; exact hb1
        refine wpAny_bind (hg _ _ _ ?_)
        refine wpAny_bind (wpAny_storeSet_of ho1 rfl ?_ (fits_of_scanBound hb2))
        have ho2 : ((s.heap.update a (Obj.putSet es1 t2)).update a (Obj.putSet es2 t3)).get? a = some { o with data := .set es2 (ep + 1 + 1) t3 } := by
          have := Heap.get?_update_self (Obj.putSet es2 t3) ho1 (by rw [putSet_of es2 t3 rfl]; rfl)
          rw [putSet_of (o := { o with data := .set es1 (ep + 1) t2 }) es2 t3 rfl] at this; exact this
        have hss2 := hp.map (fun e : Int × Value => txtOf e.2)
        refine wpAny_pure ⟨rfl, _, es2.toList.map (fun e => txtOf e.2), rfl, hsb1.trans (Heap.SameBut.update _ a _), ⟨_, es2, ep + 1 + 1, t3, ho2, hex, rfl, hel1.perm hp, rfl, hss2.nodup_iff.mpr hnd1, hb2, hfr, hlr.trans (hl2.trans hled), fun _ => ?_⟩, hss2.trans hss1⟩
        cases hq : t3.plain with
        | false => rfl
        | true => rw [hpr hq] at hp2; cases hp2
      · exact wpAny_pure ⟨rfl, _, es1.toList.map (fun e => txtOf e.2), rfl, hsb1, ⟨_, es1, ep + 1, t2, ho1, hex, rfl, hel1, rfl, hnd1, hb1, hf2, hl2.trans hled, fun _ => hp2⟩, hss1⟩
    have fin : ∀ s' : Shared, (∃ h' ss', s' = { s with heap := h' } ∧ Heap.SameBut a s.heap h' ∧ SSet P w h' a ss' ∧ ss'.Perm (ss ++ [x])) → Q true s' := by
      rintro s' ⟨h', ss', rfl, hsb, hS', hp'⟩
      exact h h' ss' true hsb hS' (by rw [if_neg hx]; exact hp')
    split
    · refine wpAny_bind ?_
      rw [hashByValue_scannable 8 (x := .str x u) rfl]
      refine wpAny_pure ?_
      dsimp only [plainKind]
      simp only [Bool.false_eq_true, if_false]
      refine wpAny_mono (tail { t1 with plain := false } (SetTable.fits_plain_off hfits) hled1 rfl _ ?_) (fun r s' hq => ?_) fun _ _ e => e
      · intro b s₁ Q' hq; cases b <;> first | exact wpAny_pure hq | exact wpAny_rule hq
      · obtain ⟨rfl, hq⟩ := hq
        exact wpAny_pure (fin s' hq)
    · rename_i hnp
      refine wpAny_bind (wpAny_pure ?_)
      simp only [↓reduceIte]
      refine wpAny_mono (tail t1 hfits hled1 (by simpa using hnp) _ ?_) (fun r s' hq => ?_) fun _ _ e => e
      · intro b s₁ Q' hq; cases b <;> first | exact wpAny_pure hq | exact wpAny_rule hq
      · obtain ⟨rfl, hq⟩ := hq
        exact wpAny_pure (fin s' hq)
end
end L2
namespace L2
open PySem PySem.Spec PyProof.Rows
inductive Dd : List Str → List Str → Prop
  | nil : Dd [] []
  | old {xs ss : List Str} {x : Str} : Dd xs ss → x ∈ ss → Dd (xs ++ [x]) ss
  | new {xs ss ss' : List Str} {x : Str} : Dd xs ss → x ∉ ss → ss'.Perm (ss ++ [x]) → Dd (xs ++ [x]) ss'
theorem Dd.mem {xs ss : List Str} (h : Dd xs ss) : ∀ y, y ∈ ss ↔ y ∈ xs := by
  induction h with
  | nil => intro y; exact Iff.rfl
  | old d hx ih =>
    rename_i zs ss x
    intro y
    rw [ih y, List.mem_append, List.mem_singleton]
    constructor
    · exact .inl
    · rintro (q | rfl)
      · exact q
      · exact (ih y).mp hx
  | new d hx hp ih =>
    rename_i zs ss ss' x
    intro y
    rw [hp.mem_iff, List.mem_append, List.mem_append, ih y]
theorem Dd.nodup {xs ss : List Str} (h : Dd xs ss) : ss.Nodup := by
  induction h with
  | nil => exact List.nodup_nil
  | old d hx ih => exact ih
  | new d hx hp ih =>
    rename_i zs ss ss' x
    refine hp.nodup_iff.mpr (List.nodup_append.mpr ⟨ih, by simp, fun y hy z hz e => ?_⟩)
    rw [List.mem_singleton.mp hz] at e
    exact hx (e ▸ hy)
theorem Dd.len {xs ss : List Str} (h : Dd xs ss) : ss.length ≤ xs.length := by
  induction h with
  | nil => exact Nat.le_refl _
  | old d hx ih => rw [List.length_append]; exact Nat.le_trans ih (Nat.le_add_right _ _)
  | new d hx hp ih => rw [hp.length_eq, List.length_append, List.length_append]; exact Nat.add_le_add_right ih _
theorem strs_at : ∀ {vs : List Value} {xs : List Str}, StrsAre vs xs → ∀ (i : Nat) (v : Value), vs[i]? = some v → ∃ x t, xs[i]? = some x ∧ v = .str x t
  | _, _, .nil, i, v, h => by simp at h
  | _, _, .cons x t r, 0, v, h => by simp at h; exact ⟨x, t, rfl, h.symm⟩
  | _, _, .cons x t r, i + 1, v, h => by
    obtain ⟨y, u, e1, e2⟩ := strs_at r i v (by simpa using h)
    exact ⟨y, u, by simpa using e1, e2⟩
section
variable {P : Program} {w : World} {A : Around} {R : Result → Shared → Prop} {I : Addr} {fp wr : List Addr} {G : Array GenState → Array GenState → Prop} {n : Nat} {Pv : Nat → Value → Prop} {St : Nat → Shared → Prop}
theorem SSet.at {h h' : Heap} {a : Addr} {ss : List Str} (hS : SSet P w h a ss) (k : ∀ o, h.get? a = some o → h'.get? a = some o) : SSet P w h' a ss := by
  obtain ⟨o, es, ep, tb, ho, rest⟩ := hS
  exact ⟨o, es, ep, tb, k o ho, rest⟩
theorem sset_update_loop (W : WalksS P w A.in1 I fp wr G n Pv St) (S : Addr) (hSf : S ∉ fp) (xs : List Str) (hn : xs.length = n) (hval : ∀ i v, Pv i v → ∃ x t, xs[i]? = some x ∧ v = .str x t) (hb : n + 1 < scanBound) :
    ∀ (k i : Nat) (s : Shared) (ss : List Str), n - i = k → i ≤ n → St i s → SSet P w s.heap S ss → Dd (xs.take i) ss →
      (∀ s' ss', Moved (S :: wr) G s s' → SSet P w s'.heap S ss' → Dd xs ss' → R (.ok (.ret .none)) s') →
      codeAny (model P w) A (.builtin "set.update.loop" ⟨[.ref S, .ref I], []⟩) R s := by
  have hSw : S ∉ wr := fun h => hSf (W.sub _ h)
  have hsub : ∀ b ∈ wr, b ∈ S :: wr := fun b hb => List.mem_cons_of_mem _ hb
  intro k
  induction k with
  | zero =>
    intro i s ss hk hi hst hS hd hR
    have hin : i = n := by lia
    subst hin
    refine codeAny_builtin PyProof.Rows.F.entry_set_update_loop ?_
    rw [Around.under_plainId PyProof.Rows.F.plain_set_update_loop _]
    show wpAny _ A.in1 (pyNext (.ref I) >>= _) _ _ s
    refine wpAny_bind (W.done s _ _ hst fun s' hm => ?_)
    show wpAny _ A.in1 (ret Value.none) _ _ s'
    refine wpAny_pure (hR s' ss (hm.mono hsub) (hS.at fun o e => hm.heap S _ hSw e) ?_)
    rw [List.take_of_length_le (Nat.le_of_eq hn)] at hd
    exact hd
  | succ k ih =>
    intro i s ss hk hi hst hS hd hR
    have hlt : i < n := by lia
    refine codeAny_builtin PyProof.Rows.F.entry_set_update_loop ?_
    rw [Around.under_plainId PyProof.Rows.F.plain_set_update_loop _]
    show wpAny _ A.in1 (pyNext (.ref I) >>= _) _ _ s
    refine wpAny_bind (W.item i s _ _ hlt hst fun v s' hP hst' hm => ?_)
    obtain ⟨x, t, hx, rfl⟩ := hval i v hP
    have hS' : SSet P w s'.heap S ss := hS.at fun o e => hm.heap S _ hSw e
    show wpAny _ A.in1 (holding [Value.str x t] (setAdd S (.str x t)) >>= _) _ _ s'
    refine wpAny_bind (wpAny_holding ?_)
    unfold setAdd
    refine wpAny_holding ?_
    refine wpAny_bind ((strKind P w).pyHash (k := x) (strKind_is _ _ _ _) ?_)
    have hl : ss.length ≤ i := by have := hd.len; rw [List.length_take] at this; lia
    refine sset_add (s := { s' with toks := s'.toks + 1 }) hS' (by lia) fun h' ss' b hsb hS2 hss => ?_
    have hd' : Dd (xs.take (i + 1)) ss' := by
      have e : xs.take (i + 1) = xs.take i ++ [x] := by rw [List.take_add_one, hx]; rfl
      rw [e]
      by_cases hm : x ∈ ss
      · rw [if_pos hm] at hss
        rw [hss]
        exact .old hd hm
      · rw [if_neg hm] at hss
        exact .new hd hm hss
    refine wpAny_pure ⟨plainId_quiet PyProof.Rows.F.plain_set_update_loop _, ih (i + 1) _ ss' (by lia) hlt (W.frame _ s' _ _ hst' (Nat.le_succ _) fun b hb o e => ?_) hS2 hd' fun s'' ss'' hm'' hS'' hd'' => ?_⟩
    · rw [hsb.2 b (fun h : b = S => hSf (by rw [← h]; exact hb))]; exact e
    · refine hR s'' ss'' (Moved.trans W.gtrans ((hm.mono hsub).then_heap (Nat.le_succ _) fun b o hb e => ?_) hm'') hS'' hd''
      rw [hsb.2 b (fun h : b = S => hb (by rw [h]; exact List.mem_cons_self))]; exact e
end
section
variable {P : Program} {w : World} {A : Around} {E : Value → Shared → Prop} {s : Shared}
theorem code_set_new_led (a : Value) {Q₁ : Value → Shared → Prop}
    (h : Q₁ (.ref s.heap.objs.size) { s with heap := s.heap.push { cls := .type "set", dict := none, data := .set #[] 0 (.fresh 0 0 (!w.params.followText "set-order")) } }) :
    codeAny (model P w) A (.call (.builtin "set.__new__") ⟨[.type "set", a], []⟩) (wants Q₁ E) s := by
  refine codeAny_of_tree ?_
  show wpAny _ A.in1 (do checkBuiltinCall "set.__new__" ⟨[.type "set", a], []⟩; again (.builtin "set.__new__" ⟨[.type "set", a], []⟩)) _ _ s
  refine wpAny_bind (wpAny_of_eq (PySem.F.newCall_set_1 a) (wpAny_pure ⟨plainId_quiet PySem.F.plain_set_new _, codeAny_builtin PySem.F.entry_set_new ?_⟩))
  rw [Around.under_plainId PySem.F.plain_set_new _]
  unfold Builtin.«set.__new__» Builtin.Frozenset.newClass
  have hsub := sub_set_self
  obtain ⟨hp, g, d, tk, os⟩ := s
  dsimp only
  wp_walk
  refine wpAny_askSetting (wpAny_pure ?_)
  dsimp only
  simp only [newObj]
  refine wpAny_bind (wpAny_alloc (wpAny_pure ?_))
  exact wpAny_pure h
set_option maxHeartbeats 16000000 in
theorem call_set_strs {l : Addr} {items : Array Value} {xs : List Str} {Q : Value → Shared → Prop}
    (hh : A.handled = none) (hl : s.heap.IsList l items) (hi : StrsAre items.toList xs) (hb : items.size + 1 < scanBound)
    (h : ∀ (h' : Heap) (tk : Nat) (ss : List Str), SSet P w h' s.heap.objs.size ss → Dd xs ss → (∀ b o, b < s.heap.objs.size → s.heap.get? b = some o → h'.get? b = some o) → Q (.ref s.heap.objs.size) { s with heap := h', toks := tk }) :
    wpAny (model P w) A (call (.type "set") [.ref l]) Q E s := by
  obtain ⟨c, tl, hmro⟩ := PySem.F.called_set.mro
  have hmade := PySem.F.called_set.made
  have hsub := PySem.F.called_set.sub
  refine wpAny_call (codeAny_of_tree ?_)
  show wpAny _ _ (callAny (.type "set") _) _ _ _
  refine wpAny_pure ⟨Code.quiet_builtin _ (by decide +kernel), codeAny_builtin PySem.F.entry_type_call ?_⟩
  rw [Around.under_plain (weight_type_call_type "set" [.ref l] []) rfl]
  have h1 := PySem.F.called_set.notType
  have h2 := PySem.F.called_set.canCreate
  have hct := PySem.F.typeCall_set_1 (.ref l)
  repeat (any_goals (first | assumption | wp_step))
  refine codeAny_mono (code_set_new_led (.ref l) (E := E) (Q₁ := fun obj s₁ => obj = .ref s.heap.objs.size ∧ s₁ = { s with heap := s.heap.push { cls := .type "set", dict := none, data := .set #[] 0 (.fresh 0 0 (!w.params.followText "set-order")) } }) ⟨rfl, rfl⟩) fun r s₁ hr => ?_
  cases r with
  | error e => exact hr
  | ok fl =>
    cases fl with
    | ret obj =>
      obtain ⟨rfl, rfl⟩ := hr
      generalize hled : (!w.params.followText "set-order") = led
      have hS : (s.heap.push { cls := .type "set", dict := none, data := .set #[] 0 (.fresh 0 0 led) }).get? s.heap.objs.size = some { cls := .type "set", dict := none, data := .set #[] 0 (.fresh 0 0 led) } := Heap.get?_push_size _ rfl
      have hT : Shared.TypeIs { s with heap := s.heap.push { cls := .type "set", dict := none, data := .set #[] 0 (.fresh 0 0 led) } } (.ref s.heap.objs.size) "set" := ⟨_, hS, rfl⟩
      have hli := PySem.F.called_set.init.lookup
      have hbi := PySem.F.called_set.init.bind (.ref s.heap.objs.size)
      repeat (any_goals (first | assumption | wp_step))
      refine codeAny_mono (codeAny_call_builtin (R := wants (fun r s₂ => r = .none ∧ ∃ h' tk ss, s₂ = { s with heap := h', toks := tk } ∧ SSet P w h' s.heap.objs.size ss ∧ Dd xs ss ∧
          (∀ b o, b < s.heap.objs.size → s.heap.get? b = some o → h'.get? b = some o)) E) PySem.F.called_set.init.plain PySem.F.entry_set_init (check_set_init_1 hT ?_)) fun r₂ s₂ hr₂ => ?_
      · obtain ⟨ol, hol, hcl, nl, hdl⟩ := hl
        obtain ⟨ocls, odict, odata, oslots⟩ := ol
        simp only at hcl hdl
        subst hcl; subst hdl
        have hol' : (s.heap.push { cls := .type "set", dict := none, data := .set #[] 0 (.fresh 0 0 led) }).get? l = some { cls := .type "list", dict := odict, data := .seq items nl, slots := oslots } := Heap.get?_push_of_some _ hol
        have hsls := PySem.F.sub_list_set
        have hslf := PySem.F.sub_list_frozenset
        have hne : (Value.type "list" == Value.type "dict") = false := by decide
        have hl1 : (s.heap.push { cls := .type "set", dict := none, data := .set #[] 0 (.fresh 0 0 led) }).IsList l items := ⟨_, hol', rfl, nl, rfl⟩
        unfold Builtin.«set.__init__» noKeywords Builtin.Frozenset.updateFrom
        generalize hPI : pyIter = PI
        wp_walk
        subst hPI
        refine wpAny_pyIter_list hl1 ?_
        refine wpAny_bind (wpAny_runValue ?_)
        have hlS : l < s.heap.objs.size := Heap.lt_size hol
        have hh3 : A.in1.in1.in1.handled = none := by simp [hh]
        have hneI : l ≠ (s.heap.push { cls := .type "set", dict := none, data := .set #[] 0 (.fresh 0 0 led) }).objs.size := by
          rw [Heap.size_push]; exact Nat.ne_of_lt (Nat.lt_succ_of_lt hlS)
        have hSf : s.heap.objs.size ∉ [(s.heap.push { cls := .type "set", dict := none, data := .set #[] 0 (.fresh 0 0 led) }).objs.size, l] := by
          rw [Heap.size_push]; simp only [List.mem_cons, List.mem_singleton, List.not_mem_nil, or_false, not_or]
          exact ⟨Nat.ne_of_lt (Nat.lt_succ_self _), Nat.ne_of_gt hlS⟩
        have hlen : xs.length = items.size := by have := hi.length; simpa using this.symm
        have hval : ∀ (i : Nat) (v : Value), items[i]? = some v → ∃ x t, xs[i]? = some x ∧ v = .str x t := fun i v hv => strs_at hi i v (by rw [Array.getElem?_toList]; exact hv)
        refine sset_update_loop ((Walks.list hh3 _ l hneI items).toS) s.heap.objs.size hSf xs hlen hval hb (items.size - 0) 0 _ [] (by lia) (Nat.zero_le _)
          ⟨⟨_, Heap.get?_push_size _ rfl, rfl, rfl⟩, (hl1.push _)⟩ ?hS0 (by rw [List.take_zero]; exact .nil) ?hR
        case hS0 =>
          have hget : ((s.heap.push { cls := .type "set", dict := none, data := .set #[] 0 (.fresh 0 0 led) }).push { cls := .type "list_iterator", data := .fields #[.ref l, .int 0 0] }).get? s.heap.objs.size
              = some { cls := .type "set", dict := none, data := .set #[] 0 (.fresh 0 0 led) } := Heap.get?_push_of_some _ hS
          exact ⟨_, #[], 0, _, hget, ⟨rfl, rfl, rfl⟩, rfl, fun e he => by simp at he, rfl, List.nodup_nil, by decide, by rfl, hled.symm, fun q => absurd q (by simp)⟩
        case hR =>
          intro s' ss' hm hS' hd'
          obtain ⟨h', g', d', tk', os'⟩ := s'
          have eg : g' = s.gens := hm.gens
          have ed : d' = s.drawn := hm.drawn
          have eo : os' = s.os := hm.os
          subst eg; subst ed; subst eo
          show wpAny _ _ _ _ _ _
          refine wpAny_pure ?_
          show wpAny _ _ (ret Value.none) _ _ _
          refine wpAny_pure ⟨rfl, h', tk', ss', rfl, hS', hd', fun b o hb e => ?_⟩
          have hb1 : b ≠ s.heap.objs.size := Nat.ne_of_lt hb
          have hb2 : b ≠ (s.heap.push { cls := .type "set", dict := none, data := .set #[] 0 (.fresh 0 0 led) }).objs.size := by
            rw [Heap.size_push]; exact Nat.ne_of_lt (Nat.lt_succ_of_lt hb)
          exact hm.heap b o (by simp only [List.mem_cons, List.mem_singleton, List.not_mem_nil, or_false, not_or]; exact ⟨hb1, hb2⟩) (Heap.get?_push_of_some _ (Heap.get?_push_of_some _ e))
      · cases r₂ with
        | error e => exact hr₂
        | ok fl₂ =>
          cases fl₂ with
          | ret r =>
            obtain ⟨rfl, h', tk, ss, rfl, hS', hd', hk'⟩ := hr₂
            repeat (any_goals (first | assumption | wp_step))
            exact h _ _ ss hS' hd' hk'
          | _ => exact hr₂.elim
    | _ => exact hr.elim
end
end L2
namespace L2
open PySem PySem.Spec PyProof.Rows
namespace SF
theorem entry_set_iter : entryFor table "set.__iter__" = some Builtin.«frozenset.__iter__» := entryFor_alias (id' := "frozenset.__iter__") (by kernel_rfl) rfl (by decide +kernel) (by kernel_rfl)
theorem slot_next : Slot "set_iterator" "__next__" "set_iterator.__next__" :=
  .of (owner := "set_iterator") (n := "__next__") (by rw [typeLookup_type, builtinLookup_eq_fast]; kernel_rfl) (by decide +kernel) (by decide +kernel) (by decide +kernel)
    (by first | exact .inl (by decide +kernel) | exact .inr (by decide +kernel)) (by rw [isSubtype_type]; kernel_rfl)
theorem entry_next : entryFor table "set_iterator.__next__" = some Builtin.«set_iterator.__next__» := entryFor_of_tree (by kernel_rfl)
theorem args_next (a : Value) : argsOk "set_iterator.__next__" ⟨[a], []⟩ := by unfold argsOk; kernel_rfl
theorem slot_self : Slot "set_iterator" "__iter__" "set_iterator.__iter__" :=
  .of (owner := "set_iterator") (n := "__iter__") (by rw [typeLookup_type, builtinLookup_eq_fast]; kernel_rfl) (by decide +kernel) (by decide +kernel) (by decide +kernel)
    (by first | exact .inl (by decide +kernel) | exact .inr (by decide +kernel)) (by rw [isSubtype_type]; kernel_rfl)
theorem entry_self : entryFor table "set_iterator.__iter__" = some Builtin.«dict_keyiterator.__iter__» :=
  entryFor_alias (id' := "dict_keyiterator.__iter__") (by kernel_rfl) rfl (by decide +kernel) (by kernel_rfl)
theorem args_self (a : Value) : argsOk "set_iterator.__iter__" ⟨[a], []⟩ := by unfold argsOk; kernel_rfl
theorem set_len : typeLookup (.type "set") "__len__" = pure (some (.builtin "set.__len__")) := by rw [typeLookup_type, builtinLookup_eq_fast]; kernel_rfl
theorem sub_set : isSubtype (.type "set") (.type "set") = pure true := by rw [isSubtype_type]; kernel_rfl
end SF
end L2
namespace L2
open PySem PySem.Spec PyProof.Rows
theorem erase_perm {α : Type} : ∀ (l : List α) (i : Nat) (h : i < l.length), (l[i] :: l.eraseIdx i).Perm l
  | x :: r, 0, _ => List.Perm.refl _
  | x :: r, i + 1, h => by
    have h' : i < r.length := by simpa using h
    exact (List.Perm.swap x r[i] (r.eraseIdx i)).trans ((erase_perm r i h').cons x)
theorem pickGo_perm {α : Type} (next : Nat → Nat) : ∀ (fuel k : Nat) (left : List α) (out : Array α), left.length = fuel → (pickOrder.go next fuel k left out).toList.Perm (out.toList ++ left)
  | 0, k, left, out, h => by
    have e : left = [] := List.eq_nil_of_length_eq_zero h
    subst e
    simp [pickOrder.go]
  | fuel + 1, k, left, out, h => by
    have hlt : next k % left.length < left.length := Nat.mod_lt _ (by lia)
    unfold pickOrder.go
    rw [List.getElem?_eq_getElem hlt]
    dsimp only
    refine (pickGo_perm next fuel (k + 1) _ _ (by rw [List.length_eraseIdx_of_lt hlt]; lia)).trans ?_
    rw [Array.toList_push, List.append_assoc]
    refine List.Perm.append_left _ ?_
    rw [List.singleton_append]
    exact erase_perm _ _ hlt
theorem pick_perm {α : Type} (next : Nat → Nat) (xs : Array α) : (pickOrder next xs).toList.Perm xs.toList := by
  have := pickGo_perm next xs.size 0 xs.toList #[] (by simp)
  simpa [pickOrder] using this
section
variable {P : Program} {w : World} {A : Around} {E : Value → Shared → Prop}
theorem choose_any {src : Source} {n : Nat} {s : Shared} {Q : Nat → Shared → Prop} (hn : n ≠ 0) (h : ∀ i d, i < n → Q i { s with drawn := d }) : wpAny (model P w) A (choose src n) Q E s := by
  intro Γ p hΓ
  unfold choose
  rw [Sem.wp_choose]
  exact ⟨hn, h _ _ (Nat.mod_lt _ (Nat.pos_of_ne_zero hn))⟩
theorem drawOrder_perm {α : Type} : ∀ (n : Nat) (xs : List α) (s : Shared) (Q : List α → Shared → Prop), xs.length = n → (∀ ys d, ys.Perm xs → Q ys { s with drawn := d }) → wpAny (model P w) A (drawOrder n xs) Q E s
  | 0, xs, s, Q, hl, h => by
    have e : xs = [] := List.eq_nil_of_length_eq_zero hl
    subst e
    exact wpAny_pure (h [] s.drawn (List.Perm.refl _))
  | n + 1, [], s, Q, hl, h => by simp at hl
  | n + 1, x :: r, s, Q, hl, h => by
    unfold drawOrder
    refine wpAny_bind (choose_any (by rw [hl]; exact Nat.succ_ne_zero n) fun i d hi => ?_)
    rw [List.getElem?_eq_getElem hi]
    dsimp only
    refine wpAny_bind (drawOrder_perm n _ _ _ (by rw [List.length_eraseIdx_of_lt hi]; lia) fun ys d' hp => ?_)
    refine wpAny_pure (h _ d' ?_)
    exact (hp.cons _).trans (erase_perm _ _ hi)
end
theorem range_get {α : Type} : ∀ l : List α, (List.range l.length).filterMap (fun i => l[i]?) = l
  | [] => rfl
  | x :: r => by
    rw [List.length_cons, List.range_succ_eq_map, List.filterMap_cons]
    simp only [List.getElem?_cons_zero]
    rw [List.filterMap_map]
    exact congrArg (x :: ·) (range_get r)
noncomputable def setIt (first : Value) (i : Nat) (S : Addr) (n ep : Nat) : Obj := { cls := .type "set_iterator", dict := none, data := .fields #[first, .int i 0, .ref S, .int n 0, .int ep 0], slots := #[] }
inductive Ord (w : World) (S : Addr) (es : Array (Int × Value)) (ep : Nat) (t : SetTable) (h : Heap) : Value → Nat → List Value → Prop
  | text (i : Nat) : w.params.followText "set-order" = true → Ord w S es ep t h (.int 0 0) i ((pickOrder (w.params.setOrder S ep) es).toList.map (·.2))
  | drawn (i : Nat) (T : Addr) (ps : List Nat) : w.params.followText "set-order" = false → IsTup h T (ps.map fun (p : Nat) => Value.int p 0).toArray → (∀ p ∈ ps, p < es.size) → Ord w S es ep t h (.ref T) i (ps.filterMap fun p => (es[p]?).map (·.2))
  | none (k i : Nat) : w.params.followText "set-order" = false → es.size = 0 → Ord w S es ep t h (.int k 0) i []
  | one0 (e : Int × Value) : w.params.followText "set-order" = false → es = #[e] → Ord w S es ep t h (.int 0 0) 0 [e.2]
  | one1 (e : Int × Value) (j : Nat) : w.params.followText "set-order" = false → es = #[e] → t.place = #[j] → Ord w S es ep t h (.int (j + 1 : Nat) 0) 1 [e.2]
noncomputable def SetSt (P : Program) (w : World) (S I T0 : Addr) (es : Array (Int × Value)) (ep : Nat) (t : SetTable) (ord : List Value) (i : Nat) (h : Heap) : Prop :=
  ∃ first o, h.get? I = some (setIt first i S es.size ep) ∧ h.get? S = some o ∧ o.data = .set es ep t ∧ Ord w S es ep t h first i ord ∧ ∀ T, first = .ref T → T = T0
section
variable {P : Program} {w : World} {A : Around} {E : Value → Shared → Prop} {s : Shared}
theorem below1 (j : Nat) : SetTable.below #[j] (j + 1) = 1 := by
  simp [SetTable.below, SetTable.below.go]
theorem below0 (j : Nat) : SetTable.below #[j] 0 = 0 := by
  simp [SetTable.below, SetTable.below.go]
theorem byText_wp {Q : Bool → Shared → Prop} (h : Q (w.params.followText "set-order") s) : wpAny (model P w) A setsByText Q E s := by
  unfold setsByText
  exact wpAny_bind (wpAny_askSetting (wpAny_pure h))
theorem setNext_wp {S : Addr} {es : Array (Int × Value)} {ep i k : Nat} {t : SetTable} {ord : List Value} {o : Obj} {Q : Option (Value × Nat) → Shared → Prop} (ho : s.heap.get? S = some o) (hd : o.data = .set es ep t) (hf : t.fits es.size = true)
    (hled : t.led = !w.params.followText "set-order") (od : Ord w S es ep t s.heap (.int (k : Int) 0) i ord)
    (h : ∀ k' : Nat, (∀ v, ord[i]? = some v → Ord w S es ep t s.heap (.int (k' : Int) 0) (i + 1) ord) → Q ((ord[i]?).map fun v => (v, k')) s) : wpAny (model P w) A (setNext S k i ep) Q E s := by
  unfold setNext
  refine wpAny_bind (wpAny_setState_of ho hd hf ?_)
  dsimp only
  refine wpAny_bind (byText_wp ?_)
  generalize hk : (k : Int) = ki at od
  generalize hfst : Value.int ki 0 = first at od
  cases od with
  | text i ht =>
    cases hfst
    obtain rfl : k = 0 := by lia
    rw [ht]
    simp only [if_true, bne_self_eq_false, Bool.false_eq_true, if_false]
    unfold setWalk
    refine wpAny_bind ?_
    refine wpAny_bind (wpAny_setState_of ho hd hf ?_)
    dsimp only
    refine wpAny_bind (byText_wp ?_)
    rw [ht]
    simp only [if_true]
    refine wpAny_bind (wpAny_askSetting (wpAny_pure ?_))
    refine wpAny_pure ?_
    have := h 0 fun v _ => Ord.text (i + 1) ht
    rw [List.getElem?_map, Array.getElem?_toList] at this
    rw [Option.map_map] at this
    exact this
  | drawn => cases hfst
  | none k' i ht h0 =>
    cases hfst
    rw [ht]
    have e0 : es = #[] := Array.eq_empty_of_size_eq_zero h0
    subst e0
    have hl : t.led = true := by rw [hled, ht]; rfl
    rw [if_neg Bool.false_ne_true]
    split
    · rename_i hdr
      have hdr' : (!t.plain && decide ((#[] : Array (Int × Value)).size > 1)) = true := hdr
      simp at hdr'
    · refine wpAny_bind (show wpAny (model P w) A (if (!t.led && !(#[] : Array (Int × Value)).isEmpty) = true then unsupported "set:maker-not-led" else pure ()) _ _ _ from ?_)
      rw [hl]
      refine wpAny_pure (wpAny_pure ?_)
      have := h k fun v e => by simp at e
      simpa using this
  | one0 e ht he =>
    cases hfst
    obtain rfl : k = 0 := by lia
    rw [ht]
    subst he
    have hl : t.led = true := by rw [hled, ht]; rfl
    have hpz : t.place.size = 1 := by
      simp only [SetTable.fits, Bool.and_eq_true, beq_iff_eq] at hf
      exact hf.1
    obtain ⟨j, hj⟩ : ∃ j, t.place = #[j] := by
      generalize t.place = pl at hpz
      obtain ⟨l⟩ := pl
      obtain ⟨j, rfl⟩ := List.length_eq_one_iff.mp hpz
      exact ⟨j, rfl⟩
    rw [if_neg Bool.false_ne_true]
    split
    · rename_i hdr
      have hdr' : (!t.plain && decide ((#[e] : Array (Int × Value)).size > 1)) = true := hdr
      simp at hdr'
    · refine wpAny_bind (show wpAny (model P w) A (if (!t.led && !(#[e] : Array (Int × Value)).isEmpty) = true then unsupported "set:maker-not-led" else pure ()) _ _ _ from ?_)
      rw [hl]
      refine wpAny_pure (wpAny_pure ?_)
      rw [hj, below0]
      exact h (j + 1) fun v _ => Ord.one1 e j ht rfl hj
  | one1 e j ht he hp =>
    cases hfst
    obtain rfl : k = j + 1 := by lia
    rw [ht]
    subst he
    have hl : t.led = true := by rw [hled, ht]; rfl
    rw [if_neg Bool.false_ne_true]
    split
    · rename_i hdr
      have hdr' : (!t.plain && decide ((#[e] : Array (Int × Value)).size > 1)) = true := hdr
      simp at hdr'
    · refine wpAny_bind (show wpAny (model P w) A (if (!t.led && !(#[e] : Array (Int × Value)).isEmpty) = true then unsupported "set:maker-not-led" else pure ()) _ _ _ from ?_)
      rw [hl]
      refine wpAny_pure (wpAny_pure ?_)
      rw [hp, below1]
      exact h 0 fun v e => by simp at e
theorem Ord.keep {S : Addr} {es : Array (Int × Value)} {ep i : Nat} {t : SetTable} {ord : List Value} {first : Value} {h h' : Heap} (od : Ord w S es ep t h first i ord) (k : ∀ T o, first = .ref T → h.get? T = some o → h'.get? T = some o) : Ord w S es ep t h' first i ord := by
  cases od with
  | text i ht => exact .text i ht
  | drawn i T ps ht hT hp =>
    obtain ⟨o, e, c⟩ := hT
    exact .drawn i T ps ht ⟨o, k T o rfl e, c⟩ hp
  | none kk i ht h0 => exact .none kk i ht h0
  | one0 e ht he => exact .one0 e ht he
  | one1 e j ht he hp => exact .one1 e j ht he hp
theorem Ord.kind {S : Addr} {es : Array (Int × Value)} {ep i : Nat} {t : SetTable} {ord : List Value} {first : Value} {h : Heap} (od : Ord w S es ep t h first i ord) :
    (∃ k : Nat, first = .int (k : Int) 0) ∨ ∃ (T : Addr) (ps : List Nat), first = .ref T ∧ w.params.followText "set-order" = false ∧ IsTup h T (ps.map fun (p : Nat) => Value.int p 0).toArray ∧ (∀ p ∈ ps, p < es.size) ∧ ord = ps.filterMap fun p => (es[p]?).map (·.2) := by
  cases od with
  | text i ht => exact .inl ⟨0, rfl⟩
  | drawn i T ps ht hT hp => exact .inr ⟨T, ps, rfl, ht, hT, hp, rfl⟩
  | none k i ht h0 => exact .inl ⟨k, rfl⟩
  | one0 e ht he => exact .inl ⟨0, rfl⟩
  | one1 e j ht he hp => exact .inl ⟨j + 1, rfl⟩
theorem Ord.step {S : Addr} {es : Array (Int × Value)} {ep i : Nat} {t : SetTable} {ord : List Value} {T : Addr} {h : Heap} (od : Ord w S es ep t h (.ref T) i ord) : Ord w S es ep t h (.ref T) (i + 1) ord := by
  cases od with
  | drawn i T ps ht hT hp => exact .drawn (i + 1) T ps ht hT hp
end
theorem fm_get {es : Array (Int × Value)} : ∀ {ps : List Nat}, (∀ p ∈ ps, p < es.size) → ∀ (i : Nat), (ps.filterMap fun p => (es[p]?).map (·.2))[i]? = (ps[i]?).bind fun p => (es[p]?).map (·.2)
  | [], _, i => by simp
  | p :: r, hp, i => by
    have h1 : p < es.size := hp p (by simp)
    have e : es[p]? = some es[p] := by simp [h1]
    rw [List.filterMap_cons, e]
    cases i with
    | zero => simp [e]
    | succ i => simpa using fm_get (fun q hq => hp q (List.mem_cons_of_mem _ hq)) i
section
variable {P : Program} {w : World} {A : Around}
theorem walks_set (hh : A.handled = none) {S I : Addr} {es : Array (Int × Value)} {ep : Nat} {t : SetTable} {ord : List Value} (fp : List Addr) (hI : I ∈ fp) (hS : S ∈ fp) (hne : S ≠ I) (hf : t.fits es.size = true) (hled : t.led = !w.params.followText "set-order")
    {T0 : Addr} (hT : T0 ∈ fp) (hTI : T0 ≠ I) :
    Walks P w A I fp [I] ord.length (fun i v => ord[i]? = some v) (SetSt P w S I T0 es ep t ord) where
  sub := fun b hb => by rw [List.mem_singleton.mp hb]; exact hI
  frame := fun i h h' st hk => by
    obtain ⟨first, o, h1, h2, h3, h4, h5⟩ := st
    exact ⟨first, o, hk I hI _ h1, hk S hS _ h2, h3, h4.keep (fun T o e q => hk T (by rw [h5 T e]; exact hT) o q), h5⟩
  item := fun i s Q E hi st hQ => by
    obtain ⟨first, o, h1, h2, h3, h4, h5⟩ := st
    have ty : s.TypeIs (.ref I) "set_iterator" := ⟨_, h1, rfl⟩
    unfold pyNext
    refine wpAny_bind (wpAny_attempt (wpAny_callSpecial?_slot (name := Str.ofString "__next__") ty SF.slot_next (wpAny_call_entry SF.slot_next ty SF.entry_next ?_ (SF.args_next _))))
    show wpAny _ _ (fieldsOf (.ref I) >>= _) _ _ s
    refine wpAny_bind (wpAny_fieldsOf h1 rfl ?_)
    show wpAny _ _ (setEntries S >>= _) _ _ s
    refine wpAny_bind (wpAny_setEntries_of h2 h3 hf ?_)
    simp only [bne_self_eq_false, Bool.false_eq_true, if_false]
    have hv : ord[i]? = some ord[i] := List.getElem?_eq_getElem hi
    rcases h4.kind with ⟨k, rfl⟩ | ⟨T, ps, rfl, ht, hTt, hps, hord⟩
    · show wpAny _ _ (setNext S (Int.toNat (k : Int)) (Int.toNat (i : Int)) (Int.toNat (ep : Int)) >>= _) _ _ s
      simp only [Int.toNat_natCast]
      refine wpAny_bind (setNext_wp h2 h3 hf hled h4 fun k' hk' => ?_)
      rw [hv]
      show wpAny _ _ (setField (.ref I) 0 (rawInt k') >>= _) _ _ s
      refine wpAny_bind (wpAny_setField_rec h1 (by simp) fun ha ha1 ha2 => ?_)
      refine wpAny_bind (wpAny_setField_rec ha1 (by simp) fun hb hb1 hb2 => ?_)
      refine wpAny_pure ⟨_, rfl, wpAny_pure (hQ _ hb s.toks hv ⟨.int (k' : Int) 0, o, hb1, ?_, h3, (hk' _ hv).keep (fun T o e => by cases e), (fun T e => by cases e)⟩ fun b o hb' e => ?_)⟩
      · rw [hb2.2 S hne, ha2.2 S hne]; exact h2
      · have : b ≠ I := fun z => hb' (by simp [z])
        rw [hb2.2 b this, ha2.2 b this]; exact e
    · have hTne : T ≠ I := by rw [h5 T rfl]; exact hTI
      have hg := fm_get hps i
      rw [← hord, hv] at hg
      cases hpi : ps[i]? with
      | none => rw [hpi] at hg; cases hg
      | some p =>
        rw [hpi] at hg
        have hp : p < es.size := hps p (List.mem_of_getElem? hpi)
        have hep : es[p]? = some es[p] := by simp [hp]
        have hg' : some ord[i] = (es[p]?).map (·.2) := hg
        rw [hep] at hg'
        have hval : ord[i] = es[p].2 := Option.some.inj hg'
        show wpAny _ _ (seqItems? (.ref T) >>= _) _ _ s
        obtain ⟨oT, eT, cT, nT, dT⟩ := hTt
        refine wpAny_bind (wpAny_seqItems eT dT ?_)
        dsimp only
        have hpl : ((ps.map fun (p : Nat) => Value.int p 0).toArray)[Int.toNat (i : Int)]? = some (.int (p : Int) 0) := by
          rw [Int.toNat_natCast, List.getElem?_toArray, List.getElem?_map, hpi]; rfl
        rw [hpl]
        show wpAny _ _ (setNextDrawn S (Int.toNat (p : Int)) (Int.toNat (ep : Int)) >>= _) _ _ s
        simp only [Int.toNat_natCast]
        unfold setNextDrawn
        refine wpAny_bind (wpAny_bind (wpAny_setState_of h2 h3 hf ?_))
        simp only [bne_self_eq_false, Bool.false_eq_true, if_false]
        rw [hep]
        refine wpAny_pure ?_
        refine wpAny_bind (wpAny_setField_rec h1 (by simp) fun hb hb1 hb2 => ?_)
        refine wpAny_pure ⟨_, rfl, wpAny_pure (hQ _ hb s.toks (by rw [hv, hval]; rfl) ⟨.ref T, o, hb1, ?_, h3, h4.step.keep (fun T' o e q => ?_), h5⟩ fun b o hb' e => ?_)⟩
        · rw [hb2.2 S hne]; exact h2
        · cases e; rw [hb2.2 T hTne]; exact q
        · have : b ≠ I := fun z => hb' (by simp [z])
          rw [hb2.2 b this]; exact e
  done := fun s Q E st hQ => by
    obtain ⟨first, o, h1, h2, h3, h4, h5⟩ := st
    have ty : s.TypeIs (.ref I) "set_iterator" := ⟨_, h1, rfl⟩
    have hv : ord[ord.length]? = none := List.getElem?_eq_none (Nat.le_refl _)
    have stop : ∀ h' : Heap, (∀ b o, b ≠ I → s.heap.get? b = some o → h'.get? b = some o) → wpAny (model P w) A.in1 (do raiseNew (← newExc (.type "StopIteration") []) : Sem Fin) (fun _ _ => False)
        (fun x s' => wpAny (model P w) A (do let b ← isInstance x (.type "StopIteration"); if b = true then pure Option.none else throw x) Q E s') { s with heap := h' } := by
      intro h' hk
      refine wpAny_bind ?_
      simp only [newExc, newTuple]
      refine wpAny_bind (wpAny_newObj_type ?_ (by size_fits))
      refine wpAny_bind (m := firstArgMember _ _) (wpAny_of_eq (a := Value.none) (by first | rfl | (simp only [firstArgMember]; rfl)) ?_)
      refine wpAny_newObj_type ?_ (by size_fits)
      simp only [raiseNew]
      refine wpAny_bind (wpAny_handled ?_)
      rw [show A.in1.handled = none from hh]
      refine wpAny_bind (wpAny_pure (wpAny_throw ?_))
      refine wpAny_bind (wpAny_isInstance (T := "StopIteration") (b := true) ⟨_, Heap.get?_push_size _ rfl, rfl⟩ isSubtype_stop ?_)
      exact wpAny_pure (hQ _ _ fun b o hb e => Heap.get?_push_of_some _ (Heap.get?_push_of_some _ (hk b o (fun z => hb (by simp [z])) e)))
    unfold pyNext
    refine wpAny_bind (wpAny_attempt (wpAny_callSpecial?_slot (name := Str.ofString "__next__") ty SF.slot_next (wpAny_call_entry SF.slot_next ty SF.entry_next ?_ (SF.args_next _))))
    show wpAny _ _ (fieldsOf (.ref I) >>= _) _ _ s
    refine wpAny_bind (wpAny_fieldsOf h1 rfl ?_)
    show wpAny _ _ (setEntries S >>= _) _ _ s
    refine wpAny_bind (wpAny_setEntries_of h2 h3 hf ?_)
    simp only [bne_self_eq_false, Bool.false_eq_true, if_false]
    rcases h4.kind with ⟨k, rfl⟩ | ⟨T, ps, rfl, ht, hTt, hps, hord⟩
    · show wpAny _ _ (setNext S (Int.toNat (k : Int)) (Int.toNat (ord.length : Int)) (Int.toNat (ep : Int)) >>= _) _ _ s
      simp only [Int.toNat_natCast]
      refine wpAny_bind (setNext_wp h2 h3 hf hled h4 fun k' hk' => ?_)
      rw [hv]
      show wpAny _ _ (setField (.ref I) 2 .none >>= _) _ _ s
      refine wpAny_bind (wpAny_setField_rec h1 (by simp) fun ha ha1 ha2 => ?_)
      refine wpAny_mono (stop ha fun b o hb e => by rw [ha2.2 b hb]; exact e) (fun _ _ z => z.elim) fun x s' z => ?_
      exact z
    · have hpi : ps[ord.length]? = none := by
        have hg := fm_get hps ord.length
        rw [← hord, hv] at hg
        cases hpi : ps[ord.length]? with
        | none => rfl
        | some p =>
          rw [hpi] at hg
          have hp : p < es.size := hps p (List.mem_of_getElem? hpi)
          have hep : es[p]? = some es[p] := by simp [hp]
          have hg' : (none : Option Value) = (es[p]?).map (·.2) := hg
          rw [hep] at hg'
          cases hg'
      show wpAny _ _ (seqItems? (.ref T) >>= _) _ _ s
      obtain ⟨oT, eT, cT, nT, dT⟩ := hTt
      refine wpAny_bind (wpAny_seqItems eT dT ?_)
      dsimp only
      have hpl : ((ps.map fun (p : Nat) => Value.int p 0).toArray)[Int.toNat (ord.length : Int)]? = none := by
        rw [Int.toNat_natCast, List.getElem?_toArray, List.getElem?_map, hpi]; rfl
      rw [hpl]
      show wpAny _ _ (setField (.ref I) 0 (rawInt 0) >>= _) _ _ s
      refine wpAny_bind (wpAny_setField_rec h1 (by simp) fun ha ha1 ha2 => ?_)
      refine wpAny_bind (wpAny_setField_rec ha1 (by simp) fun hb hb1 hb2 => ?_)
      refine wpAny_mono (stop hb fun b o hb' e => by rw [hb2.2 b hb', ha2.2 b hb']; exact e) (fun _ _ z => z.elim) fun x s' z => ?_
      exact z
  self := fun i s Q E st hQ => by
    obtain ⟨first, o, h1, h2, h3, h4, h5⟩ := st
    have ty : s.TypeIs (.ref I) "set_iterator" := ⟨_, h1, rfl⟩
    refine wpAny_pyIter_slot ty SF.slot_self (wpAny_call_entry SF.slot_self ty SF.entry_self ?_ (SF.args_self _))
    show wpAny _ _ (ret (.ref I)) _ _ s
    exact wpAny_pure ⟨_, rfl, "set_iterator", _, ty, SF.slot_next.lookup, hQ⟩
theorem pyIter_sset {E : Value → Shared → Prop} {s : Shared} {S : Addr} {ss : List Str} {Q : Value → Shared → Prop} (hS : SSet P w s.heap S ss)
    (h : ∀ (h' : Heap) (d' : Drawn) (I : Addr) (fp : List Addr) (ord : List Value) (St : Nat → Heap → Prop), (∀ b o, s.heap.get? b = some o → h'.get? b = some o) → s.heap.objs.size ≤ I → I ∈ fp → (∀ b ∈ fp, b < h'.objs.size ∧ (b = S ∨ s.heap.objs.size ≤ b)) →
      (∀ A' : Around, A'.handled = none → Walks P w A' I fp [I] ord.length (fun i v => ord[i]? = some v) St) → St 0 h' → (∃ ys, StrsAre ord ys ∧ ys.Perm ss) → Q (.ref I) { s with heap := h', drawn := d' }) :
    wpAny (model P w) A (pyIter (.ref S)) Q E s := by
  obtain ⟨o, es, ep, t, ho, hex, hd, hel, hss, hnd, hb, hf, hled, hpl⟩ := hS
  have ty : s.TypeIs (.ref S) "set" := ⟨o, ho, hex.1⟩
  have hlt : S < s.heap.objs.size := Heap.lt_size ho
  have hstr : ∀ l : List (Int × Value), (∀ e ∈ l, e ∈ es.toList) → StrsAre (l.map (·.2)) (l.map fun e => txtOf e.2) := by
    intro l
    induction l with
    | nil => intro _; exact .nil
    | cons e r ih =>
      intro hm
      obtain ⟨u, hu⟩ := elems_txt hel (hm e (by simp))
      have := StrsAre.cons (txtOf e.2) u (ih fun x hx => hm x (List.mem_cons_of_mem _ hx))
      rw [← hu] at this
      exact this
  refine wpAny_pyIter_slot ty PySem.F.slot_set_iter (wpAny_call_entry PySem.F.slot_set_iter ty SF.entry_set_iter ?_ (PySem.F.args_set_iter_1 _))
  show wpAny _ _ (Builtin.Frozenset.sizeOf S >>= _) _ _ s
  unfold Builtin.Frozenset.sizeOf
  refine wpAny_bind (wpAny_bind (wpAny_setEntries_of ho hd hf (wpAny_pure ?_)))
  unfold setDrawn
  refine wpAny_bind (wpAny_bind (wpAny_setState_of ho hd hf ?_))
  dsimp only
  refine wpAny_bind (byText_wp (wpAny_pure ?_))
  have make : ∀ (first : Value) (T0 : Addr) (ord : List Value) (h1 : Heap) (d1 : Drawn), (∀ b ob, s.heap.get? b = some ob → h1.get? b = some ob) → s.heap.objs.size ≤ h1.objs.size → (∀ T, first = .ref T → T = T0) → T0 < h1.objs.size → (T0 = S ∨ s.heap.objs.size ≤ T0) → Ord w S es ep t h1 first 0 ord → (∃ ys, StrsAre ord ys ∧ ys.Perm ss) →
      Q (.ref h1.objs.size) { s with heap := h1.push (setIt first 0 S es.size ep), drawn := d1 } := by
    intro first T0 ord h1 d1 hk hsz hT hT1 hT2 od hord
    have hne : S ≠ h1.objs.size := Nat.ne_of_lt (Nat.lt_of_lt_of_le hlt hsz)
    have szp : (h1.push (setIt first 0 S es.size ep)).objs.size = h1.objs.size + 1 := Heap.size_push ..
    refine h _ d1 h1.objs.size [h1.objs.size, S, T0] ord (SetSt P w S h1.objs.size T0 es ep t ord) (fun b ob e => Heap.get?_push_of_some _ (hk b ob e)) hsz (by simp) (fun b hb => ?_) (fun A' hA => ?_) ⟨first, o, Heap.get?_push_size _ rfl, Heap.get?_push_of_some _ (hk S o ho), hd, od.keep (fun T ob _ e => Heap.get?_push_of_some _ e), hT⟩ hord
    · rw [szp]
      have hb' : b = h1.objs.size ∨ b = S ∨ b = T0 := by simpa using hb
      rcases hb' with rfl | rfl | rfl
      · exact ⟨Nat.lt_succ_self _, .inr hsz⟩
      · exact ⟨Nat.lt_succ_of_lt (Nat.lt_of_lt_of_le hlt hsz), .inl rfl⟩
      · exact ⟨Nat.lt_succ_of_lt hT1, hT2⟩
    · exact walks_set hA _ (by simp) (by simp) hne hf hled (by simp) (Nat.ne_of_lt hT1)
  have plain0 : ∀ (ord : List Value), Ord w S es ep t s.heap (.int 0 0) 0 ord → (∃ ys, StrsAre ord ys ∧ ys.Perm ss) → Q (.ref s.heap.objs.size) { s with heap := s.heap.push (setIt (.int 0 0) 0 S es.size ep) } := fun ord od hord =>
    make (.int 0 0) S ord s.heap s.drawn (fun _ _ e => e) (Nat.le_refl _) (fun T e => by cases e) hlt (.inl rfl) od hord
  cases hbt : w.params.followText "set-order" with
  | true =>
    simp only [Bool.not_true, Bool.false_and, Bool.false_eq_true, if_false]
    refine wpAny_bind (wpAny_pure (wpAny_bind (wpAny_setEpoch_of ho hd hf ?_)))
    refine wpAny_bind (wpAny_newObj_type (wpAny_pure ⟨_, rfl, "set_iterator", _, ⟨_, Heap.get?_push_size _ rfl, rfl⟩, SF.slot_next.lookup, ?_⟩))
    refine plain0 _ (.text 0 hbt) ⟨_, hstr _ (fun e he => (pick_perm _ es).mem_iff.mp he), ?_⟩
    rw [← hss]; exact (pick_perm _ es).map _
  | false =>
    show wpAny _ _ (if (!false && (!t.plain && decide (es.size > 1))) = true then _ else _) _ _ s
    by_cases h2 : es.size > 1
    · have hp0 : t.plain = false := hpl (by lia)
      rw [if_pos (by simp [hp0, h2])]
      refine wpAny_bind (drawOrder_perm es.size (List.range es.size) s _ (by simp) fun ps d hps => ?_)
      have hpsl : ps.length = es.size := by rw [hps.length_eq, List.length_range]
      refine wpAny_bind (wpAny_newObj_type ?_ ?_)
      · refine (wpAny_bind (wpAny_setEpoch_of (s := { s with heap := s.heap.push _, drawn := d }) (Heap.get?_push_of_some _ ho) hd hf ?_))
        refine wpAny_bind (wpAny_newObj_type (wpAny_pure ⟨_, rfl, "set_iterator", _, ⟨_, Heap.get?_push_size _ rfl, rfl⟩, SF.slot_next.lookup, ?_⟩))
        have hlp : ∀ p ∈ ps, p < es.size := fun p hp => List.mem_range.mp (hps.mem_iff.mp hp)
        refine make (.ref s.heap.objs.size) s.heap.objs.size (ps.filterMap fun p => (es[p]?).map (·.2)) (s.heap.push _) d (fun b ob e => Heap.get?_push_of_some _ e) (by rw [Heap.size_push]; exact Nat.le_succ _) (fun T e => by cases e; rfl) (by rw [Heap.size_push]; exact Nat.lt_succ_self _) (.inr (Nat.le_refl _))
          (.drawn 0 _ ps hbt ⟨_, Heap.get?_push_size _ rfl, rfl, _, rfl⟩ hlp) ?_
        have e1 : (ps.filterMap fun p => (es[p]?).map (·.2)) = (ps.filterMap fun p => es[p]?).map (·.2) := by rw [List.map_filterMap]
        have hpm : (ps.filterMap fun p => es[p]?).Perm es.toList := by
          have := hps.filterMap (fun p => es[p]?)
          have e2 := range_get es.toList
          simp only [Array.getElem?_toList, Array.length_toList] at e2
          rw [e2] at this
          exact this
        refine ⟨_, by rw [e1]; exact hstr _ (fun e he => hpm.mem_iff.mp he), ?_⟩
        rw [← hss]; exact hpm.map _
      · have hz : ps.length ≤ sizeLine := by rw [hpsl]; exact fits_of_scanBound hb
        show (ps.map _).toArray.size ≤ sizeLine
        rw [List.size_toArray, List.length_map]; exact hz
    · rw [if_neg (by simp [h2])]
      refine wpAny_bind (wpAny_pure (wpAny_bind (wpAny_setEpoch_of ho hd hf ?_)))
      refine wpAny_bind (wpAny_newObj_type (wpAny_pure ⟨_, rfl, "set_iterator", _, ⟨_, Heap.get?_push_size _ rfl, rfl⟩, SF.slot_next.lookup, ?_⟩))
      by_cases h1 : es.size = 0
      · refine plain0 [] (.none 0 0 hbt h1) ⟨[], .nil, ?_⟩
        rw [← hss, Array.eq_empty_of_size_eq_zero h1]
        exact List.Perm.refl _
      · obtain ⟨e, he⟩ : ∃ e, es = #[e] := by
          obtain ⟨l⟩ := es
          have hl : l.length = 1 := by
            have a1 : ¬ l.length > 1 := h2
            have a2 : ¬ l.length = 0 := h1
            lia
          obtain ⟨e, rfl⟩ := List.length_eq_one_iff.mp hl
          exact ⟨e, rfl⟩
        refine plain0 [e.2] (.one0 e hbt he) ⟨[txtOf e.2], hstr [e] (fun x hx => by rw [he]; exact hx), ?_⟩
        rw [← hss, he]
        exact List.Perm.refl _
theorem collect_sset {E : Value → Shared → Prop} {s : Shared} {S : Addr} {ss : List Str} {Q : List Value → Shared → Prop} (hh : A.handled = none) (hS : SSet P w s.heap S ss) (hl : ss.length ≤ sizeLine)
    (h : ∀ (h' : Heap) (d' : Drawn) (tk : Nat) (ord : List Value) (ys : List Str), (∀ b o, s.heap.get? b = some o → h'.get? b = some o) → s.heap.objs.size ≤ h'.objs.size → StrsAre ord ys → ys.Perm ss → Q ord { s with heap := h', drawn := d', toks := tk }) :
    wpAny (model P w) A (collect (.ref S)) Q E s := by
  obtain ⟨o, es, ep, t, ho, hex, hd, hrest⟩ := id hS
  have hlt : S < s.heap.objs.size := Heap.lt_size ho
  unfold collect
  refine wpAny_bind (wpAny_runValue (codeAny_builtin entry_proto_collect' ?_))
  rw [Around.under_plainId PySem.F.plain_proto_collect _]
  show wpAny _ A.in1 (newList [] >>= fun l => again (.builtin "list.__iadd__" ⟨[l, .ref S], []⟩)) _ _ s
  refine wpAny_bind (wpAny_newObj_type ?_)
  refine wpAny_pure ⟨plainId_quiet PySem.F.plain_list_iadd _, codeAny_builtin entry_list_iadd' ?_⟩
  rw [Around.under_plainId PySem.F.plain_list_iadd _]
  generalize hH : s.heap.push { cls := .type "list", data := .seq ([] : List Value).toArray } = H
  have hHs : H.objs.size = s.heap.objs.size + 1 := by rw [← hH, Heap.size_push]
  have old : ∀ b ob, s.heap.get? b = some ob → H.get? b = some ob := fun b ob e => by rw [← hH]; exact Heap.get?_push_of_some _ e
  have hS1 : SSet P w H S ss := hS.at fun o e => old S o e
  have hD : H.get? s.heap.objs.size = some { cls := .type "list", data := .seq #[] } := by rw [← hH]; exact Heap.get?_push_size _ rfl
  show wpAny _ A.in1 (Builtin.List.listExtendWith (.ref s.heap.objs.size) (.ref S) (.ref s.heap.objs.size)) _ _ { s with heap := H }
  unfold Builtin.List.listExtendWith
  refine wpAny_bind (wpAny_typeOf (T := "set") (v := .ref S) (show Shared.TypeIs { s with heap := H } (.ref S) "set" from ⟨o, old S o ho, hex.1⟩) ?_)
  have h1 : Builtin.List.listSameRef (.ref s.heap.objs.size) (.ref S) = false := by simp [Builtin.List.listSameRef, Nat.ne_of_gt hlt]
  have h2 : (Value.type "set" == Value.type "list") = false := by decide
  have h3 : (Value.type "set" == Value.type "tuple") = false := by decide
  simp only [h1, h2, h3, Bool.or_false, Bool.false_eq_true, if_false]
  refine wpAny_bind (pyIter_sset (s := { s with heap := H }) hS1 fun h' d' I fp ord St hk hI hIf hfp W st zq => ?_)
  obtain ⟨ys, hys, hp⟩ := zq
  have ty' : Shared.TypeIs { s with heap := h', drawn := d' } (.ref S) "set" := ⟨o, hk S o (old S o ho), hex.1⟩
  refine wpAny_bind (wpAny_holding ?_)
  unfold Builtin.List.listLengthHint
  refine wpAny_bind (wpAny_specialOf (T := "set") (v := .ref S) ty' SF.set_len ?_)
  wp_delta
  refine wpAny_bind (wpAny_isInstance (T := "set") (v := .ref S) (b := true) ty' SF.sub_set ?_)
  show wpAny _ A.in1 (typeOf (Value.ref S) >>= _) _ _ _
  refine wpAny_bind (wpAny_typeOf (T := "set") (v := .ref S) ty' ?_)
  refine wpAny_pure ?_
  have hDI : s.heap.objs.size ≠ I := fun z => by
    have : H.objs.size ≤ I := hI
    rw [hHs] at this
    lia
  have hSf : s.heap.objs.size ∉ fp := fun hb => by
    rcases (hfp _ hb).2 with z | z
    · exact absurd z (Nat.ne_of_gt hlt)
    · have : H.objs.size ≤ s.heap.objs.size := z
      rw [hHs] at this
      lia
  have hlen : ord.length = ss.length := by
    have a1 : ord.length = ys.length := hys.length
    rw [a1, hp.length_eq]
  have key : ∀ (h1 : Heap) (c₁ : Nat), St 0 h1 → (∀ b ob, b ≠ s.heap.objs.size → h'.get? b = some ob → h1.get? b = some ob) → h1.get? s.heap.objs.size = some { cls := .type "list", data := .seq #[] c₁ } →
      codeAny (model P w) A (.builtin "list.extend.loop" ⟨[.ref s.heap.objs.size, .ref I, .ref s.heap.objs.size], []⟩)
        (fun r s' => r = .ok (.ret (.ref s.heap.objs.size)) ∧ ∃ acc' c', s'.heap.get? s.heap.objs.size = some { cls := .type "list", data := .seq acc' c' } ∧ Q acc'.toList s') { s with heap := h1, drawn := d' } := by
    intro h1 c₁ st1 hk1 hD1
    refine codeAny_extend_loopS (W A.in1 hh).toS (by rw [hlen]; exact hl) _ hSf _ ord.length 0 _ #[] c₁ rfl (Nat.zero_le _) st1 hD1 (ItemsOf.nil _) fun s' acc' c' hm hS' hacc => ?_
    refine ⟨rfl, acc', c', hS', ?_⟩
    have eacc : acc'.toList = ord := by
      refine List.ext_getElem? fun i => ?_
      rw [Array.getElem?_toList]
      by_cases hi : i < acc'.size
      · have e : acc'[i]? = some acc'[i] := by simp [hi]
        rw [e, hacc.2 i _ e]
      · have hi' : ord.length ≤ i := by have := hacc.1; lia
        rw [List.getElem?_eq_none hi']
        simp; lia
    have heq : s' = { s with heap := s'.heap, drawn := d', toks := s'.toks } := Moved.eq_with hm
    rw [eacc, heq]
    refine h s'.heap d' s'.toks ord ys (fun b ob e => ?_) (Nat.le_of_lt (Heap.lt_size hS')) hys hp
    have hb1 : b ≠ s.heap.objs.size := Nat.ne_of_lt (Heap.lt_size e)
    have hb2 : b ≠ I := fun z => by
      have hz : H.objs.size ≤ b := by rw [z]; exact hI
      rw [hHs] at hz
      exact Nat.lt_irrefl _ (Nat.lt_of_lt_of_le (Nat.lt_succ_of_lt (Heap.lt_size e)) hz)
    exact hm.heap b ob (by simp [hb1, hb2]) (hk1 b ob hb1 (hk b ob (old b ob e)))
  have hD' : h'.get? s.heap.objs.size = some { cls := .type "list", data := .seq #[] } := hk _ _ hD
  have fin : ∀ (h1 : Heap) (c₁ : Nat), St 0 h1 → (∀ b ob, b ≠ s.heap.objs.size → h'.get? b = some ob → h1.get? b = some ob) → h1.get? s.heap.objs.size = some { cls := .type "list", data := .seq #[] c₁ } → ∀ (R : Result → Shared → Prop),
      (∀ s' acc' c', s'.heap.get? s.heap.objs.size = some { cls := .type "list", data := .seq acc' c' } → Q acc'.toList s' → R (.ok (.ret (.ref s.heap.objs.size))) s') →
      codeAny (model P w) A (.builtin "list.extend.loop" ⟨[.ref s.heap.objs.size, .ref I, .ref s.heap.objs.size], []⟩) R { s with heap := h1, drawn := d' } := by
    intro h1 c₁ a1 a2 a3 R hR
    refine codeAny_mono (key h1 c₁ a1 a2 a3) fun r s' zq => ?_
    obtain ⟨e, acc', c', q1, q2⟩ := zq
    subst e
    exact hR s' acc' c' q1 q2
  have last : ∀ (R : Result → Shared → Prop), R = R → True := fun _ _ => trivial
  refine wpAny_ite_split (fun _ => ?_) (fun _ => wpAny_pure ⟨plainId_quiet PySem.F.plain_extend_loop _, fin h' 0 st (fun b ob _ e => e) hD' _ fun s' acc' c' q1 q2 => ?_⟩)
  · refine wpAny_bind (wpAny_rule ?_)
    refine wpAny_bind ?_
    show wpAny _ _ (updateSeq s.heap.objs.size (·.push .none) >>= fun _ => updateSeq s.heap.objs.size (·.pop)) _ _ _
    refine wpAny_bind (wpAny_updateSeq hD' rfl ?_)
    have hS₂ := Heap.get?_update_self (Obj.mapSeq (·.push Value.none)) hD' rfl
    refine wpAny_updateSeq (hz := by seq_fits) hS₂ rfl ?_
    have hS₃ := Heap.get?_update_self (Obj.mapSeq (·.pop)) hS₂ rfl
    refine wpAny_pure ⟨plainId_quiet PySem.F.plain_extend_loop _, fin _ _ ?_ (fun b ob hb e => ?_) hS₃ _ fun s' acc' c' q1 q2 => ?_⟩
    · refine (W A.in1 hh).frame 0 _ _ st fun b hb o e => ?_
      have hbS : b ≠ s.heap.objs.size := fun z => hSf (z ▸ hb)
      exact (Heap.get?_update_other _ _ (Ne.symm hbS)).trans ((Heap.get?_update_other _ _ (Ne.symm hbS)).trans e)
    · exact (Heap.get?_update_other _ _ (Ne.symm hb)).trans ((Heap.get?_update_other _ _ (Ne.symm hb)).trans e)
    · show wpAny _ A (load s.heap.objs.size >>= _) _ _ _
      exact wpAny_bind (wpAny_load q1 (wpAny_pure q2))
  · show wpAny _ A (load s.heap.objs.size >>= _) _ _ _
    exact wpAny_bind (wpAny_load q1 (wpAny_pure q2))
theorem sorted_sset {E : Value → Shared → Prop} {s : Shared} {S : Addr} {ss : List Str} {Q : Value → Shared → Prop} (hh : A.handled = none) (hS : SSet P w s.heap S ss) (h64 : ss.length < 64)
    (h : ∀ (h' : Heap) (d' : Drawn) (tk : Nat) (l : Addr) (vs : List Value) (zs : List Str) (e : Nat), (∀ b o, s.heap.get? b = some o → h'.get? b = some o) → s.heap.objs.size ≤ l → h'.get? l = some { cls := .type "list", data := .seq vs.toArray e } → StrsAre vs zs → zs.Perm ss → sortedS zs = true →
      Q (.ref l) { s with heap := h', drawn := d', toks := tk }) :
    wpAny (model P w) A (call (.builtin "sorted") [.ref S]) Q E s := by
  refine Calls.call_function_entry kind_sorted plain_sorted entry_sorted (args_sorted1 _) ?_
  unfold Builtin.«sorted»
  refine wpAny_bind (m := checkCount "sorted" 1 1 _) (wpAny_pure ?_)
  refine wpAny_bind (collect_sset (A := A.in1) (show A.in1.handled = none from hh) hS (by rw [sizeLine_eq]; lia) fun h1 d1 tk1 ord ys hk1 hsz1 hys hp1 => ?_)
  have hn : ord.length < 64 := by
    have : ord.length = ys.length := hys.length
    rw [this, hp1.length_eq]; exact h64
  refine wpAny_bind (wpAny_newList ?_ (by rw [sizeLine_eq]; lia))
  have hoL : (h1.push (seqObj "list" ord.toArray 0)).get? h1.objs.size = some (seqObj "list" ord.toArray 0) := Heap.get?_push_size _ rfl
  show wpAny _ _ _ _ _ { s with heap := h1.push (seqObj "list" ord.toArray 0), drawn := d1, toks := tk1 }
  refine wpAny_bind (wpAny_holding (wpAny_call_entry slot_list_sort ⟨_, hoL, rfl⟩ entry_list_sort (list_sort_treeK strKind_oneLt hoL hys.keysOf (fun v₁ v₂ rest e => keyKind_strs (by rw [← e]; exact hys)) hn fun st' a1 a2 => ⟨_, rfl, ?_⟩) (args_list_sort _)))
  obtain ⟨zs, q1, q2, q3⟩ := sorted_out_str hys a1 a2
  refine wpAny_pure ⟨_, rfl, ?_⟩
  obtain ⟨e, he⟩ := sortedHeap_at (out := (arrOf st').map (·.2)) hoL
  refine h _ d1 tk1 h1.objs.size ((arrOf st').map (·.2)).toList zs e (fun b o q => ?_) hsz1 he q1 (q2.trans hp1) q3
  have hb := Heap.lt_size (hk1 b o q)
  rw [sortedHeap_old (Nat.ne_of_lt hb) (by rw [Heap.size_push]; exact Nat.lt_succ_of_lt hb)]
  exact Heap.get?_push_of_some _ (hk1 b o q)
end
section
variable {X : Cx}
noncomputable def SetO (P : Program) (w : World) (a : Addr) (ss : List Str) : HO := .ext fun h => SSet P w h a ss
theorem vals_strs : ∀ {xs : List Str} {us : List Value}, Vals (xs.map V.str) us → StrsAre us xs
  | [], _, h => by cases h; exact .nil
  | x :: r, _, h => by
    cases h with
    | cons h1 h2 => obtain ⟨t, rfl⟩ := h1; exact .cons x t (vals_strs h2)
theorem strs_vals : ∀ {us : List Value} {xs : List Str}, StrsAre us xs → Vals (xs.map V.str) us
  | _, _, .nil => .nil
  | _, _, .cons x t r => .cons ⟨t, rfl⟩ (strs_vals r)
theorem call_set (hc : X.calm = true) : CallR X (.type "set") (fun vs H Q => ∃ (a : Addr) (xs : List Str), vs = [.ref a] ∧ SqL X.K H a (xs.map V.str) ∧ xs.length + 1 < scanBound ∧
    ∀ p ss, H p = none → Dd xs ss → Q (.ref p) (upd H p (SetO X.prog X.w p ss))) := by
  intro pins s σ H vs us Q I r h
  obtain ⟨a, xs, rfl, hq, hz, q⟩ := h
  obtain ⟨u, rfl, ru⟩ := r.one
  cases ru
  obtain ⟨its, rv, p, _⟩ := I.list hq
  have hs := vals_strs rv
  have hl : its.length = xs.length := hs.length
  refine call_set_strs (I.ok.hd hc) p.isList (by simpa using hs) (by rw [List.size_toArray, hl]; exact hz) fun h' tk ss hS hd hk => ?_
  have fr : H s.heap.objs.size = none := I.hok.fresh (Nat.le_refl _)
  refine ⟨.ref s.heap.objs.size, upd H s.heap.objs.size (SetO X.prog X.w s.heap.objs.size ss), I.laid (t' := tk) (fun b o e => hk b o (Heap.lt_size e) e) (Nat.le_refl _) ⟨hS, ?_, fun h1 h2 h3 k => ?_⟩, rfl, q _ ss fr hd⟩
  · obtain ⟨o, _, _, _, ho, _⟩ := hS; exact ⟨o, ho⟩
  · exact SSet.at h3 k
theorem call_sorted_set (hc : X.calm = true) : CallR X (.builtin "sorted") (fun vs H Q => ∃ (a : Addr) (ss : List Str), vs = [.ref a] ∧ H a = some (SetO X.prog X.w a ss) ∧ ss.length < 64 ∧
    ∀ p zs, H p = none → zs.Perm ss → sortedS zs = true → Q (.ref p) (upd H p (.lst (zs.map V.str)))) := by
  intro pins s σ H vs us Q I r h
  obtain ⟨a, ss, rfl, hq, hz, q⟩ := h
  obtain ⟨u, rfl, ru⟩ := r.one
  cases ru
  have hS : SSet X.prog X.w s.heap a ss := (I.hok a _ hq).1
  refine sorted_sset (I.ok.hd hc) hS hz fun h' d' tk l ws zs e hk hl hget hs hp hso => ?_
  have fr : H l = none := I.hok.fresh hl
  have hzl : zs.length < 64 := by rw [hp.length_eq]; exact hz
  have ok' : HOk X.prog X.w (upd H l (.lst (zs.map V.str))) h' := I.hok.laid (a := l) (o := .lst (zs.map V.str)) hk hl ⟨by rw [List.length_map]; exact Nat.le_of_lt (small1000 (by lia)), ws, e, strs_vals hs, hget⟩
  have un : Un (frs X.stack) [] H (upd H l (.lst (zs.map V.str))) s.heap h' := Un.laid hk hl fr
  exact ⟨.ref l, _, I.call (g' := s.gens) (d' := d') (t' := tk) (ch := []) un ok' I.bare (fun b z => absurd z (by simp)), rfl, q l zs fr hp hso⟩
end
end L2
namespace L2
open PySem PySem.Spec PyProof.Rows
noncomputable def CXE (P : Program) (w : World) (base : Heap) : CXT := fun outer H s E e s' =>
  ∃ (a : Addr) (cls a0 : Value) (H' : Hp) (B : Heap), e = .ref a ∧ s'.os = s.os ∧ AllBare s'.gens ∧ Un (frs outer) [] H H' s.heap s'.heap ∧ HOk P w H' s'.heap ∧ H' a = none ∧ s.heap.get? a = none ∧
    Heap.FlyingW B outer a cls a0 s'.heap ∧ (∀ b o, s.heap.get? b = some o → H b = none → b ∉ frs outer → B.get? b = some o) ∧ (∀ b u, H' b = some u → ∀ o, s'.heap.get? b = some o → B.get? b = some o) ∧
    (∀ b o, s.heap.get? b = some o → b ∉ frs outer → ∃ o', B.get? b = some o') ∧ E cls none H'
theorem ObjOk.there {P : Program} {w : World} {H : Hp} {h : Heap} {a : Addr} {o : HO} (x : ObjOk P w H h a o) : ∃ ob, h.get? a = some ob := by
  cases o with
  | lst xs => obtain ⟨_, _, _, _, e⟩ := x; exact ⟨_, e⟩
  | tup xs => obtain ⟨_, _, _, o, e, _⟩ := x; exact ⟨_, e⟩
  | dK kvs => obtain ⟨_, _, _, _, o, _, _, e, _⟩ := x; exact ⟨_, e⟩
  | dT kvs => obtain ⟨_, _, _, _, o, _, _, e, _⟩ := x; exact ⟨_, e⟩
  | set S n => obtain ⟨o, _, _, _, e, _⟩ := x; exact ⟨_, e⟩
  | ins C dx fs => obtain ⟨_, _, _, e, _⟩ := x; exact ⟨_, e⟩
  | own y => obtain ⟨_, e⟩ := x; exact ⟨_, e⟩
  | xd fs => obtain ⟨_, ⟨_, _, _, e, _⟩, _⟩ := x; exact ⟨_, e⟩
  | rng lo hi => obtain ⟨_, _, _, e⟩ := x; exact ⟨_, e⟩
  | frz ob u => obtain ⟨e, _⟩ := x; exact ⟨_, e⟩
  | tbl ps => exact ⟨_, (show h.get? a = some _ from x)⟩
  | met f y => exact ⟨_, (show h.get? a = some _ from x)⟩
  | ext φ => obtain ⟨_, e, _⟩ := x; exact e
section
variable {P : Program} {w : World} {K : PySem.W.Frag} {mg : Str → Option Value} {base : Heap} {N : List Str} {qual : Str} {scope : Scope} {f : Addr} {cd : Value} {A : Around} {outer : List Env} {s₀ : Shared} {H₀ : Hp} {E : XK}
theorem HOk.stays {H : Hp} {h h' B : Heap} (ok : HOk P w H h) (hB : ∀ b u, H b = some u → ∀ o, h.get? b = some o → B.get? b = some o) (st : B.StaysIn h') : HOk P w H h' := fun a o e =>
  (ok a o e).stay (fun b u hb q => by
    rcases hb with rfl | hb
    · exact st b u (hB b o e u q)
    · exact st b u (hB b _ hb u q)) (fun _ q => q) fun _ _ q => q
theorem pass_cx (hk : scope.kind = .function) : Passes (CXE P w base) (cxOf (CXE P w base) P w K mg base N qual scope f cd A outer s₀ H₀ E) E := by
  intro pins σ H s e s' I c
  obtain ⟨a, cls, a0, H', B, rfl, hos, hbare, un, hok, hna, hsz, fl, old, trk, thr, hE⟩ := c
  have hlt : s₀.heap.objs.size ≤ s.heap.objs.size := I.sz
  show wpAny (model P w) (A.deeper (envOfC qual scope s₀.heap.objs.size f cd)) (leaving (envOfC qual scope s₀.heap.objs.size f cd) (.ref a)) _ _ s'
  refine wpAny_leaves_onW (L := s₀.heap.objs.size) (I.ok.frames) rfl fl fun h' fl' sm => ?_
  have st : B.StaysIn h' := fl'.1
  have newA : s₀.heap.get? a = none := by
    cases q : s₀.heap.get? a with
    | none => rfl
    | some o =>
      obtain ⟨o', e'⟩ := I.base.there a o q (fun z => absurd (show a ∈ ([] : List Addr) from z) (by simp))
      rw [hsz] at e'; cases e'
  have nofr : ∀ b o, s₀.heap.get? b = some o → b ∉ frs outer → b ∉ frs (cxOf (CXE P w base) P w K mg base N qual scope f cd A outer s₀ H₀ E).stack := fun b o e hb z => by
    rcases List.mem_cons.mp (I.stkSub b z) with q | q
    · have : b = s₀.heap.objs.size := q
      exact absurd (Heap.lt_size e) (by rw [this]; exact Nat.lt_irrefl _)
    · exact hb q
  have nex : ∀ b, b ∉ (cxOf (CXE P w base) P w K mg base N qual scope f cd A outer s₀ H₀ E).ex := fun b z => absurd (show b ∈ ([] : List Addr) from z) (by simp)
  have inB : ∀ b o, s₀.heap.get? b = some o → H₀ b = none → b ∉ frs outer → B.get? b = some o := fun b o e n hb => old b o (I.base.keep b o e n hb (nex b)) (I.base.free b o e n (nex b)) (nofr b o e hb)
  have slots : ∀ b o, s₀.heap.get? b = some o → H₀ b = none → b ∈ frs outer → ∃ sl, h'.get? b = some { o with slots := sl } := fun b o e n hb => by
    obtain ⟨sl, e1⟩ := I.base.slot b o e n hb (nex b)
    have hin : b ∈ frs (cxOf (CXE P w base) P w K mg base N qual scope f cd A outer s₀ H₀ E).stack := by
      show b ∈ List.filterMap (·.frame) (envOfC qual scope s₀.heap.objs.size f cd :: outer)
      exact List.mem_filterMap.mpr (by
        obtain ⟨x, hx, hf⟩ := List.mem_filterMap.mp hb
        exact ⟨x, List.mem_cons_of_mem _ hx, hf⟩)
    obtain ⟨sl2, e2⟩ := un.slot b _ e1 (I.base.free b o e n (nex b)) hin (by simp)
    have hnf : ∀ vs, o.data ≠ .fields vs := by
      obtain ⟨_, o', ho', hd'⟩ := I.ok.funs.mem hb
      have ho'' : s₀.heap.get? b = some o' := ho'
      rw [e] at ho''; cases ho''
      exact hd'
    obtain ⟨sl3, e3⟩ := sm b _ e2 (by intro vs z; exact hnf vs z)
    exact ⟨sl3, e3⟩
  refine ⟨a, cls, a0, H', B, rfl, hos.trans I.os, hbare, ⟨fun b o e n hb _ => st b o (inB b o e n hb), fun b o e n hb _ => ?_, fun b o e n _ => un.free b _ (Classical.choose_spec (I.base.there b o e (nex b))) (I.base.free b o e n (nex b)) (by simp), fun b o e _ => ?_, fun b xs e => un.tups b xs (I.base.tups b xs e), fun b o xs e => un.frzs b o xs (I.base.frzs b o xs e), fun b ps e => ?_⟩,
    HOk.stays hok trk st, hna, newA, fl', inB, fun b u e o ho => ?_, fun b o e hb => ?_, hE⟩
  · exact slots b o e n hb
  · obtain ⟨o1, e1⟩ := I.base.there b o e (nex b)
    by_cases hb : b ∈ frs outer
    · obtain ⟨sl, e2⟩ := slots b o e (I.ok.frf b hb) hb
      exact ⟨_, e2⟩
    · obtain ⟨o2, e2⟩ := thr b o1 e1 (nofr b o e hb)
      exact ⟨o2, st b o2 e2⟩
  · obtain ⟨m1, e1⟩ := I.base.tbls b ps e
    obtain ⟨m2, e2⟩ := un.tbls b _ e1
    exact ⟨m1 ++ m2, by rw [e2, Array.append_assoc]⟩
  · have h1 := (hok b u e).lt
    obtain ⟨o1, ho1⟩ := (hok b u e).there
    have h3 := trk b u e o1 ho1
    have h4 := st b o1 h3
    have ho' : h'.get? b = some o := ho
    rw [h4] at ho'; cases ho'
    exact h3
  · obtain ⟨o1, e1⟩ := I.base.there b o e (nex b)
    exact thr b o1 e1 (nofr b o e hb)
end
noncomputable def Raises (X : Cx) (E : XK) : Prop := ∀ (pins : List (Addr × Obj)) (σ : St) (H : Hp) (s : Shared) (h' : Heap) (e : Addr) (cls : Value) (vs : List Value), Inv X pins σ H s → Heap.MadeExcOf s.heap h' e cls vs → E cls none H → X.xe (.ref e) { s with heap := h' }
section
variable {P : Program} {w : World} {K : PySem.W.Frag} {mg : Str → Option Value} {base : Heap} {N : List Str} {qual : Str} {scope : Scope} {f : Addr} {cd : Value} {A : Around} {outer : List Env} {s₀ : Shared} {H₀ : Hp} {E : XK}
theorem hide_get {h : Heap} {as : List Addr} {b : Addr} {o : Obj} (e : (PySem.W.hideAll h as).get? b = some o) : h.get? b = some o ∧ b ∉ as := by
  refine ⟨PySem.W.of_hideAll _ e, fun hm => ?_⟩
  rw [PySem.W.hideAll_none as hm] at e
  cases e
theorem raises_cx : Raises (cxOf (CXE P w base) P w K mg base N qual scope f cd A outer s₀ H₀ E) E := by
  intro pins σ H s h' e cls vs I mk hE
  have hnew : s.heap.get? e = none := mk.new
  have stack : (cxOf (CXE P w base) P w K mg base N qual scope f cd A outer s₀ H₀ E).stack = envOfC qual scope s₀.heap.objs.size f cd :: outer := rfl
  have hin : ∀ env ∈ (envOfC qual scope s₀.heap.objs.size f cd :: outer), ∀ b, env.frame = some b → b ∈ frs (envOfC qual scope s₀.heap.objs.size f cd :: outer) := fun env he b hb => List.mem_filterMap.mpr ⟨env, he, hb⟩
  have hfn : ∀ b ∈ frs (envOfC qual scope s₀.heap.objs.size f cd :: outer), H b = none := fun b hb => I.stkFree b hb
  have nex : ∀ b, b ∉ (cxOf (CXE P w base) P w K mg base N qual scope f cd A outer s₀ H₀ E).ex := fun b z => absurd (show b ∈ ([] : List Addr) from z) (by simp)
  have newE : s₀.heap.get? e = none := by
    cases q : s₀.heap.get? e with
    | none => rfl
    | some o =>
      obtain ⟨o', e'⟩ := I.base.there e o q (nex e)
      rw [hnew] at e'; cases e'
  have hHe : H e = none := by
    cases q : H e with
    | none => rfl
    | some u =>
      obtain ⟨o', e'⟩ := (I.hok e u q).there
      rw [hnew] at e'; cases e'
  show wpAny (model P w) (A.deeper (envOfC qual scope s₀.heap.objs.size f cd)) (leaving (envOfC qual scope s₀.heap.objs.size f cd) (.ref e)) _ _ { s with heap := h' }
  refine wpAny_leaves_madeW (s := { s with heap := h' }) (base := PySem.W.hideAll s.heap (frs (envOfC qual scope s₀.heap.objs.size f cd :: outer))) (h := s.heap) (L := s₀.heap.objs.size) I.ok.frames rfl (fun b o q => (hide_get q).1)
    (PySem.W.funFrames_hide I.stack hin) mk fun h2 t fl tup tn sm => ?_
  have st : (PySem.W.hideAll s.heap (frs (envOfC qual scope s₀.heap.objs.size f cd :: outer))).StaysIn h2 := fl.1
  have nofr : ∀ b o, s₀.heap.get? b = some o → b ∉ frs outer → b ∉ frs (envOfC qual scope s₀.heap.objs.size f cd :: outer) := fun b o q hb z => by
    rcases List.mem_cons.mp (I.stkSub b z) with p | p
    · have : b = s₀.heap.objs.size := p
      exact absurd (Heap.lt_size q) (by rw [this]; exact Nat.lt_irrefl _)
    · exact hb p
  have trk : ∀ b u, H b = some u → ∀ o, s.heap.get? b = some o → (PySem.W.hideAll s.heap (frs (envOfC qual scope s₀.heap.objs.size f cd :: outer))).get? b = some o := fun b u q o ho => PySem.W.hideAll_get _ ho fun z => by
    rw [hfn b z] at q; cases q
  have inB : ∀ b o, s₀.heap.get? b = some o → H₀ b = none → b ∉ frs outer → (PySem.W.hideAll s.heap (frs (envOfC qual scope s₀.heap.objs.size f cd :: outer))).get? b = some o := fun b o q n hb =>
    PySem.W.hideAll_get _ (I.base.keep b o q n hb (nex b)) (nofr b o q hb)
  have slots : ∀ b o, s₀.heap.get? b = some o → H₀ b = none → b ∈ frs outer → ∃ sl, h2.get? b = some { o with slots := sl } := fun b o q n hb => by
    obtain ⟨sl, e1⟩ := I.base.slot b o q n hb (nex b)
    have hnf : ∀ vs, o.data ≠ .fields vs := by
      obtain ⟨_, o', ho', hd'⟩ := I.ok.funs.mem hb
      have ho'' : s₀.heap.get? b = some o' := ho'
      rw [q] at ho''; cases ho''
      exact hd'
    obtain ⟨sl3, e3⟩ := sm b _ (mk.keeps b _ e1) (by intro vs z; exact hnf vs z)
    exact ⟨sl3, e3⟩
  have thr : ∀ b o, s₀.heap.get? b = some o → b ∉ frs outer → ∃ o', (PySem.W.hideAll s.heap (frs (envOfC qual scope s₀.heap.objs.size f cd :: outer))).get? b = some o' := fun b o q hb => by
    obtain ⟨o1, e1⟩ := I.base.there b o q (nex b)
    exact ⟨o1, PySem.W.hideAll_get _ e1 (nofr b o q hb)⟩
  refine ⟨e, cls, .ref t, H, _, rfl, I.os, I.bare, ⟨fun b o q n hb _ => st b o (inB b o q n hb), fun b o q n hb _ => slots b o q n hb, fun b o q n _ => I.base.free b o q n (nex b), fun b o q _ => ?_, I.base.tups, I.base.frzs, I.base.tbls⟩,
    HOk.stays I.hok trk st, hHe, newE, fl, inB, fun b u q o ho => ?_, thr, hE⟩
  · by_cases hb : b ∈ frs outer
    · obtain ⟨sl, e2⟩ := slots b o q (I.ok.frf b hb) hb
      exact ⟨_, e2⟩
    · obtain ⟨o2, e2⟩ := thr b o q hb
      exact ⟨o2, st b o2 e2⟩
  · obtain ⟨o1, ho1⟩ := (I.hok b u q).there
    have h3 := trk b u q o1 ho1
    have h4 := st b o1 h3
    have ho' : h2.get? b = some o := ho
    rw [h4] at ho'; cases ho'
    exact h3
end
theorem own_obj {K : PySem.W.Frag} {h : Heap} {C : Addr} {bmB : List Value} {newId : String} (X : K.In h) (q : PySem.W.excIn K C bmB newId = true) :
    ∃ bm N nm q bs hdct sn sub ab col dd k0 k1 k2 k3 k5 mN, h.get? C = some (excClassObj nm q C N bs bm hdct sn sub ab col dd k0 k1 k2 k3 k5 newId) ∧ h.Ns N mN ∧ mN "__init__" = none ∧ OwnTail h bmB bm := by
  unfold PySem.W.excIn at q
  split at q
  · rename_i dd cd sl ho
    split at q
    · rename_i C' bm k0 k1 k2 k3 n k5 hm hs
      simp only [Bool.and_eq_true, beq_iff_eq, Bool.not_eq_true'] at q
      obtain ⟨⟨⟨⟨⟨rfl, rfl⟩, hdel⟩, ht⟩, hok⟩, hni⟩ := q
      obtain ⟨nm, bs, mro, ns, qn, hd, sn, sub, ab, col, del⟩ := cd
      dsimp only at hm hdel hok hni
      subst hm hdel
      have hsl : sl = #[k0, k1, k2, k3, some (.builtin n), k5] := by
        obtain ⟨l⟩ := sl
        simp only at hs
        rw [hs]
      subst hsl
      exact ⟨bm, ns, nm, qn, bs, hd, sn, sub, ab, col, dd, k0, k1, k2, k3, k5, _, X _ _ ho, .of_isNs (PySem.W.isNs_of_in X hok), PySem.W.nsMap_none_of_in X hok hni, PySem.W.tail_of_in X ht⟩
    · cases q
  · cases q
noncomputable def tRaise (C : Addr) (E : XK) (t : TA) : TS := fun _ σ H => t σ H fun vs H1 => vs.length ≤ sizeLine ∧ E (.ref C) none H1
section
variable {X : Cx} {E : XK} {x : Str} {C : Addr} {B newId initId : String} {bmB : List Value} {np cpos pos : Pos} {e : Expr} {es : List Expr} {t : TA}
theorem ps_raise (hR : Raises X E) (hc : X.calm = true) (FB : ExcBaseFacts B newId initId bmB) (hg : Gl X x) (hm : X.mg x = some (.ref C)) (hC : PySem.W.excIn X.K C bmB newId = true) (ha : PA X (e :: es) t)
    (hdb : (x == ("__debug__" : Str)) = false := by decide) (he : starEach (e :: es) X.env = (false, eval e X.env) :: starEach es X.env := by rfl) (hpl : (backTo cpos (starEach es X.env)).any (·.1) = false := by rfl) :
    PS X (.Raise (some (.Call (.Name x np) (e :: es) [] cpos)) none pos) (tRaise C E t) := by
  intro pins s σ H D I h
  obtain ⟨tl, N, nm, q, bs, hdct, sn, sub, ab, col, dd, k0, k1, k2, k3, k5, mN, hCo, hN, hni, T⟩ := own_obj I.ok.mod.kin hC
  refine wpAny_Raise_call_subT (C := C) (nm := nm) (q := q) (N := N) (bs := bs) (bm := tl) (hdct := hdct) (sn := sn) (sub := sub) (ab := ab) (col := col) (dd := dd) (k0 := k0) (k1 := k1) (k2 := k2) (k3 := k3) (k5 := k5)
    FB (mN := mN) (T.hasType FB.hasBase) (I.ok.hd hc) (by rw [he]; show (false || (backTo cpos (starEach es X.env)).any (·.1)) = false; rw [hpl]; rfl) hni (ld_glob I hg hm ⟨rfl, ?_⟩ hdb)
  have key := ha cpos pins s σ H _ I h
  rw [he] at key ⊢
  refine Calls.evalArgs_plain (wpAny_mono key (fun us s2 h2 => ?_) fun _ _ y => y)
  obtain ⟨vs, H1, I1, r, hz, hE⟩ := h2
  exact ⟨rfl, by rw [← r.length]; exact hz, I1.bk _ _ hCo, hN.keeps I1.bk, T.keeps I1.bk, fun h' ea mk => hR pins σ H1 s2 h' ea _ _ I1 mk hE⟩
end
end L2
namespace L2
open PySem PySem.Spec PyProof.Rows
noncomputable def ExcO (a : Addr) (cls : Value) : HO := .ext fun h => ∃ oe vs, h.get? a = some oe ∧ oe.cls = cls ∧ oe.data = .fields vs
noncomputable def tryW (X : Cx) (pins₀ : List (Addr × Obj)) (E : XK) : Value → Shared → Prop := fun e s' =>
  ∃ pins σ H s, Inv { X with pn := X.pn ++ pins₀ } pins σ H s ∧ CXE X.prog X.w X.base X.stack H s E e s'
noncomputable def tryX (X : Cx) (pins₀ : List (Addr × Obj)) (E : XK) : Cx := { X with pn := X.pn ++ pins₀, xe := tryW X pins₀ E }
noncomputable def sutX (X : Cx) (pins₀ : List (Addr × Obj)) (a : Addr) : Cx := { X with A := X.A.mark (some (.ref a)), calm := false, pn := X.pn ++ pins₀, xe := fun _ _ => False }
section
variable {X : Cx} {pins₀ : List (Addr × Obj)} {E : XK}
theorem pass_try : Passes (CXE X.prog X.w X.base) (tryX X pins₀ E) E := fun pins σ H s e s' I c =>
  ⟨pins, σ, H, s, ⟨⟨I.ok.mod, I.ok.kind, I.ok.glob, I.ok.blt, I.ok.above, I.ok.inj, I.ok.has, I.ok.cab, I.ok.hd, I.ok.frames, I.ok.stk, I.ok.exf, I.ok.bs, I.ok.bsz, I.ok.noex, I.ok.exfs, I.ok.funs, I.ok.frf⟩,
    I.os, I.bare, I.base, I.loc, I.cell, I.free, I.freeC, I.pin, I.hok, I.len⟩, c⟩
theorem Inv.toTry {σ : St} {H : Hp} {s : Shared} (I : Inv X pins₀ σ H s) : Inv (tryX X pins₀ E) [] σ H s :=
  ⟨⟨I.ok.mod, I.ok.kind, I.ok.glob, I.ok.blt, I.ok.above, I.ok.inj, I.ok.has, I.ok.cab, I.ok.hd, I.ok.frames, I.ok.stk, I.ok.exf, I.ok.bs, I.ok.bsz, I.ok.noex, I.ok.exfs, I.ok.funs, I.ok.frf⟩,
    I.os, I.bare, I.base, I.loc, I.cell, I.free, I.freeC, fun p hp => I.pin p (by rw [List.append_nil] at hp; exact hp), I.hok, I.len⟩
theorem Inv.ofTry {σ : St} {H : Hp} {s : Shared} (ok : X.Ok) (I : Inv (tryX X pins₀ E) [] σ H s) : Inv X pins₀ σ H s :=
  ⟨ok, I.os, I.bare, I.base, I.loc, I.cell, I.free, I.freeC, fun p hp => I.pin p (by rw [List.append_nil]; exact hp), I.hok, I.len⟩
theorem Inv.ofSut {a : Addr} {σ : St} {H : Hp} {s : Shared} (ok : X.Ok) (I : Inv (sutX X pins₀ a) [] σ H s) : Inv X pins₀ σ H s :=
  ⟨ok, I.os, I.bare, I.base, I.loc, I.cell, I.free, I.freeC, fun p hp => I.pin p (by rw [List.append_nil]; exact hp), I.hok, I.len⟩
theorem SP.ofTry {D : Ends} {f : Flow} {s' : Shared} (ok : X.Ok) (h : SP (tryX X pins₀ E) [] D f s') : SP X pins₀ D f s' := by
  cases f with
  | next => obtain ⟨σ', H', I, q⟩ := h; exact ⟨σ', H', I.ofTry ok, q⟩
  | brk => obtain ⟨σ', H', I, q⟩ := h; exact ⟨σ', H', I.ofTry ok, q⟩
  | cont => obtain ⟨σ', H', I, q⟩ := h; exact ⟨σ', H', I.ofTry ok, q⟩
  | ret u => obtain ⟨v, σ', H', I, r, q⟩ := h; exact ⟨v, σ', H', I.ofTry ok, r, q⟩
theorem Inv.track {Y : Cx} {pins : List (Addr × Obj)} {σ : St} {H : Hp} {s : Shared} {a : Addr} {o : HO} (I : Inv Y pins σ H s) (hn : H a = none) (h0 : Y.s₀.heap.get? a = none) (hL : a ≠ Y.env.locals) (hc : ∀ x c, Y.env.cells.lookup x = some c → c ≠ a)
    (hp : ∀ p ∈ Y.pn ++ pins, p.1 ≠ a) (ho : ObjOk Y.prog Y.w (upd H a o) s.heap a o) : Inv Y pins σ (upd H a o) s := by
  have keep : ∀ b u, H b = some u → upd H a o b = some u := fun b u e => by rw [upd_ne (ne_of_none e hn)]; exact e
  refine ⟨I.ok, I.os, I.bare, ⟨I.base.keep, I.base.slot, fun b ob e n hx => ?_, I.base.there, fun b xs e => keep b _ (I.base.tups b xs e), fun b ob xs e => keep b _ (I.base.frzs b ob xs e), fun b ps e => ?_⟩, I.loc, I.cell, ?_, fun x c e => ?_, fun p q => ?_, fun b u e => ?_, I.len⟩
  · have : b ≠ a := fun z => by rw [z, h0] at e; cases e
    rw [upd_ne this]; exact I.base.free b ob e n hx
  · obtain ⟨m, e'⟩ := I.base.tbls b ps e
    exact ⟨m, keep b _ e'⟩
  · rw [upd_ne (Ne.symm hL)]; exact I.free
  · rw [upd_ne (hc x c e)]; exact I.freeC x c e
  · obtain ⟨p1, p2, p3⟩ := I.pin p q
    exact ⟨p1, by rw [upd_ne (hp p q)]; exact p2, p3⟩
  · by_cases hb : b = a
    · subst hb; rw [upd_same] at e; cases e; exact ho
    · rw [upd_ne hb] at e
      exact (I.hok b u e).stay (fun _ _ _ q => q) (fun c q => keep c _ q) fun c xs q => keep c _ q
end
theorem fly_un {outer : List Env} {H H' : Hp} {h0 h1 h' B base : Heap} (un : Un (frs outer) [] H H' h0 h1) (old : ∀ b o, h0.get? b = some o → H b = none → b ∉ frs outer → B.get? b = some o)
    (thr : ∀ b o, h0.get? b = some o → b ∉ frs outer → ∃ o', B.get? b = some o') (st : B.StaysIn h') (sm : h1.UpToSlots h') (funs : h0.FunFrames base outer) (frf : ∀ b ∈ frs outer, H b = none) : Un (frs outer) [] H H' h0 h' := by
  have slots : ∀ b o, h0.get? b = some o → b ∈ frs outer → ∃ sl, h'.get? b = some { o with slots := sl } := fun b o e hb => by
    obtain ⟨sl2, e2⟩ := un.slot b o e (frf b hb) hb (by simp)
    have hnf : ∀ vs, o.data ≠ .fields vs := by
      obtain ⟨_, o', ho', hd'⟩ := funs.mem hb
      rw [e] at ho'; cases ho'
      exact hd'
    obtain ⟨sl3, e3⟩ := sm b _ e2 (by intro vs z; exact hnf vs z)
    exact ⟨sl3, e3⟩
  refine ⟨fun b o e n hb _ => st b o (old b o e n hb), fun b o e n hb _ => slots b o e hb, un.free, fun b o e _ => ?_, un.tups, un.frzs, un.tbls⟩
  by_cases hb : b ∈ frs outer
  · obtain ⟨sl, e2⟩ := slots b o e hb
    exact ⟨_, e2⟩
  · obtain ⟨o2, e2⟩ := thr b o e hb
    exact ⟨o2, st b o2 e2⟩
theorem nameGone {M : Model} {A : Around} {E : Value → Shared → Prop} {Y : Cx} {pins : List (Addr × Obj)} {σ : St} {H : Hp} {s : Shared} {i : Nat} {n : Str} {pos : Pos} {Q : Unit → Shared → Prop} (I : Inv Y pins σ H s) (hN : Y.N.Nodup) (hi : Y.N[i]? = some n) (hl : Y.env.kindOf n = some .local)
    (h : ∀ s', Inv Y pins (σ.set i none) H s' → Q () s') : wpAny M A (do bindName Y.env n .none; unbindBehindTheSuite Y.env n pos) Q E s := by
  obtain ⟨m, hn, hl'⟩ := id I.loc
  have hcls : (Y.env.scope.kind == .class || (Y.env.scope.kind == .module && Y.env.locals != Y.env.globals)) = false := by rw [I.ok.kind]; rfl
  refine wpAny_nameGoes_keeps hl hn hcls fun h' v hn' hs => h _ ?_
  have hiσ : i < σ.length := by rw [I.len]; exact (List.getElem?_eq_some_iff.mp hi).1
  obtain ⟨oL, _, _, hoL, _⟩ := id hn
  have tracked : HOk Y.prog Y.w H h' := fun b ob e => by
    refine (I.hok b ob e).stay (fun c w' hc q => (hs.2 c ?_).trans q) (fun _ q => q) fun _ _ q => q
    rintro rfl
    rcases hc with z | hc
    · rw [← z, I.free] at e; cases e
    · rw [I.free] at hc; cases hc
  have low : ∀ b o, Y.s₀.heap.get? b = some o → b ≠ Y.env.locals := fun b o e => Nat.ne_of_lt (Nat.lt_of_lt_of_le (Heap.lt_size e) I.ok.above)
  refine ⟨I.ok, I.os, I.bare, ⟨fun b o e n hb hx => ?_, fun b o e n hb hx => ?_, I.base.free, fun b o e hx => ?_, I.base.tups, I.base.frzs, I.base.tbls⟩, ⟨_, hn', fun j y v' e1 e2 e3 => ?_⟩, fun y c e => ?_, I.free, I.freeC, fun p hp => ?_, tracked, by simpa using I.len⟩
  · exact (hs.2 b (low b o e)).trans (I.base.keep b o e n hb hx)
  · obtain ⟨sl, e1⟩ := I.base.slot b o e n hb hx
    exact ⟨sl, (hs.2 b (low b o e)).trans e1⟩
  · obtain ⟨o', e1⟩ := I.base.there b o e hx
    exact ⟨o', (hs.2 b (low b o e)).trans e1⟩
  · by_cases hj : j = i
    · subst hj
      rw [List.getElem?_set_self hiσ] at e2
      cases e2
    · rw [List.getElem?_set_ne (Ne.symm hj)] at e2
      obtain ⟨u', r', q⟩ := hl' j y v' e1 e2 e3
      refine ⟨u', r', ?_⟩
      rcases q with ⟨k, e⟩ | ⟨k, c, e, z⟩
      · refine .inl ⟨k, ?_⟩
        have : y ≠ n := fun e => hj (nodup_ix hN e1 (e ▸ hi))
        simp [this, e]
      · exact .inr ⟨k, c, e, z.sameBut hs (I.cne y c e)⟩
  · obtain ⟨w', z⟩ := I.cell y c e
    exact ⟨w', z.sameBut hs (I.cne y c e)⟩
  · obtain ⟨e, n, ne, nf, d⟩ := I.pin p hp
    exact ⟨(hs.2 p.1 ne).trans e, n, ne, nf, d⟩
noncomputable def onlyAt (n i : Nat) (v : V) : St := (List.replicate n none).set i (some v)
noncomputable def tTry (X : Cx) (C : Addr) (i : Nat) (E : XK) (tb ts : TS) : TS := fun D σ H => tb D σ H ∧ ∀ a cls H', E cls none H' → H' a = none → PySem.W.exmOne X.K cls (.ref C) = some true ∧
  ts { nx := fun σ' H'' => D.nx (σ'.set i none) H'', rt := D.rt, bk := fun σ' H'' => D.bk (σ'.set i none) H'', ct := fun σ' H'' => D.ct (σ'.set i none) H'' } (onlyAt X.N.length i (.ref a)) (upd H' a (ExcO a cls))
section
variable {X : Cx} {E : XK} {c n : Str} {C : Addr} {i : Nat} {body suite : List Stmt} {b₀ : Stmt} {tb ts : TS} {np hpos pos : Pos}
theorem ps_try (hst : X.stack = X.env :: X.outer) (hfr : X.env.frame = some X.env.locals) (hex : X.ex = []) (hb : ∀ pins₀, PSs (tryX X pins₀ E) body tb) (hs : ∀ pins₀ a, PSs (sutX X pins₀ a) (b₀ :: suite) ts)
    (hg : Gl X c) (hm : X.mg c = some (.ref C)) (hnd : X.N.Nodup) (hi : X.N[i]? = some n) (hl : X.env.kindOf n = some .local) (hfn : X.fn n = true)
    (hdb : (c == ("__debug__" : Str)) = false := by decide) :
    PS X (.Try body [.ExceptHandler (some (.Name c np)) (some n) (b₀ :: suite) hpos] [] [] pos) (tTry X C i E tb ts) := by
  intro pins s σ H D I h
  obtain ⟨h1, h2⟩ := h
  have ok := I.ok
  refine wpAny_Try_except (wpAny_mono (hb pins [] s σ H D I.toTry h1) (fun f s1 q => ?_) fun e s1 q => ?_)
  · have q' := SP.ofTry ok q
    cases f with
    | next => obtain ⟨σ', H', I', q''⟩ := q'; exact wpAny_execs_nil ⟨σ', H', I', q''⟩
    | brk => exact q'
    | cont => exact q'
    | ret u => exact q'
  · obtain ⟨pins1, σ1, H1, s0, I1, a, cls, a0, H', B, rfl, hos, hbare, un, hok, hna, hnew, fl, old, trk, thr, hE⟩ := q
    obtain ⟨hx, hts⟩ := h2 a cls H' hE hna
    rw [hst] at fl
    have hfr' : X.A.frames = some (X.env :: X.outer) := by rw [← hst]; exact ok.frames
    refine wpAny_looks_onW hfr' hfr fl fun h4 held4 sm4 => ?_
    refine wpAny_landsW held4 fun h5 fl5 sm5 => ?_
    have st5 : B.StaysIn h5 := fl5.1
    have nob : ∀ b o, X.base.get? b = some o → b ∉ frs X.stack := fun b o e hb => by
      rcases List.mem_cons.mp (I.stkSub b hb) with z | z
      · have := ok.above
        have h3 := Heap.lt_size e
        rw [z] at h3
        exact absurd (Nat.lt_of_lt_of_le h3 (Nat.le_trans ok.bsz this)) (Nat.lt_irrefl _)
      · exact ok.nofr e z
    have bkB : ∀ b o, X.base.get? b = some o → B.get? b = some o := fun b o e => old b o (I1.bs b o e).1 (I1.bs b o e).2 (nob b o e)
    have bk5 : ∀ b o, X.base.get? b = some o → h5.get? b = some o := fun b o e => st5 b o (bkB b o e)
    have kin5 : X.K.In h5 := ok.mod.kin.keeps bk5
    refine wpAny_handleBy_cons (codeAny_handlers_test ?_) (by intro q; cases q)
    refine Calls.Name_function_global ok.kind hg (Calls.loadGlobal_global (by rw [ok.glob]; exact ok.mod.glob.keeps bk5) hm ?_) hdb
    obtain ⟨oe5, he5, hc5⟩ := fl5.there
    have LT : PySem.W.Looks (model X.prog X.w) h5 (typeOf (.ref a)) cls := hc5 ▸ (PySem.W.Looks.ld he5).andThen .now
    refine PySem.W.Looks.here (s := { s1 with heap := h5 }) (PySem.W.exm_one kin5 LT hx) ?_
    dsimp only
    rw [if_pos rfl]
    refine codeAny_handlers_suite_as (lands_againW (s := { s1 with heap := h5 }) fl5 fun h6 fl6 sm6 => ?_)
    have st6 : B.StaysIn h6 := fl6.1
    have un6 : Un (frs X.stack) [] H1 H' s0.heap h6 := fly_un un old thr st6 ((sm4.trans sm5).trans sm6) I1.stack I1.stkFree
    have I6a : Inv { X with pn := X.pn ++ pins } pins1 σ1 H' { s1 with heap := h6 } := I1.call' (ch := []) hos un6 (HOk.stays hok trk st6) hbare (fun b z => absurd z (by simp))
    have okS : (sutX X pins a).Ok := ⟨ok.mod, ok.kind, ok.glob, ok.blt, ok.above, ok.inj, ok.has, ok.cab, fun z => absurd (show false = true from z) (by decide), ok.frames, ok.stk, ok.exf, ok.bs, ok.bsz, ok.noex, ok.exfs, ok.funs, ok.frf⟩
    have I6 : Inv (sutX X pins a) [] (List.replicate X.N.length none) H' { s1 with heap := h6 } := by
      obtain ⟨m, hn, _⟩ := I6a.loc
      refine ⟨okS, I6a.os, I6a.bare, I6a.base, ⟨m, hn, fun j y v e1 e2 e3 => ?_⟩, I6a.cell, I6a.free, I6a.freeC, fun p hp => I6a.pin p (List.mem_append_left _ (by rw [List.append_nil] at hp; exact hp)), I6a.hok, by simp [sutX]⟩
      rw [List.getElem?_replicate] at e2
      split at e2 <;> cases e2
    have hs0 : X.s₀.heap.get? a = none := by
      cases q : X.s₀.heap.get? a with
      | none => rfl
      | some o =>
        obtain ⟨o', e'⟩ := I1.base.there a o q (fun z => by rw [show ({ X with pn := X.pn ++ pins } : Cx).ex = [] from hex] at z; simp at z)
        rw [hnew] at e'; cases e'
    have hLa : a ≠ X.env.locals := fun z => by
      obtain ⟨m, ⟨oL, _, _, hoL, _⟩, _⟩ := I1.loc
      have hoL' : s0.heap.get? X.env.locals = some oL := hoL
      rw [← z, hnew] at hoL'; cases hoL'
    have I7 : Inv (sutX X pins a) [] (List.replicate X.N.length none) (upd H' a (ExcO a cls)) { s1 with heap := h6 } := by
      refine I6.track hna hs0 hLa (fun x c e z => ?_) (fun p hp z => ?_) ?_
      · obtain ⟨v, o, ho, _⟩ := I1.cell x c e
        rw [z, hnew] at ho; cases ho
      · have q := (I1.pin p (List.mem_append_left _ (by rw [List.append_nil] at hp; exact hp))).1
        rw [z, hnew] at q; cases q
      · obtain ⟨oe, vs, he, hc, hd, _⟩ := fl6.first
        exact ⟨⟨oe, vs, he, hc, hd⟩, ⟨oe, he⟩, fun g1 g2 ⟨o1, v1, q1, q2, q3⟩ k => ⟨o1, v1, k o1 q1, q2, q3⟩⟩
    refine store_ok (X := sutX X pins a) (i := i) I7 hnd hi (.inl hl) (show RelV (V.ref a) (Value.ref a) from rfl) (fun s8 I8 => ?_) (.inl hfn)
    refine wpAny_mono (hs pins a [] s8 _ _ _ I8 hts) (fun f s9 q9 => ?_) fun _ _ z => z.elim
    cases f with
    | next => obtain ⟨σ', H9, I9, q⟩ := q9; exact nameGone (Y := X) (I9.ofSut ok) hnd hi hl fun s10 I10 => ⟨_, _, I10, q⟩
    | brk => obtain ⟨σ', H9, I9, q⟩ := q9; exact nameGone (Y := X) (I9.ofSut ok) hnd hi hl fun s10 I10 => ⟨_, _, I10, q⟩
    | cont => obtain ⟨σ', H9, I9, q⟩ := q9; exact nameGone (Y := X) (I9.ofSut ok) hnd hi hl fun s10 I10 => ⟨_, _, I10, q⟩
    | ret u => obtain ⟨v, σ', H9, I9, r, q⟩ := q9; exact nameGone (Y := X) (I9.ofSut ok) hnd hi hl fun s10 I10 => ⟨v, _, _, I10, r, q⟩
end
end L2
namespace L2
open PySem PySem.Spec PyProof.Rows PySem.Builtin PySem.Builtin.ObjectAttr PySem.Builtin.Getset_descriptor
section
variable {prog : Program} {w : World} {A : Around} {E : Value → Shared → Prop} {h : Heap} {g : Array GenState} {d : Drawn} {t : Nat} {os : OsState} {K : PySem.W.Frag} {a C : Addr} {o : Obj}
structure ExcK (K : PySem.W.Frag) (C : Addr) : Prop where
  ga : PySem.W.findIn K (.ref C) "__getattribute__" = some (some (.builtin "BaseException.__getattribute__"))
  cl : PySem.W.findIn K (.ref C) "__class__" = some (some (.builtin "object.__class__"))
  no : PySem.W.findIn K (.ref C) "__getattr__" = some none
  ob : PySem.W.mroIn K C (.type "object") = some true
  be : PySem.W.mroIn K C (.type "BaseException") = some true
  it : (PySem.W.clsIn K C).isSome = true
theorem exc_class_get {R : Result → Shared → Prop} {tp : Value} (Z : ExcK K C) (X : K.In h) (L0 : PySem.W.Looks (model prog w) h (typeOf (.ref a)) (.ref C)) (hq : R (.ok (.ret (.ref C))) ⟨h, g, d, t, os⟩) :
    codeAny (model prog w) A (.call (.builtin "getset_descriptor.__get__") ⟨[.builtin "object.__class__", .ref a, tp], []⟩) R ⟨h, g, d, t, os⟩ := by
  have L1 := PySem.W.looks_mroIn (M := model prog w) X Z.ob
  refine codeAny_call_builtin PySem.W.KF.slot_gs.plain PySem.W.KF.entry_gs (PySem.W.KF.slot_gs.check _ _ _ _ _ _ _ _ PySem.W.KF.type_class (PySem.W.KF.args_gs _ _ _) ?_)
  unfold Builtin.«getset_descriptor.__get__» descrGet
  rw [PySem.W.dga_obj]
  refine wpAny_bind (wpAny_pure ?_)
  unfold descrGetter descrCheckInstance descrNameAndClass isInstance
  simp only [PySem.W.KF.owner_class]
  repeat lk
  refine ⟨Code.quiet_builtin _ (by decide +kernel), codeAny_builtin PySem.W.KF.entry_class ?_⟩
  unfold Builtin.«object.__class__» shownTypeOf
  repeat lk
  exact hq
theorem exc_entry {tk : Tok} {Q : Fin → Shared → Prop} (Z : ExcK K C) (X : K.In h) (L0 : PySem.W.Looks (model prog w) h (typeOf (.ref a)) (.ref C)) (hq : Q (.done (.ret (.ref C))) ⟨h, g, d, t, os⟩) :
    wpAny (model prog w) A (Builtin.«object.__getattribute__» ⟨[.ref a, .str "__class__" tk], []⟩) Q E ⟨h, g, d, t, os⟩ := by
  have L1 := PySem.W.looks_findIn (M := model prog w) X Z.cl
  have hT5 : (⟨h, g, d, t, os⟩ : Shared).TypeIs (.builtin "object.__class__") "getset_descriptor" := PySem.F.typeOf_object_class
  have f5 := PySem.F.typeOf_object_class
  have f6 := PySem.F.slot_gs_get.lookup
  have f7 := PySem.F.slot_gs_set.lookup
  repeat (any_goals (first | assumption | with_reducible refine L0.at ?_ | with_reducible refine L1.at ?_ | wp_step))
  refine exc_class_get Z X L0 ?_
  repeat (any_goals (first | assumption | wp_step))
theorem exc_check {M : Model} {nameV : Value} {Q : Unit → Shared → Prop} (Z : ExcK K C) (X : K.In h) (L0 : PySem.W.Looks M h (typeOf (.ref a)) (.ref C)) (hq : Q () ⟨h, g, d, t, os⟩) :
    wpAny M A (checkBuiltinCall "BaseException.__getattribute__" ⟨[.ref a, nameV], []⟩) Q E ⟨h, g, d, t, os⟩ := by
  have hk : builtinKind "BaseException.__getattribute__" = some .slot := by decide +kernel
  have hsplit : splitId "BaseException.__getattribute__" = some ("BaseException", "__getattribute__") := by decide +kernel
  have L1 := PySem.W.looks_mroIn (M := M) X Z.be
  have ha := PySem.F.args_bexc_ga (.ref a) nameV
  simp only [checkBuiltinCall, hk, hsplit]
  refine wpAny_bind ?_
  unfold isInstance
  repeat (first | with_reducible refine L0.at ?_ | with_reducible refine L1.at ?_ | wp_step)
  exact hq
theorem exc_by {tk : Tok} {Q : Value → Shared → Prop} (Z : ExcK K C) (X : K.In h) (L0 : PySem.W.Looks (model prog w) h (typeOf (.ref a)) (.ref C)) (hq : Q (.ref C) ⟨h, g, d, t, os⟩) : wpAny (model prog w) A (getAttrBy (.ref a) (.str "__class__" tk) false) Q E ⟨h, g, d, t, os⟩ := by
  have f3 := PySem.F.attr_ValueError.ga.bind (.ref a)
  have L1 := PySem.W.looks_findIn (M := model prog w) X Z.ga
  have L2 := PySem.W.looks_findIn (M := model prog w) X Z.no
  have hx2 : (Value.builtin "BaseException.__getattribute__" == Value.builtin "object.__getattribute__") = false := by decide +kernel
  have hx1 : (onTheHeap (Value.ref C) && Value.builtin "BaseException.__getattribute__" == Value.builtin "object.__getattribute__") = false := by rw [hx2]; rfl
  repeat (any_goals (first | assumption | with_reducible refine L0.at ?_ | with_reducible refine L1.at ?_ | with_reducible refine L2.at ?_ | wp_step))
  refine codeAny_call_builtin PySem.F.attr_ValueError.ga.plain PySem.F.entry_bexc_ga (exc_check Z X L0 (exc_entry Z X L0 ?_))
  repeat (any_goals (first | assumption | wp_step))
theorem exc_attr {Q : Option Value → Shared → Prop} (Z : ExcK K C) (X : K.In h) (L0 : PySem.W.Looks (model prog w) h (typeOf (.ref a)) (.ref C)) (hq : Q (some (.ref C)) ⟨h, g, d, t + 1, os⟩) : wpAny (model prog w) A (getAttr? (.ref a) "__class__") Q E ⟨h, g, d, t, os⟩ := by
  unfold getAttr? getAttrBy?
  repeat (any_goals (first | assumption | with_reducible apply exc_by Z X L0 | wp_step))
end
noncomputable def ExcAt (a : Addr) (cls : Value) (h : Heap) : Prop := ∃ oe vs, h.get? a = some oe ∧ oe.cls = cls ∧ oe.data = .fields vs
theorem kitx_exc {K : PySem.W.Frag} {a C : Addr} (Z : ExcK K C) : PySem.W.KitX K (.ref a) (.ref C) (ExcAt a (.ref C)) where
  ty := fun M h _ p => by
    obtain ⟨oe, vs, h1, h2, _⟩ := p
    exact h2 ▸ (PySem.W.Looks.ld h1).andThen .now
  it := fun _ _ X _ => by
    have z := Z.it
    unfold PySem.W.clsIn at z
    split at z
    · rename_i c' d' cd' sl' ho
      intro A' Q' E' s' k q
      unfold isType loadHead
      exact wpAny_bind (wpAny_loadPart (k _ _ (X _ _ ho)) (wpAny_pure q))
    · cases z
  ne := fun h tp dd its n sl X htp => by
    refine Bool.eq_false_iff.mpr fun q => ?_
    have e : C = tp := Value.ref.inj (beq_iff_eq.mp q)
    subst e
    have z := Z.it
    unfold PySem.W.clsIn at z
    split at z
    · rename_i c' d' cd' sl' ho
      have z' := (X _ _ ho).symm.trans htp
      cases z'
    · cases z
  ca := fun {prog w A E Q s} X p k => by
    obtain ⟨oe, vs, h1, h2, _⟩ := p
    obtain ⟨h, g, d, t, os⟩ := s
    exact exc_attr Z X (h2 ▸ (PySem.W.Looks.ld h1).andThen .now) k
theorem refs_vals : ∀ {cs : List Addr} {its : List Value}, Vals (cs.map V.ref) its → its = cs.map Value.ref
  | [], _, h => by cases h; rfl
  | c :: r, _, h => by
    cases h with
    | cons q1 q2 => cases q1; rw [refs_vals q2]; rfl
section
variable {X : Cx}
theorem call_isi_exc : CallR X (.builtin "isinstance") (fun xs H Q => ∃ (a C : Addr) (c : V) (u : Value) (b : Bool), xs = [.ref a, c] ∧ (∀ v, RelV c v → v = u) ∧ H a = some (ExcO a (.ref C)) ∧ ExcK X.K C ∧ PySem.W.kitOne X.K (.ref C) u = some b ∧ Q (.bl b) H) := by
  intro pins s σ H xs us Q I r h
  obtain ⟨a, C, c, u, b, rfl, hc, hH, Z, hk, q⟩ := h
  cases r with
  | cons r1 r =>
    cases r with
    | cons r2 r =>
      cases r
      cases r1
      have hu := hc _ r2
      subst hu
      exact PySem.W.kia_one (kitx_exc Z) I.kIn (I.hok a _ hH).1 hk (by intro z; cases z) fun tk => ⟨.bl b, H, I.tok tk, rfl, q⟩
theorem call_isi_excT : CallR X (.builtin "isinstance") (fun xs H Q => ∃ (a C p : Addr) (cs : List Addr) (b : Bool), xs = [.ref a, .ref p] ∧ H p = some (.tup (cs.map V.ref)) ∧ H a = some (ExcO a (.ref C)) ∧ ExcK X.K C ∧ PySem.W.kitAny X.K (.ref C) (cs.map Value.ref) = some b ∧ Q (.bl b) H) := by
  intro pins s σ H xs us Q I r h
  obtain ⟨a, C, p, cs, b, rfl, hp, hH, Z, hk, q⟩ := h
  cases r with
  | cons r1 r =>
    cases r with
    | cons r2 r =>
      cases r
      cases r1
      cases r2
      obtain ⟨_, its, rv, o, ho, hc, n, hd⟩ := I.hok p _ hp
      have e : its = cs.map Value.ref := refs_vals rv
      obtain ⟨oc, od, odt, osl⟩ := o
      dsimp only at hc hd
      subst hc hd
      rw [e] at ho
      exact PySem.W.kia_tup (kitx_exc Z) I.kIn (I.hok a _ hH).1 ho hk (by intro z; cases z) fun tk => ⟨.bl b, H, I.tok tk, rfl, q⟩
end
end L2
namespace L2
open PySem PySem.Spec PyProof.Rows
mutual
inductive Dp (K : PySem.W.Frag) (H : Hp) : V → PyData → Prop
  | non : Dp K H .non .none
  | bl (b : Bool) : Dp K H (.bl b) (.bool b)
  | int (i : Int) : Dp K H (.int i) (.int i)
  | str (x : Str) : Dp K H (.str x) (.str x)
  | lst {a : Addr} {xs : List V} {ds : List PyData} : SqL K H a xs → DpAll K H xs ds → Dp K H (.ref a) (.list ds)
  | tup {a : Addr} {xs : List V} {ds : List PyData} : SqT K H a xs → DpAll K H xs ds → Dp K H (.ref a) (.tuple ds)
inductive DpAll (K : PySem.W.Frag) (H : Hp) : List V → List PyData → Prop
  | nil : DpAll K H [] []
  | cons {v : V} {vs : List V} {d : PyData} {ds : List PyData} : Dp K H v d → DpAll K H vs ds → DpAll K H (v :: vs) (d :: ds)
end
section
variable {X : Cx} {pins : List (Addr × Obj)} {σ : St} {H : Hp} {s : Shared}
mutual
theorem Dp.reads (I : Inv X pins σ H s) : ∀ {v : V} {d : PyData}, Dp X.K H v d → ∀ {u : Value}, RelV v u → ∃ as, Reads s.heap u d as
  | _, _, .non, _, r => by cases r; exact ⟨_, .none⟩
  | _, _, .bl b, _, r => by cases r; exact ⟨_, .bool b⟩
  | _, _, .int i, _, r => by obtain ⟨t, rfl⟩ := r; exact ⟨_, .int i t⟩
  | _, _, .str x, _, r => by obtain ⟨t, rfl⟩ := r; exact ⟨_, .str x t⟩
  | _, _, .lst hs ha, _, r => by
    cases r
    obtain ⟨its, rv, ⟨o, n, e, hc, _, hd⟩, _⟩ := I.list hs
    obtain ⟨as, ra⟩ := DpAll.reads I ha rv
    exact ⟨_, .list e hc hd (by simpa using ra)⟩
  | _, _, .tup hs ha, _, r => by
    cases r
    obtain ⟨its, rv, ⟨o, e, hc, n, hd⟩, _⟩ := I.tuple hs
    obtain ⟨as, ra⟩ := DpAll.reads I ha rv
    exact ⟨_, .tuple e hc hd (by simpa using ra)⟩
theorem DpAll.reads (I : Inv X pins σ H s) : ∀ {vs : List V} {ds : List PyData}, DpAll X.K H vs ds → ∀ {us : List Value}, Vals vs us → ∃ as, ReadsAll s.heap us ds as
  | _, _, .nil, _, r => by cases r; exact ⟨_, .nil⟩
  | _, _, .cons h1 h2, _, r => by
    cases r with
    | cons r1 r2 =>
      obtain ⟨as, q1⟩ := Dp.reads I h1 r1
      obtain ⟨bs, q2⟩ := DpAll.reads I h2 r2
      exact ⟨_, .cons q1 q2⟩
end
end
noncomputable def EqOk (d : PyData) : Prop := d.canLay0 = true ∧ d.depth ≤ 16
section
variable {X : Cx}
inductive rEqDS (K : PySem.W.Frag) (x y : V) (H : Hp) (Q : VK) : Prop
  | mk (dx dy : PyData) (h0 : Dp K H x dx) (h1 : Dp K H y dy) (h2 : EqOk dx) (h3 : EqOk dy) (h4 : Q (.bl (PyData.eqv dx dy)) H) : rEqDS K x y H Q
noncomputable def rEqD (K : PySem.W.Frag) : R2 := fun x y H Q => rEqDS K x y H Q
inductive rNeDS (K : PySem.W.Frag) (x y : V) (H : Hp) (Q : VK) : Prop
  | mk (dx dy : PyData) (h0 : Dp K H x dx) (h1 : Dp K H y dy) (h2 : EqOk dx) (h3 : EqOk dy) (h4 : Q (.bl (!PyData.eqv dx dy)) H) : rNeDS K x y H Q
noncomputable def rNeD (K : PySem.W.Frag) : R2 := fun x y H Q => rNeDS K x y H Q
theorem op_eqD (hu : X.A.units + 32 < cLine) : OpR X (compareOp .Eq) (rEqD X.K) := by
  intro pins s σ H x y v u Q I rx ry h
  obtain ⟨dx, dy, h1, h2, o1, o2, q⟩ := h
  obtain ⟨as, ra⟩ := Dp.reads I h1 rx
  obtain ⟨bs, rb⟩ := Dp.reads I h2 ry
  exact SeqAt.compareEq_reads ra rb o1.1 o2.1 (by have := o1.2; have := Nat.min_le_left dx.depth dy.depth; lia) ⟨.bl _, H, I, rfl, q⟩
theorem op_neD (hu : X.A.units + 32 < cLine) : OpR X (compareOp .NotEq) (rNeD X.K) := by
  intro pins s σ H x y v u Q I rx ry h
  obtain ⟨dx, dy, h1, h2, o1, o2, q⟩ := h
  obtain ⟨as, ra⟩ := Dp.reads I h1 rx
  obtain ⟨bs, rb⟩ := Dp.reads I h2 ry
  exact SeqAt.compareNe_reads ra rb o1.1 o2.1 (by have := o1.2; have := Nat.min_le_left dx.depth dy.depth; lia) ⟨.bl _, H, I, rfl, q⟩
end
noncomputable def dStrs (r : List Str) : List PyData := r.map .str
noncomputable def dRow (r : List Str) : PyData := .tuple (dStrs r)
noncomputable def RowAt (K : PySem.W.Frag) (H : Hp) (a : Addr) (r : List Str) : Prop := SqT K H a (r.map V.str)
inductive RowsAtS (K : PySem.W.Frag) (H : Hp) (a : Addr) (rs : List (List Str)) : Prop
  | mk (as : List Addr) (h0 : H a = some (.lst (as.map V.ref))) (h1 : Paired (fun b r => RowAt K H b r) as rs) : RowsAtS K H a rs
noncomputable def RowsAt (K : PySem.W.Frag) (H : Hp) (a : Addr) (rs : List (List Str)) : Prop := RowsAtS K H a rs
inductive TellAtS (K : PySem.W.Frag) (H : Hp) (a : Addr) (rss : List (List (List Str))) : Prop
  | mk (as : List Addr) (h0 : SqT K H a (as.map V.ref)) (h1 : Paired (fun b rs => RowsAt K H b rs) as rss) : TellAtS K H a rss
noncomputable def TellAt (K : PySem.W.Frag) (H : Hp) (a : Addr) (rss : List (List (List Str))) : Prop := TellAtS K H a rss
theorem Same.seqT {K : PySem.W.Frag} {H H' : Hp} {a : Addr} {xs : List V} (e : Same H H') (h : SqT K H a xs) : SqT K H' a xs := by
  rcases h with (h | ⟨o, h⟩) | h
  · exact .inl (.inl (e _ _ h))
  · exact .inl (.inr ⟨o, e _ _ h⟩)
  · exact .inr h
theorem RowAt.same {K : PySem.W.Frag} {H H' : Hp} {a : Addr} {r : List Str} (h : RowAt K H a r) (e : Same H H') : RowAt K H' a r := e.seqT h
theorem RowsAt.same {K : PySem.W.Frag} {H H' : Hp} {a : Addr} {rs : List (List Str)} (h : RowsAt K H a rs) (e : Same H H') : RowsAt K H' a rs := by
  obtain ⟨as, h1, h2⟩ := h
  exact ⟨as, e _ _ h1, Paired.mapP h2 fun b r z => z.same e⟩
theorem TellAt.same {K : PySem.W.Frag} {H H' : Hp} {a : Addr} {rss : List (List (List Str))} (h : TellAt K H a rss) (e : Same H H') : TellAt K H' a rss := by
  obtain ⟨as, h1, h2⟩ := h
  exact ⟨as, e.seqT h1, Paired.mapP h2 fun b r z => z.same e⟩
theorem dp_strs {K : PySem.W.Frag} {H : Hp} : ∀ r : List Str, DpAll K H (r.map V.str) (dStrs r)
  | [] => .nil
  | x :: r => .cons (.str x) (dp_strs r)
theorem RowAt.dp {K : PySem.W.Frag} {H : Hp} {a : Addr} {r : List Str} (h : RowAt K H a r) : Dp K H (.ref a) (dRow r) := .tup h (dp_strs r)
theorem dp_rows {K : PySem.W.Frag} {H : Hp} : ∀ {as : List Addr} {rs : List (List Str)}, Paired (fun b r => RowAt K H b r) as rs → DpAll K H (as.map V.ref) (rs.map dRow)
  | _, _, .nil => .nil
  | _, _, .cons h1 h2 => .cons h1.dp (dp_rows h2)
theorem RowsAt.dp {K : PySem.W.Frag} {H : Hp} {a : Addr} {rs : List (List Str)} (h : RowsAt K H a rs) : Dp K H (.ref a) (.list (rs.map dRow)) := by
  obtain ⟨as, h1, h2⟩ := h
  exact .lst (SqL.of h1) (dp_rows h2)
theorem dp_tells {K : PySem.W.Frag} {H : Hp} : ∀ {as : List Addr} {rss : List (List (List Str))}, Paired (fun b rs => RowsAt K H b rs) as rss → DpAll K H (as.map V.ref) (rss.map fun rs => PyData.list (rs.map dRow))
  | _, _, .nil => .nil
  | _, _, .cons h1 h2 => .cons h1.dp (dp_tells h2)
theorem TellAt.dp {K : PySem.W.Frag} {H : Hp} {a : Addr} {rss : List (List (List Str))} (h : TellAt K H a rss) : Dp K H (.ref a) (.tuple (rss.map fun rs => .list (rs.map dRow))) := by
  obtain ⟨as, h1, h2⟩ := h
  exact .tup h1 (dp_tells h2)
theorem same_new {H : Hp} {p : Addr} (h : H p = none) (o : HO) : Same H (upd H p o) := fun b u q => by rw [upd_ne (ne_of_none q h)]; exact q
end L2
namespace L2
open PySem PySem.Spec PyProof.Rows
noncomputable def KDict (K : PySem.W.Frag) (w : World) (a : Addr) (kvs : List (Str × V)) : Prop :=
  ∃ es n, K.lookup a = some ⟨.type "dict", none, .dict es n, #[]⟩ ∧ PySem.W.KeysLit w.params es.toList ∧ (a == sysModules) = false ∧ ∀ x, RelO (kvs.lookup x) (findBy Value.isStrOf es x)
noncomputable def tKGet (X : Cx) (to : TE) (t : TA) : TE := fun σ H Q => to σ H fun x H1 => ∃ a kvs, x = .ref a ∧ KDict X.K X.w a kvs ∧ t σ H1 fun ys H2 => ∃ z, ys = [.str z] ∧ Q ((kvs.lookup z).getD .non) H2
section
variable {X : Cx} {o e : Expr} {to : TE} {t : TA} {apos cpos : Pos}
theorem pe_kget (ho : PE X o to) (ha : PA X [e] t)
    (hbase : attributeBase o "get" X.env (eval o X.env) = eval o X.env := by rfl)
    (hfew : ((backTo cpos (starEach [e] X.env)).all (fun x => !x.1) && (backToKw cpos (keywordEach [] X.env)).all (fun x => x.1.isSome)
      && decide ([e].length + ([] : List Keyword).length + (if ([] : List Keyword).isEmpty then 0 else 1) < 30)) = true := by rfl)
    (hline : (apos.endLine == cpos.line) = true := by rfl) (hs : starEach [e] X.env = (false, eval e X.env) :: starEach [] X.env := by rfl) (hplain : (backTo cpos (starEach [] X.env)).any (·.1) = false := by rfl) :
    PE X (.Call (.Attribute o "get" apos) [e] [] cpos) (tKGet X to t) := by
  intro pins s σ H Q I h
  refine wpAny_Call_method_late hbase hfew hline rfl (thn (ho pins s σ H _ I h) fun v s1 zq => ?_)
  obtain ⟨x, H1, I1, r1, a, kvs, ex, hd, q1⟩ := zq
  subst ex
  cases r1
  obtain ⟨es, n, hl, hk, hno, hv⟩ := hd
  have mp : ∀ s' : Shared, X.K.In s'.heap → s'.heap.MapOf (strKind X.prog X.w) a (fun k => findBy Value.isStrOf es k) := fun s' kin => PySem.W.mapOf_K kin hl hk
  have mp1 := mp s1 I1.kIn
  refine ⟨"dict", "dict.get", PySem.F.plainAttrs_dict, PySem.F.slot_dict_get, PySem.F.type_dict_get, mp1.typeIs, mp1.noDict, ?_⟩
  have hA := ha cpos pins s1 σ H1 _ I1 q1
  rw [hs] at hA ⊢
  refine Calls.callWith_builtin (by show (false || (backTo cpos (starEach [] X.env)).any (·.1)) = false; rw [hplain] <;> rfl) (Calls.evalArgs_plain ?_)
  refine thn hA fun us s2 zq => ?_
  obtain ⟨vs, H2, I2, r2, z, ez, q2⟩ := zq
  subst ez
  obtain ⟨u, rfl, ru⟩ := r2.one
  obtain ⟨t', rfl⟩ := ru
  have mp2 := mp s2 I2.kIn
  refine call_meetsIn PySem.F.slot_dict_get mp2.typeIs PySem.F.entry_dict_get (PySem.F.args_dict_get_2 _ _) (meets_dict_get (strKind X.prog X.w) a (strKind_is _ _ z t') hno) ⟨_, mp2, ?_⟩
  have hz := hv z
  refine ⟨(kvs.lookup z).getD .non, H2, I2.tok _, ?_, q2⟩
  cases e1 : kvs.lookup z with
  | none =>
    rw [e1] at hz
    cases e2 : findBy Value.isStrOf es z with
    | none => rfl
    | some u => rw [e2] at hz; exact hz.elim
  | some v =>
    rw [e1] at hz
    cases e2 : findBy Value.isStrOf es z with
    | none => rw [e2] at hz; exact hz.elim
    | some u => rw [e2] at hz; exact hz
end
end L2
namespace L2
open PySem PySem.Spec PyProof.Rows PySem.Builtin PySem.Builtin.Str
noncomputable def cutS (z : Str) (lo hi : Option Int) : Str := ⟨((z.cps.toList.drop (HT.sIx z.length 0 lo)).take (HT.sIx z.length z.length hi - HT.sIx z.length 0 lo)).toArray⟩
theorem sIx_le (n d : Nat) (hd : d ≤ n) (v : Option Int) (hv : ∀ i, v = some i → -(n : Int) ≤ i ∨ 0 ≤ i ∨ True) : HT.sIx n d v ≤ n := by
  cases v with
  | none => exact hd
  | some i =>
    show (if i < 0 then (i + (n : Int)).toNat else min i.toNat n) ≤ n
    split <;> lia
theorem clip_sIx (n d : Nat) (hd : d ≤ n) (v : Option Int) : (match v with | none => (d : Int) | some i => max 0 (min (if i < 0 then i + (n : Int) else i) (n : Int))) = ((HT.sIx n d v : Nat) : Int) := by
  cases v with
  | none => rfl
  | some i =>
    show max 0 (min (if i < 0 then i + (n : Int) else i) (n : Int)) = ((if i < 0 then (i + (n : Int)).toNat else min i.toNat n : Nat) : Int)
    split <;> lia
theorem idx_sIx (lo hi : Option Int) (n : Nat) : strSliceIndices lo hi 1 n = (List.range (HT.sIx n n hi - HT.sIx n 0 lo)).map (fun k => HT.sIx n 0 lo + k) := by
  have e1 := clip_sIx n 0 (Nat.zero_le _) lo
  have e2 := clip_sIx n n (Nat.le_refl _) hi
  have key : strSliceIndices lo hi 1 n = sliceRange ((HT.sIx n 0 lo : Nat) : Int) ((HT.sIx n n hi : Nat) : Int) 1 := by
    rw [← e1, ← e2]
    cases lo <;> cases hi <;> rfl
  rw [key]
  generalize HT.sIx n 0 lo = a
  generalize HT.sIx n n hi = b
  unfold sliceRange
  simp only [show ((1 : Int) > 0) = True from by simp, if_true]
  by_cases h : (a : Int) < b
  · rw [if_pos h]
    have e3 : (((b : Int) - a + 1 - 1) / 1).toNat = b - a := by lia
    rw [e3]
    refine List.map_congr_left fun k _ => ?_
    lia
  · rw [if_neg h]
    have e4 : b - a = 0 := by lia
    rw [e4]
    rfl
theorem picks_cut (z : Str) (lo hi : Option Int) : ((strSliceIndices lo hi 1 z.length).filterMap (z.cps[·]?)) = (z.cps.toList.drop (HT.sIx z.length 0 lo)).take (HT.sIx z.length z.length hi - HT.sIx z.length 0 lo) := by
  rw [idx_sIx]
  have hz : z.length = z.cps.toList.length := by simp [Str.length]
  have hb : HT.sIx z.length z.length hi ≤ z.length := sIx_le _ _ (Nat.le_refl _) hi fun _ _ => .inr (.inr trivial)
  generalize HT.sIx z.length 0 lo = a at *
  generalize HT.sIx z.length z.length hi = b at *
  by_cases h : a ≤ b
  · have := StrLaws.picks z.cps.toList (b - a) a (by lia)
    simpa using this
  · have e : b - a = 0 := by lia
    rw [e]
    simp
section
variable {X : Cx}
noncomputable def rSlS : V → Option Int → Option Int → Hp → VK → Prop := fun x lo hi H Q => ∃ z, x = .str z ∧ z.length ≤ sizeLine ∧ Q (.str (cutS z lo hi)) H
theorem sl_str : SlR X rSlS := by
  intro pins s σ H x v vl vu lo hi sl Q I rx hs pl pu h
  obtain ⟨z, rfl, hz, q⟩ := h
  obtain ⟨t, rfl⟩ := rx
  refine ⟨"str", _, PySem.F.slot_str_getitem.lookup, typeIs_str s z t, ?_⟩
  obtain ⟨l, hl, el⟩ : ∃ l : Option (Int × Tok), partValue l = vl ∧ l.map (·.1) = lo := by
    cases pl with
    | none => exact ⟨none, rfl, rfl⟩
    | int i t => exact ⟨some (i, t), rfl, rfl⟩
  obtain ⟨u, hu, eu⟩ : ∃ u : Option (Int × Tok), partValue u = vu ∧ u.map (·.1) = hi := by
    cases pu with
    | none => exact ⟨none, rfl, rfl⟩
    | int i t => exact ⟨some (i, t), rfl, rfl⟩
  have hS : s.heap.IsSlice sl l u none := by
    obtain ⟨o, ho, hc, hd⟩ := hs
    exact ⟨o, ho, hc, by rw [hd, hl, hu]; rfl⟩
  refine getItem_meets (typeIs_str s z t) (by decide) PySem.F.slot_str_getitem PySem.F.entry_str_getitem (PySem.F.args_str_getitem_2 _ _) (meets_str_getitem_slice z t sl l u none (by decide)) ⟨hS, ?_⟩
  have epick : slicePicked z l u none = strSliceIndices lo hi 1 z.length := by
    unfold slicePicked
    rw [el, eu]
    rfl
  have ecut : ((slicePicked z l u none).filterMap (z.cps[·]?)) = (z.cps.toList.drop (HT.sIx z.length 0 lo)).take (HT.sIx z.length z.length hi - HT.sIx z.length 0 lo) := by rw [epick]; exact picks_cut z lo hi
  unfold sliceMade
  split
  · rename_i hw
    have hlen : (slicePicked z l u none).length = z.length := by simpa using hw
    have eq : cutS z lo hi = z := by
      have e1 : ((z.cps.toList.drop (HT.sIx z.length 0 lo)).take (HT.sIx z.length z.length hi - HT.sIx z.length 0 lo)) = z.cps.toList := by
        rw [epick, idx_sIx, List.length_map, List.length_range] at hlen
        have hb : HT.sIx z.length z.length hi ≤ z.length := sIx_le _ _ (Nat.le_refl _) hi fun _ _ => .inr (.inr trivial)
        rcases Nat.eq_zero_or_pos z.length with h0 | h0
        · have : z.cps.toList = [] := by
            have : z.cps.toList.length = 0 := by simpa [Str.length] using h0
            exact List.eq_nil_of_length_eq_zero this
          rw [this]; simp
        · have ea : HT.sIx z.length 0 lo = 0 := by lia
          have eb : HT.sIx z.length z.length hi = z.length := by lia
          rw [ea, eb, List.drop_zero, Nat.sub_zero]
          exact List.take_of_length_le (by simp [Str.length])
      unfold cutS
      rw [e1]
    rw [eq] at q
    exact ⟨.str z, H, I, ⟨t, rfl⟩, q⟩
  · show (Made.str _).post _ s
    rw [ecut]
    refine ⟨?_, .str (cutS z lo hi), H, I.tok _, ⟨_, rfl⟩, q⟩
    refine Nat.le_trans ?_ hz
    show ((z.cps.toList.drop (HT.sIx z.length 0 lo)).take (HT.sIx z.length z.length hi - HT.sIx z.length 0 lo)).toArray.size ≤ z.cps.size
    rw [List.size_toArray, List.length_take, List.length_drop, Array.length_toList]
    lia
theorem op_in_sign : OpR X (compareOp .In) (fun x y H Q => ∃ (c : Nat) (z : Str), x = .str ⟨#[c]⟩ ∧ y = .str z ∧ Q (.bl (decide (c ∈ z.cps.toList))) H) := by
  intro pins s σ H x y v u Q I rx ry h
  obtain ⟨c, z, rfl, rfl, q⟩ := h
  refine op_in_str pins s σ H _ _ v u Q I rx ry ⟨_, _, rfl, rfl, ?_⟩
  rw [StrLaws.found_one]
  exact q
end
end L2
namespace L2
open PySem PySem.Spec PyProof.Rows
noncomputable def Glob (mg : Str → Option Value) (x : Str) (v : V) : Prop := ∃ u, mg x = some u ∧ RelV v u
theorem pe_g {X : Cx} {x : Str} {v : V} {pos : Pos} (h : Glob X.mg x v) (hg : Gl X x := by rfl) (hd : (x == ("__debug__" : Str)) = false := by decide) : PE X (.Name x pos) (tC v) := by
  obtain ⟨u, hm, r⟩ := h
  exact pe_glob hg hm r hd
theorem relabel_none {sc : Scope} {env : Env} (hfree : ∀ y ∈ sc.names, y.2 ≠ .free) (hcell : ∀ y ∈ sc.names, y.2 ≠ .cell) (y : Str) (h : (relabel sc env).names.lookup y = some .cell ∨ (relabel sc env).names.lookup y = some .free) : False := by
  have key : ∀ k, (relabel sc env).names.lookup y = some k → ∃ z ∈ sc.names, z.2 = k ∨ z.2 = .free := fun k e => by
    have hm := PySem.mem_of_lookup e
    obtain ⟨z, hz, ez⟩ := List.mem_map.mp hm
    refine ⟨z, hz, ?_⟩
    obtain ⟨n, kk⟩ := z
    dsimp only at ez
    split at ez
    · rename_i hc
      simp only [Bool.and_eq_true, beq_iff_eq] at hc
      exact .inr hc.1.1
    · exact .inl (congrArg Prod.snd ez)
  rcases h with h | h
  · obtain ⟨z, hz, q | q⟩ := key _ h
    · exact hcell z hz q
    · exact hfree z hz q
  · obtain ⟨z, hz, q | q⟩ := key _ h
    · exact hfree z hz q
    · exact hfree z hz q
theorem pe_comp0 {X : Cx} {elt iter : Expr} {x : Str} {px pos : Pos} {ifs : List Expr} {sc : Scope} {wi : TI} {tc : TT} {te : TE} (hi : PI X (.Name x px) iter wi) (hif : ∀ s H C ex, PTs (blk X [x] s H sc [] C ex) ifs tc) (he : ∀ s H C ex, PE (blk X [x] s H sc [] C ex) elt te)
    (hc : X.calm = true := by rfl) (hkind : sc.kind = .function := by rfl) (hx : sc.names.lookup x = some .local := by decide +kernel) (hfree : ∀ y ∈ sc.names, y.2 ≠ .free := by decide +kernel) (hcell : ∀ y ∈ sc.names, y.2 ≠ .cell := by decide +kernel)
    (hnames : ∀ y ∈ sc.names, y.2 = .local → sc.names.lookup y.1 = some .local := by decide +kernel) (hs : ∀ x, foldedSetIterable iter X.env x = pure x := by intro _; rfl) :
    PE X (.ListComp elt [⟨.Name x px, iter, ifs, 0⟩] sc pos) (tComp [] wi tc te) :=
  pe_comp [x] hc hi hif he hkind rfl (by simp) hx (PySem.closureFor_none hfree) hcell hnames (fun y c e => by simp at e) (fun y h => (relabel_none hfree hcell y h).elim) (fun j hj => by simp at hj) hs
structure JSeq (J : It) (I0 : Hp → Prop) (xs : List V) : Prop where
  go : ∀ i H, I0 H → i < xs.length → J.go i H
  stop : ∀ i H, I0 H → xs.length ≤ i → J.stop i H
  yld : ∀ i H x H', i < xs.length → I0 H → J.yld i H x H' → H' = H ∧ xs[i]? = some x
  stay : ∀ H H', I0 H → Same H H' → I0 H'
theorem jseq_tup {K : PySem.W.Frag} {a : Addr} {xs : List V} : JSeq (Itt K a) (fun H => SqT K H a xs) xs where
  go := fun i H h hi => ⟨xs, xs[i], h, by simp [hi]⟩
  stop := fun i H h hi => ⟨xs, h, hi⟩
  yld := fun i H x H' _ h y => ⟨y.1, y.2 xs h⟩
  stay := fun H H' h e => e.seqT h
theorem jseq_list {K : PySem.W.Frag} {a : Addr} {xs : List V} : JSeq (Itl K a) (fun H => SqL K H a xs) xs where
  go := fun i H h hi => ⟨xs, xs[i], h, by simp [hi]⟩
  stop := fun i H h hi => ⟨xs, h, hi⟩
  yld := fun i H x H' _ h y => ⟨y.1, y.2 xs h⟩
  stay := fun H H' h e => e.seq h
noncomputable def signs (z : Str) : List V := z.cps.toList.map fun c => V.str ⟨#[c]⟩
theorem jseq_str {z : Str} : JSeq (Its z) (fun _ => True) (signs z) where
  go := fun i H _ hi => by simpa [signs, Its] using hi
  stop := fun i H _ hi => by simpa [signs, Its] using hi
  yld := fun i H x H' _ _ y => by
    obtain ⟨e, c, hc, rfl⟩ := y
    refine ⟨e, ?_⟩
    unfold signs
    rw [List.getElem?_map, Array.getElem?_toList, hc]; rfl
  stay := fun _ _ _ _ => trivial
noncomputable def nums (lo : Int) (n : Nat) : List V := (List.range n).map fun i => V.int (lo + (i : Nat))
theorem jseq_rng {lo : Int} {n : Nat} : JSeq (Itr lo n) (fun _ => True) (nums lo n) where
  go := fun i H _ hi => by simpa [nums, Itr] using hi
  stop := fun i H _ hi => by simpa [nums, Itr] using hi
  yld := fun i H x H' hi _ y => by
    refine ⟨y.1, ?_⟩
    have hi' : i < n := by simpa [nums] using hi
    have e : x = .int (lo + i) := y.2
    unfold nums
    rw [List.getElem?_map, List.getElem?_range hi', e]; rfl
  stay := fun _ _ _ _ => trivial
theorem Paired.snocP {α β : Type} {F : α → β → Prop} {x : α} {y : β} : ∀ {l₁ : List α} {l₂ : List β}, Paired F l₁ l₂ → F x y → Paired F (l₁ ++ [x]) (l₂ ++ [y])
  | _, _, .nil, h => .cons h .nil
  | _, _, .cons h₁ t, h => .cons h₁ (Paired.snocP t h)
noncomputable def SameX (D : Addr) (H H' : Hp) : Prop := ∀ b u, H b = some u → b ≠ D → H' b = some u
theorem Same.x {H H' : Hp} (e : Same H H') (D : Addr) : SameX D H H' := fun b u q _ => e b u q
theorem comp_rel {J : It} {H1 : Hp} {σ : St} {ix : List Nat} {tc : TT} {te : TE} {Q : VK} {I0 : Hp → Prop} (xs : List V) (p : V → Bool) (R : Addr → V → V → Hp → Prop) (hJ : JSeq J I0 xs) (h0 : I0 H1) (hz : xs.length ≤ sizeLine) (hR : ∀ D x y H H', R D x y H → SameX D H H' → R D x y H')
    (hc : ∀ x ∈ xs, ∀ H2, Same H1 H2 → ∀ Q' : Bool → Hp → Prop, (∀ H3, Same H2 H3 → Q' (p x) H3) → tc (some x :: frees σ ix) H2 Q')
    (he : ∀ D, ∀ x ∈ xs, p x = true → ∀ H2, Same H1 H2 → H2 D ≠ none → ∀ Q' : VK, (∀ y H3, Same H2 H3 → R D x y H3 → Q' y H3) → te (some x :: frees σ ix) H2 Q')
    (hQ : ∀ D H' ys, H1 D = none → Same H1 H' → H' D = some (.lst ys) → Paired (fun x y => R D x y H') (xs.filter p) ys → Q (.ref D) H') :
    CompGo J H1 σ ix tc te Q := by
  intro D hD
  have put : ∀ H ys, Same H1 H → Same H1 (upd H D (.lst ys)) := fun H ys e b u q => by rw [upd_ne (ne_of_none q hD)]; exact e b u q
  refine ⟨fun i m H => i ≤ xs.length ∧ m = xs.length - i ∧ Same H1 H ∧ ∃ ys, H D = some (.lst ys) ∧ Paired (fun x y => R D x y H) ((xs.take i).filter p) ys, ⟨xs.length, Nat.zero_le _, rfl, put _ _ (Same.refl _), [], upd_same, by simpa using Paired.nil⟩, ?_⟩
  rintro i m H ⟨hi, rfl, e, ys, hy, hp⟩
  have hI := hJ.stay _ _ h0 e
  by_cases hlt : i < xs.length
  · refine .inr ⟨hJ.go i H hI hlt, fun x H' hy' => ?_⟩
    obtain ⟨rfl, hx⟩ := hJ.yld i H x H' hlt hI hy'
    have hm : x ∈ xs := List.mem_of_getElem? hx
    have ht : xs.take (i + 1) = xs.take i ++ [x] := by rw [List.take_add_one, hx]; rfl
    have hlen : ys.length ≤ i := by
      have h1 := Paired.length hp
      have h2 := List.length_filter_le p (xs.take i)
      rw [List.length_take] at h2
      lia
    refine hc x hm _ e _ fun H3 e3 => ?_
    cases hpx : p x with
    | false =>
      rw [if_neg Bool.false_ne_true]
      refine ⟨xs.length - (i + 1), by lia, hlt, rfl, e.trans e3, ys, e3 _ _ hy, ?_⟩
      rw [ht, List.filter_append]
      simp only [List.filter_cons, hpx, List.filter_nil, List.append_nil, Bool.false_eq_true, if_false]
      exact Paired.mapP hp fun x y z => hR _ _ _ _ _ z (e3.x D)
    | true =>
      rw [if_pos rfl]
      refine he D x hm hpx _ (e.trans e3) (by rw [e3 _ _ hy]; simp) _ fun y H4 e4 hr => ?_
      have e5 : SameX D H4 (upd H4 D (.lst (ys ++ [y]))) := fun b u q hb => by rw [upd_ne hb]; exact q
      refine ⟨ys, e4 _ _ (e3 _ _ hy), by lia, xs.length - (i + 1), by lia, hlt, rfl, put _ _ (e.trans (e3.trans e4)), ys ++ [y], upd_same, ?_⟩
      rw [ht, List.filter_append]
      simp only [List.filter_cons, hpx, List.filter_nil, if_true]
      exact Paired.snocP (Paired.mapP hp fun x y z => hR _ _ _ _ _ (hR _ _ _ _ _ z ((e3.trans e4).x D)) e5) (hR _ _ _ _ _ hr e5)
  · have hi' : i = xs.length := by lia
    subst hi'
    refine .inl ⟨hJ.stop _ H hI (Nat.le_refl _), ?_⟩
    rw [List.take_length] at hp
    exact hQ D H ys hD e hy hp
theorem paired_map {α β : Type} {f : α → β} : ∀ {l : List α} {l' : List β}, Paired (fun x y => y = f x) l l' → l' = l.map f
  | _, _, .nil => rfl
  | _, _, .cons h t => by rw [h, paired_map t]; rfl
theorem comp_map {J : It} {H1 : Hp} {σ : St} {ix : List Nat} {tc : TT} {te : TE} {Q : VK} {I0 : Hp → Prop} (xs : List V) (p : V → Bool) (f : V → V) (hJ : JSeq J I0 xs) (h0 : I0 H1) (hz : xs.length ≤ sizeLine)
    (hc : ∀ x ∈ xs, ∀ H2, Same H1 H2 → ∀ Q' : Bool → Hp → Prop, (∀ H3, Same H2 H3 → Q' (p x) H3) → tc (some x :: frees σ ix) H2 Q')
    (he : ∀ x ∈ xs, p x = true → ∀ H2, Same H1 H2 → ∀ Q' : VK, (∀ H3, Same H2 H3 → Q' (f x) H3) → te (some x :: frees σ ix) H2 Q')
    (hQ : ∀ D H', H1 D = none → Same H1 H' → H' D = some (.lst ((xs.filter p).map f)) → Q (.ref D) H') :
    CompGo J H1 σ ix tc te Q :=
  comp_rel xs p (fun _ x y _ => y = f x) hJ h0 hz (fun _ _ _ _ _ h _ => h) hc (fun _ x hx hp H2 e _ Q' q => he x hx hp H2 e Q' fun H3 e3 => q _ H3 e3 rfl) fun D H' ys hD e hy hp => hQ D H' hD e (by rw [hy, paired_map hp])
theorem comp_ix {J : It} {H1 : Hp} {σ : St} {ix : List Nat} {te : TE} {Q : VK} {I0 : Hp → Prop} (xs : List V) (ws : List V) (hJ : JSeq J I0 xs) (h0 : I0 H1) (hz : xs.length ≤ sizeLine) (hl : ws.length = xs.length)
    (he : ∀ (i : Nat) (x y : V), xs[i]? = some x → ws[i]? = some y → ∀ H2, Same H1 H2 → ∀ Q' : VK, (∀ H3, Same H2 H3 → Q' y H3) → te (some x :: frees σ ix) H2 Q')
    (hQ : ∀ D H', H1 D = none → Same H1 H' → H' D = some (.lst ws) → Q (.ref D) H') : CompGo J H1 σ ix tYes te Q := by
  intro D hD
  have put : ∀ H ys, Same H1 H → Same H1 (upd H D (.lst ys)) := fun H ys e b u q => by rw [upd_ne (ne_of_none q hD)]; exact e b u q
  refine ⟨fun i m H => i ≤ xs.length ∧ m = xs.length - i ∧ Same H1 H ∧ H D = some (.lst (ws.take i)), ⟨xs.length, Nat.zero_le _, rfl, put _ _ (Same.refl _), by rw [upd_same, List.take_zero]⟩, ?_⟩
  rintro i m H ⟨hi, rfl, e, hy⟩
  have hI := hJ.stay _ _ h0 e
  by_cases hlt : i < xs.length
  · refine .inr ⟨hJ.go i H hI hlt, fun x H' hy' => ?_⟩
    obtain ⟨rfl, hx⟩ := hJ.yld i H x H' hlt hI hy'
    have hw : ws[i]? = some ws[i] := List.getElem?_eq_getElem (by lia)
    unfold tYes
    dsimp only
    rw [if_pos rfl]
    refine he i x ws[i] hx hw _ e _ fun H3 e3 => ?_
    refine ⟨ws.take i, e3 _ _ hy, by rw [List.length_take]; lia, xs.length - (i + 1), by lia, hlt, rfl, put _ _ (e.trans e3), ?_⟩
    rw [upd_same, List.take_add_one, hw]; rfl
  · have hi' : i = xs.length := by lia
    subst hi'
    refine .inl ⟨hJ.stop _ H hI (Nat.le_refl _), hQ D H hD e ?_⟩
    rw [hy, List.take_of_length_le (by lia)]
theorem comp_all {α : Type} {J : It} {H1 : Hp} {σ : St} {ix : List Nat} {te : TE} {Q : VK} {I0 : Hp → Prop} (xs : List V) (rs : List α) (p : α → Bool) (hJ : JSeq J I0 xs) (h0 : I0 H1) (hz : xs.length ≤ 1000) (hl : rs.length = xs.length)
    (he : ∀ (i : Nat) (x : V) (r : α), xs[i]? = some x → rs[i]? = some r → ∀ H2, Same H1 H2 → ∀ Q' : VK, (∀ H3, Same H2 H3 → Q' (.bl (p r)) H3) → te (some x :: frees σ ix) H2 Q')
    (hQ : ∀ D H', H1 D = none → Same H1 H' → H' D = some (.lst ((rs.map p).map V.bl)) → Q (.ref D) H') : CompGo J H1 σ ix tYes te Q :=
  comp_ix xs ((rs.map p).map V.bl) hJ h0 (Nat.le_of_lt (small1000 hz)) (by simp [hl]) (fun i x y hx hy H2 e Q' q => by
    rw [List.getElem?_map, List.getElem?_map] at hy
    cases hr : rs[i]? with
    | none => rw [hr] at hy; cases hy
    | some r =>
      rw [hr] at hy
      have : y = .bl (p r) := (Option.some.inj hy).symm
      subst this
      exact he i x r hx hr H2 e Q' q) hQ
theorem all_id {α : Type} (l : List α) (p : α → Bool) : (l.map p).all id = l.all p := by rw [List.all_map]; rfl
theorem str_at {l : List Str} {i : Nat} {x : V} {r : Str} (hx : (l.map V.str)[i]? = some x) (hr : l[i]? = some r) : x = .str r := by
  rw [List.getElem?_map, hr] at hx
  exact (Option.some.inj hx).symm
end L2
namespace Mir
open PySem L2
noncomputable def letters : Str := "abcdefghijklmnopqrstuvwxyz"
noncomputable def figures : Str := "0123456789"
noncomputable def noNames : List Str := ["nil", "any", "is", "not", "cell", "stretch", "tree", "nothing", "then", "with"]
noncomputable def okSign (c : Nat) : Bool := decide (c ∈ letters.cps.toList) || decide (c ∈ figures.cps.toList)
noncomputable def headOk : List Nat → Bool
  | [] => false
  | c :: _ => decide (c ∈ letters.cps.toList)
noncomputable def isName (x : Str) : Bool := if x = "" ∨ 8 < x.length ∨ x ∈ noNames then false else headOk x.cps.toList && x.cps.toList.all okSign
noncomputable def isValue (x : Str) : Bool := decide (x = "nil") || isName x
theorem eqV_str (a b : Str) : eqV (.str a) (.str b) = decide (a = b) := by
  show (a == b) = decide (a = b)
  by_cases h : a = b
  · subst h; simp
  · rw [decide_eq_false h]; exact beq_eq_false_iff_ne.mpr h
theorem inV_strs (x : Str) (l : List Str) : inV (.str x) (l.map V.str) = decide (x ∈ l) := by
  unfold inV
  rw [Bool.eq_iff_iff, List.any_eq_true, decide_eq_true_eq]
  constructor
  · rintro ⟨y, hy, e⟩
    obtain ⟨z, hz, rfl⟩ := List.mem_map.mp hy
    rw [eqV_str, decide_eq_true_eq] at e
    exact e ▸ hz
  · intro h
    exact ⟨.str x, List.mem_map.mpr ⟨x, h, rfl⟩, by rw [eqV_str]; simp⟩
theorem flat_strs (l : List Str) : (l.map V.str).all flatV = true := by
  rw [List.all_eq_true]
  intro v hv
  obtain ⟨z, _, rfl⟩ := List.mem_map.mp hv
  rfl
end Mir
namespace L2
open PySem PySem.Spec PyProof.Rows
theorem strsAre_vals : ∀ {ys : List Str} {us : List Value}, Vals (ys.map V.str) us → StrsAre us ys
  | [], _, h => by cases h; exact .nil
  | y :: ys, _, h => by
    cases h with
    | cons h1 h2 =>
      obtain ⟨t, rfl⟩ := h1
      exact .cons _ _ (strsAre_vals h2)
theorem vals_strValues : ∀ (l : List (Str × Tok)), Vals ((l.map (·.1)).map V.str) (strValues l)
  | [] => .nil
  | p :: l => .cons ⟨p.2, rfl⟩ (vals_strValues l)
section
variable {X : Cx}
noncomputable def rJoin (K : PySem.W.Frag) : V → List V → Hp → VK → Prop := fun x vs H Q => ∃ sep p ys, x = .str sep ∧ vs = [.ref p] ∧ (SqL K H p (ys.map V.str) ∨ SqT K H p (ys.map V.str)) ∧ (ys.map (·.length)).sum + ys.length * sep.length ≤ 16777216 ∧ Q (.str (Txt.join sep ys)) H
theorem mt_join : MtR X "str.join" (rJoin X.K) := by
  intro pins s σ H x vs v us Q I rx rv h
  obtain ⟨sep, p, ys, rfl, rfl, hs, hz, q⟩ := h
  obtain ⟨t, rfl⟩ := rx
  obtain ⟨u, rfl, ru⟩ := rv.one
  cases ru
  rcases hs with hs | hs
  · obtain ⟨its, r, pl, _⟩ := I.list hs
    exact join_list (items := its.toArray) pl.isList (by simpa using strsAre_vals r) hz fun t' k => ⟨.str _, H, I.tok k, ⟨t', rfl⟩, q⟩
  · obtain ⟨its, r, pl, _⟩ := I.tuple hs
    exact join_tuple (items := its.toArray) pl (by simpa using strsAre_vals r) hz fun t' k => ⟨.str _, H, I.tok k, ⟨t', rfl⟩, q⟩
noncomputable def rSplit : V → List V → Hp → VK → Prop := fun x vs H Q => ∃ z y, x = .str z ∧ vs = [.str y] ∧ (y.length == 0) = false ∧ z.length ≤ sizeLine ∧ (Txt.split z y).length ≤ sizeLine ∧ ∀ p, H p = none → Q (.ref p) (upd H p (.lst ((Txt.split z y).map V.str)))
theorem mt_split : MtR X "str.split" rSplit := by
  intro pins s σ H x vs v us Q I rx rv h
  obtain ⟨z, y, rfl, rfl, hy, hz, hn, q⟩ := h
  obtain ⟨t, rfl⟩ := rx
  obtain ⟨u, rfl, ru⟩ := rv.one
  obtain ⟨t2, rfl⟩ := ru
  have fin : ∀ (l : List (Str × Tok)) (k : Nat), l.map (·.1) = Txt.split z y → EP X pins σ Q (.ref s.heap.objs.size) { s with heap := s.heap.push { cls := .type "list", data := .seq (strValues l).toArray }, toks := k } := fun l k e => by
    have hv : Vals ((Txt.split z y).map V.str) (strValues l) := by rw [← e]; exact vals_strValues l
    exact ⟨.ref s.heap.objs.size, _, I.lnew hv (by rw [List.length_map]; exact hn), rfl, q _ I.fresh⟩
  cases h1 : (decide (z.length < y.length) || decide (Builtin.Str.strKind z < Builtin.Str.strKind y))
  · cases hf : (Builtin.Str.occurrences z y 0 z.length (z.length + 1)).isEmpty
    · have es : Txt.split z y = Builtin.Str.partsBetween z (Builtin.Str.occurrences z y 0 z.length (z.length + 1)) y.length := (if_neg (ne_true_of_eq_false h1)).trans (if_neg (ne_true_of_eq_false hf))
      refine call_meets F.slot_str_split (typeIs_str _ _ _) F.entry_str_split (F.args_str_split_2 _ _) (meets_str_split_sep z y t t2 h1 hy hf hz (by rw [← es]; exact hn)) ?_
      show wants (EP X pins σ Q) X.xe _ { s with toks := _, heap := s.heap.push { cls := .type "list", data := .seq (strsFrom s.toks (Builtin.Str.partsBetween z (Builtin.Str.occurrences z y 0 z.length (z.length + 1)) y.length)).toArray } }
      rw [strsFrom_eq]
      exact fin (numbered s.toks _) _ ((numbered_texts _ _).trans es.symm)
    · exact call_meets F.slot_str_split (typeIs_str _ _ _) F.entry_str_split (F.args_str_split_2 _ _) (meets_str_split_not_found z y t t2 h1 hy hf) (fin [(z, t)] s.toks ((if_neg (ne_true_of_eq_false h1)).trans (if_pos hf)).symm)
  · exact call_meets F.slot_str_split (typeIs_str _ _ _) F.entry_str_split (F.args_str_split_2 _ _) (meets_str_split_cannot_occur z y t t2 h1) (fin [(z, t)] s.toks (if_pos h1).symm)
end
end L2
namespace L2
open PySem PySem.Spec PyProof.Rows
section
variable {X : Cx} {es es1 : List Expr} {t t1 : TA} {te : TE} {x : Str} {j : Nat} {pos pos2 : Pos}
theorem pa_str {j} (hr : PA X es t) : PA X (.Constant (.str x) j pos :: es) (tCons (tC (.str x)) t) := pa_cons pe_str hr rfl
theorem pa_int {i : Int} {j} (hr : PA X es t) : PA X (.Constant (.int i) j pos :: es) (tCons (tC (.int i)) t) := pa_cons pe_int hr rfl
theorem pa_bl {b : Bool} {j} (hr : PA X es t) : PA X (.Constant (.bool b) j pos :: es) (tCons (tC (.bl b)) t) := pa_cons pe_bl hr rfl
theorem pa_nm (h : PE X (.Name x pos) te) (hr : PA X es t) : PA X (.Name x pos :: es) (tCons te t) := pa_cons h hr rfl
theorem pa_tp {x1} (h : PA X es1 t1) (hr : PA X es t) : PA X (.Tuple es1 x1 pos :: es) (tCons (tTup t1) t) := pa_cons (pe_tup h) hr rfl
theorem pa_ls (h : PA X es1 t1) (hr : PA X es t) : PA X (.List es1 pos :: es) (tCons (tLst t1) t) := pa_cons (pe_lst h) hr rfl
theorem pa_sub {a b : Expr} (h : PE X (.Subscript a b pos) te) (hr : PA X es t) : PA X (.Subscript a b pos :: es) (tCons te t) := pa_cons h hr rfl
theorem pa_call {f : Expr} {as : List Expr} {ks : List Keyword} (h : PE X (.Call f as ks pos) te) (hr : PA X es t) : PA X (.Call f as ks pos :: es) (tCons te t) := pa_cons h hr rfl
theorem pa_bop {a b : Expr} {op : Operator} (h : PE X (.BinOp a op b pos) te) (hr : PA X es t) : PA X (.BinOp a op b pos :: es) (tCons te t) := pa_cons h hr rfl
end
end L2
namespace L2
open PySem PySem.Spec PyProof.Rows
structure QE (X : Cx) (e : Expr) (t : TE) : Prop where
  run : PE X e t
structure QT (X : Cx) (e : Expr) (t : TT) : Prop where
  run : PT X e t
structure QW (X : Cx) (e : Expr) (t : TT) : Prop where
  run : PW X e t
structure QA (X : Cx) (es : List Expr) (t : TA) : Prop where
  run : PA X es t
structure QS (X : Cx) (st : Stmt) (t : TS) : Prop where
  run : PS X st t
structure QB (X : Cx) (st : List Stmt) (t : TS) : Prop where
  run : PSs X st t
structure QI (X : Cx) (tg iter : Expr) (wi : TI) : Prop where
  run : PI X tg iter wi
structure QG (X : Cx) (target : Expr) (t : TG) : Prop where
  run : PG X target t
structure QO (X : Cx) (e : Option Expr) (t : TO) : Prop where
  run : PO X e t
structure QTs (X : Cx) (ifs : List Expr) (t : TT) : Prop where
  run : PTs X ifs t
theorem QW.qt {X : Cx} {e : Expr} {t : TT} (h : QW X e t) : QT X e t := ⟨PW.pt h.run⟩
section
variable {st : Stmt} {id : String} {lo hi : Option Expr}
set_option autoImplicit true
set_option relaxedAutoImplicit true
theorem qb_nil  : QB X [] tNext := ⟨pss_nil ⟩
theorem qb_cons {rest : List Stmt} (h1 : QS X st t) (h2 : QB X rest u) : QB X (st :: rest) (tSeq t u) := ⟨pss_cons h1.run h2.run⟩
theorem qb_one (h1 : QS X st t) : QB X [st] t := ⟨pss_one h1.run⟩
theorem qs_if {c : Expr} {a b : List Stmt} {tc : TT} (hc : QT X c tc) (ha : QB X a t) (hb : QB X b u) : QS X (.If c a b pos) (tIfS tc t u) := ⟨ps_if hc.run ha.run hb.run⟩
theorem qs_set {i : Nat} {x : Str} {e : Expr} {te : TE} {pos' : Pos} (hN : X.N.Nodup) (hi : X.N[i]? = some x) (hx : Loc X.env.scope x) (he : QE X e te) (hs : swapsWith e (some (.Name x pos')) pos.line X.env = pure false := by rfl) (hf : X.fn x = true ∨ X.env.scope.names.lookup x = some .local := by first | exact .inl rfl | exact .inr rfl | assumption) :     QS X (.Assign [.Name x pos'] e pos) (tAsg te (gName i)) := ⟨ps_set hN hi hx he.run hs hf⟩
theorem qs_ret (he : QE X e te) : QS X (.Return (some e) pos) (tRet te) := ⟨ps_ret he.run⟩
theorem qs_expr (he : QE X e te) (hs : swapsWith e none pos.line X.env = pure false := by rfl) : QS X (.Expr e pos) (tDrop te) := ⟨ps_expr he.run hs⟩
theorem qs_for {iter : Expr} {body : List Stmt} {wi : TI} {g : TG} {tb : TS} {pos : Pos} (hp : PassesOwn (model X.prog X.w) X.A X.env X.xe) (hc : X.calm = true) (hi : QI X tg iter wi) (hg : QG X tg g) (hb : QB X body tb) (hs : ∀ x, foldedSetIterable iter X.env x = pure x := by intro _; rfl) : QS X (.For tg iter body [] pos) (tFor wi g tb) := ⟨ps_for hp hc hi.run hg.run hb.run hs⟩
theorem qs_asg {tg e : Expr} {te : TE} {g : TG} (he : QE X e te) (hg : QG X tg g) (hs : swapsWithSole [tg] e pos.line X.env = pure false := by rfl) (hw : swappedStores [tg] e X.env = pure none := by rfl) (h1 : (assignEach [tg] X.env).map (·.2) = [assign tg X.env] := by rfl) : QS X (.Assign [tg] e pos) (tAsg te g) := ⟨ps_asg he.run hg.run hs hw h1⟩
theorem qs_try (hst : X.stack = X.env :: X.outer) (hfr : X.env.frame = some X.env.locals) (hex : X.ex = []) (hb : ∀ pins₀, QB (tryX X pins₀ E) body tb) (hs : ∀ pins₀ a, QB (sutX X pins₀ a) (b₀ :: suite) ts) (hg : Gl X c) (hm : X.mg c = some (.ref C)) (hnd : X.N.Nodup) (hi : X.N[i]? = some n) (hl : X.env.kindOf n = some .local) (hfn : X.fn n = true) (hdb : (c == ("__debug__" : Str)) = false := by decide) :     QS X (.Try body [.ExceptHandler (some (.Name c np)) (some n) (b₀ :: suite) hpos] [] [] pos) (tTry X C i E tb ts) := ⟨ps_try hst hfr hex (fun z0 => (hb z0).run) (fun z0 z1 => (hs z0 z1).run) hg hm hnd hi hl hfn hdb⟩
theorem qe_int {i j pos} : QE X (.Constant (.int i) j pos) (tC (.int i)) := ⟨pe_int ⟩
theorem qe_bl {b j pos} : QE X (.Constant (.bool b) j pos) (tC (.bl b)) := ⟨pe_bl ⟩
theorem qe_non {j pos} : QE X (.Constant .none j pos) (tC .non) := ⟨pe_non ⟩
theorem qe_str {x j pos} : QE X (.Constant (.str x) j pos) (tC (.str x)) := ⟨pe_str ⟩
theorem qv (i : Nat) {x : Str} {pos : Pos} (hN : X.N[i]? = some x := by rfl) (hv : Vis X.env.scope x := by first | exact Or.inl rfl | exact Or.inr (Or.inl rfl) | exact Or.inr (Or.inr rfl)) (hd : (x == ("__debug__" : Str)) = false := by decide) (hcd : (x == ("__classdict__" : Str)) = false := by decide) : QE X (.Name x pos) (tVar i) := ⟨pv i hN hv hd hcd⟩
theorem qe_g {X : Cx} {x : Str} {v : V} {pos : Pos} (h : Glob X.mg x v) (hg : Gl X x := by rfl) (hd : (x == ("__debug__" : Str)) = false := by decide) : QE X (.Name x pos) (tC v) := ⟨pe_g h hg hd⟩
theorem qe_op {op : Operator} {r : R2} (ho : OpR X (binaryOp op) r) (ha : QE X a ta) (hb : QE X b tb) : QE X (.BinOp a op b pos) (tOp r ta tb) := ⟨pe_op ho ha.run hb.run⟩
theorem qe_cmpR {op : CmpOp} {r : R2} (ho : OpR X (compareOp op) r) (ha : QE X a ta) (hb : QE X b tb) (hm : behindInMarks op b = false) : QE X (.Compare a [op] [b] pos) (tOp r ta tb) := ⟨pe_cmpR ho ha.run hb.run hm⟩
theorem qt_cmpR {op : CmpOp} {r : R2} (ho : OpR X (compareOp op) r) (ha : QE X a ta) (hb : QE X b tb) (hm : behindInMarks op b = false) : QT X (.Compare a [op] [b] pos) (tTest (tOp r ta tb)) := ⟨pt_cmpR ho ha.run hb.run hm⟩
theorem qt_val {e : Expr} {t : TE} (h : QE X e t) (he : ∀ whole, isTrue e X.env whole = (do let v ← whole; standAt e.pos; holding [v] (truthy v)) := by intro _; rfl) : QT X e (tB t) := ⟨pt_val h.run he⟩
theorem qw_and1 (ha : QT X a tA) : QW X (.BoolOp .And [a] pos) tA := ⟨pw_and1 ha.run⟩
theorem qw_or1 (ha : QT X a tA) : QW X (.BoolOp .Or [a] pos) tA := ⟨pw_or1 ha.run⟩
theorem qw_and {rest : List Expr} (ha : QT X a tA) (hb : QW X (.BoolOp .And (b :: rest) pos) tB') : QW X (.BoolOp .And (a :: b :: rest) pos) (tAnd tA tB') := ⟨pw_and ha.run hb.run⟩
theorem qw_or {rest : List Expr} (ha : QT X a tA) (hb : QW X (.BoolOp .Or (b :: rest) pos) tB') : QW X (.BoolOp .Or (a :: b :: rest) pos) (tOr tA tB') := ⟨pw_or ha.run hb.run⟩
theorem qe_one {op} {t : TE} (h : QE X a t) : QE X (.BoolOp op [a] pos) t := ⟨pe_one h.run⟩
theorem qe_and {rest : List Expr} (ha : QE X a ta) (hb : QE X (.BoolOp .And (b :: rest) pos) tb) : QE X (.BoolOp .And (a :: b :: rest) pos) (tAndV ta tb) := ⟨pe_and ha.run hb.run⟩
theorem qe_ifExp {c : Expr} (hc : QT X c tA) (ha : QE X a ta) (hb : QE X b tb) : QE X (.IfExp c a b pos) (tIf tA ta tb) := ⟨pe_ifExp hc.run ha.run hb.run⟩
theorem qe_ix {r : R2} (hr : IxR X r) (ha : QE X a ta) (hb : QE X b tb) (hs : PlainIx b) : QE X (.Subscript a b pos) (tOp r ta tb) := ⟨pe_ix hr ha.run hb.run hs⟩
theorem qe_slice {r : V → Option Int → Option Int → Hp → VK → Prop} (hr : SlR X r) (he : QE X e te) (hl : QO X lo tl) (hu : QO X hi th) : QE X (.Subscript e (.Slice lo hi none p2) pos) (tSl r te tl th) := ⟨pe_slice hr he.run hl.run hu.run⟩
theorem qo_none  : QO X none tNoPart := ⟨po_none ⟩
theorem qo_some (h : QE X e te) : QO X (some e) (tPart te) := ⟨po_some h.run⟩
theorem qe_tup {x1} (h : QA X es t) : QE X (.Tuple es x1 pos) (tTup t) := ⟨pe_tup h.run⟩
theorem qe_lst (h : QA X es t) : QE X (.List es pos) (tLst t) := ⟨pe_lst h.run⟩
theorem qe_call (F : FnOk X.prog X.w X.K X.mg X.base CX k f fd ps sp) (hr : Room k X.A) (hg : Gl X x) (hm : X.mg x = some (.ref f)) (hk : PySem.W.keepIn X.K (.ref f) = true) (hb : Binds X.K fd ps ds) (hd : Vals dvs ds) (hx : Passes CX X E) (ha : QA X (e :: es) t) (hdb : (x == ("__debug__" : Str)) = false := by decide) (he : starEach (e :: es) X.env = (false, eval e X.env) :: starEach es X.env := by rfl) (hpl : (backTo pos (starEach es X.env)).any (·.1) = false := by rfl) :     QE X (.Call (.Name x p) (e :: es) [] pos) (tCall sp dvs E t) := ⟨pe_call F hr hg hm hk hb hd hx ha.run hdb he hpl⟩
theorem qe_callB (hc : CallR X (.builtin id) r) (hg : Gl X x) (hm : X.mg x = none) (hv : bootBuiltins x = some (.builtin id)) (ha : QA X (e :: es) t) (hn : x ≠ "__name__" := by decide) (hdb : (x == ("__debug__" : Str)) = false := by decide) (he : starEach (e :: es) X.env = (false, eval e X.env) :: starEach es X.env := by rfl) (hpl : (backTo pos (starEach es X.env)).any (·.1) = false := by rfl) : QE X (.Call (.Name x p) (e :: es) [] pos) (tCB r t) := ⟨pe_callB hc hg hm hv ha.run hn hdb he hpl⟩
theorem qe_callTy (hc : CallR X (.type T) r) (hg : Gl X x) (hm : X.mg x = none) (hv : bootBuiltins x = some (.type T)) (ha : QA X (e :: es) t) (hn : x ≠ "__name__" := by decide) (hdb : (x == ("__debug__" : Str)) = false := by decide) (he : starEach (e :: es) X.env = (false, eval e X.env) :: starEach es X.env := by rfl) (hpl : (backTo pos (starEach es X.env)).any (·.1) = false := by rfl) : QE X (.Call (.Name x p) (e :: es) [] pos) (tCB r t) := ⟨pe_callTy hc hg hm hv ha.run hn hdb he hpl⟩
theorem qe_bm (pa : PlainAttrs T) (slot : Slot T name id) (hty : typeOf (.builtin id) = pure (.type "method_descriptor")) (hm : MtR X id r) (ho : QE X o to) (ha : QA X (e :: es) t) (hbase : attributeBase o name X.env (eval o X.env) = eval o X.env := by rfl) (hfew : ((backTo cpos (starEach (e :: es) X.env)).all (fun x => !x.1) && (backToKw cpos (keywordEach [] X.env)).all (fun x => x.1.isSome)       && decide ((e :: es).length + ([] : List Keyword).length + (if ([] : List Keyword).isEmpty then 0 else 1) < 30)) = true := by rfl) (hline : (apos.endLine == cpos.line) = true := by rfl) (hs : starEach (e :: es) X.env = (false, eval e X.env) :: starEach es X.env := by rfl) (hplain : (backTo cpos (starEach es X.env)).any (·.1) = false := by rfl) :     QE X (.Call (.Attribute o name apos) (e :: es) [] cpos) (tBM X.K T r to t) := ⟨pe_bm pa slot hty hm ho.run ha.run hbase hfew hline hs hplain⟩
theorem qe_comp0 {X : Cx} {elt iter : Expr} {x : Str} {px pos : Pos} {ifs : List Expr} {sc : Scope} {wi : TI} {tc : TT} {te : TE} (hi : QI X (.Name x px) iter wi) (hif : ∀ s H C ex, QTs (blk X [x] s H sc [] C ex) ifs tc) (he : ∀ s H C ex, QE (blk X [x] s H sc [] C ex) elt te) (hc : X.calm = true := by rfl) (hkind : sc.kind = .function := by rfl) (hx : sc.names.lookup x = some .local := by decide +kernel) (hfree : ∀ y ∈ sc.names, y.2 ≠ .free := by decide +kernel) (hcell : ∀ y ∈ sc.names, y.2 ≠ .cell := by decide +kernel) (hnames : ∀ y ∈ sc.names, y.2 = .local → sc.names.lookup y.1 = some .local := by decide +kernel) (hs : ∀ x, foldedSetIterable iter X.env x = pure x := by intro _; rfl) :     QE X (.ListComp elt [⟨.Name x px, iter, ifs, 0⟩] sc pos) (tComp [] wi tc te) := ⟨pe_comp0 hi.run (fun z0 z1 z2 z3 => (hif z0 z1 z2 z3).run) (fun z0 z1 z2 z3 => (he z0 z1 z2 z3).run) hc hkind hx hfree hcell hnames hs⟩
theorem qi_list {l : Expr} {tl : TE} (hl : QE X l tl) : QI X tg l (iList X.K tl) := ⟨pi_list hl.run⟩
theorem qi_range1 {a : Expr} {ta : TA} {p pos : Pos} (hg : Gl X "range") (hm : X.mg "range" = none) (ha : QA X [a] ta) (hs : starEach [a] X.env = [(false, eval a X.env)] := by rfl) : QI X tg (.Call (.Name "range" p) [a] [] pos) (iRng1 ta) := ⟨pi_range1 hg hm ha.run hs⟩
theorem qg_name {i : Nat} {x : Str} (hN : X.N.Nodup) (hi : X.N[i]? = some x) (hx : Loc X.env.scope x) (hf : X.fn x = true ∨ X.env.scope.names.lookup x = some .local := by first | exact .inl rfl | exact .inr rfl | assumption) : QG X (.Name x pos) (gName i) := ⟨pg_name hN hi hx hf⟩
theorem qa_nil  : QA X [] tNil := ⟨pa_nil ⟩
theorem qa_cons (ha : QE X e te) (hr : QA X es t) (hs : starEach (e :: es) X.env = (false, eval e X.env) :: starEach es X.env := by rfl) : QA X (e :: es) (tCons te t) := ⟨pa_cons ha.run hr.run hs⟩
theorem qa_str {j} (hr : QA X es t) : QA X (.Constant (.str x) j pos :: es) (tCons (tC (.str x)) t) := ⟨pa_str hr.run⟩
theorem qa_int {i : Int} {j} (hr : QA X es t) : QA X (.Constant (.int i) j pos :: es) (tCons (tC (.int i)) t) := ⟨pa_int hr.run⟩
theorem qa_bl {b : Bool} {j} (hr : QA X es t) : QA X (.Constant (.bool b) j pos :: es) (tCons (tC (.bl b)) t) := ⟨pa_bl hr.run⟩
theorem qa_nm (h : QE X (.Name x pos) te) (hr : QA X es t) : QA X (.Name x pos :: es) (tCons te t) := ⟨pa_nm h.run hr.run⟩
theorem qa_tp {x1} (h : QA X es1 t1) (hr : QA X es t) : QA X (.Tuple es1 x1 pos :: es) (tCons (tTup t1) t) := ⟨pa_tp h.run hr.run⟩
theorem qa_ls (h : QA X es1 t1) (hr : QA X es t) : QA X (.List es1 pos :: es) (tCons (tLst t1) t) := ⟨pa_ls h.run hr.run⟩
theorem qa_sub {a b : Expr} (h : QE X (.Subscript a b pos) te) (hr : QA X es t) : QA X (.Subscript a b pos :: es) (tCons te t) := ⟨pa_sub h.run hr.run⟩
theorem qa_call {f : Expr} {as : List Expr} {ks : List Keyword} (h : QE X (.Call f as ks pos) te) (hr : QA X es t) : QA X (.Call f as ks pos :: es) (tCons te t) := ⟨pa_call h.run hr.run⟩
theorem qa_bop {a b : Expr} {op : Operator} (h : QE X (.BinOp a op b pos) te) (hr : QA X es t) : QA X (.BinOp a op b pos :: es) (tCons te t) := ⟨pa_bop h.run hr.run⟩
theorem qts_nil {X : Cx} : QTs X [] tYes := ⟨pts_nil ⟩
theorem qts_one {X : Cx} {c : Expr} {t : TT} (h : QT X c t) : QTs X [c] t := ⟨pts_one h.run⟩
end
theorem qg_sub {X : Cx} {o i : Expr} {to ti : TE} {t : TSet} {pos : Pos} (ho : QE X o to) (hi : QE X i ti) (hs : PSet X t)
    (ha : ∀ v, assign (.Subscript o i pos) X.env v = (do
      let ov ← holding [v] (eval o X.env)
      let iv ← holding [v, ov] (eval i X.env)
      standAt pos
      holding [v, ov, iv] (setItem ov iv v)
      release [v, ov, iv] []) := by intro _; rfl) : QG X (.Subscript o i pos) (gSub to ti t) := ⟨pg_sub ho.run hi.run hs ha⟩
theorem qe_weak {X : Cx} {e : Expr} {t t' : TE} (h : QE X e t) (w : ∀ σ H Q, t' σ H Q → t σ H Q) : QE X e t' := ⟨fun pins s σ H Q I q => h.run pins s σ H Q I (w σ H Q q)⟩
theorem Fun.okQ {P : Program} {w : World} {K : PySem.W.Frag} {mg : Str → Option Value} {base : Heap} {x qual : Str} {st : Stmt} {f : Addr} {fd : FuncData} {N ps : List Str} {k : Nat} {sp : Sp} (F : Fun K x qual st f fd) (S : FnScope N ps (defScope st)) (len : ∀ vs H Q E, sp vs H Q E → vs.length = ps.length)
    (hbody : ∀ (cdv : Value) (A : Around) (outer : List Env) (s : Shared) (H : Hp) (vs : List V) (Q : VK) (E : XK), Room k (A.deeper (envOfC qual (defScope st) s.heap.objs.size f cdv)) → sp vs H Q E →
      ∃ t, QB (cxOf CX0 P w K mg base N qual (defScope st) f cdv A outer s H E).nox (defBody st) t ∧ t { nx := fun _ H' => Q .non H', rt := Q } (start N vs) H) : FnOk P w K mg base CX0 (k + 1) f fd ps sp :=
  F.ok S len fun cdv A outer s H vs Q E hr h => by
    obtain ⟨t, h1, h2⟩ := hbody cdv A outer s H vs Q E hr h
    exact ⟨t, h1.run, h2⟩
end L2
namespace Spl
open PySem PySem.StrLaws PySem.Builtin PySem.Builtin.Str
section
variable (x y : Str)
noncomputable def cuts : Nat → Nat → Nat → List Nat
  | _, 0, _ => []
  | i, n + 1, f => if f ≤ i ∧ i + y.length ≤ x.length ∧ subAt x y i = true then i :: cuts (i + 1) n (i + y.length) else cuts (i + 1) n f
theorem occ_cuts (hy : 1 ≤ y.length) : ∀ (n i : Nat) (st : Array Nat × Nat), st.fst.size ≤ st.snd → (st.fst.size ≤ i) → i + n = x.length + 1 →
    (forIn (List.range' i n) st (occBody x y x.length (x.length + 1))).run.fst.toList = st.fst.toList ++ cuts x y i n st.snd
  | 0, i, st, _, _, _ => by simp [cuts]
  | n + 1, i, st, h1, h2, h3 => by
    rw [List.range'_succ, List.forIn_cons]
    unfold occBody
    by_cases hc : st.snd ≤ i ∧ i + y.length ≤ x.length ∧ subAt x y i = true
    · rw [if_pos ⟨⟨⟨by lia, hc.1⟩, hc.2.1⟩, hc.2.2⟩]
      have ih := occ_cuts hy n (i + 1) (st.fst.push i, i + y.length) (by show (st.fst.push i).size ≤ _; rw [Array.size_push]; lia) (by show (st.fst.push i).size ≤ _; rw [Array.size_push]; lia) (by lia)
      have e : cuts x y i (n + 1) st.snd = i :: cuts x y (i + 1) n (i + y.length) := by rw [cuts, if_pos hc]
      rw [e]
      refine Eq.trans ih ?_
      show (st.fst.push i).toList ++ _ = _
      rw [Array.toList_push, List.append_assoc]
      rfl
    · rw [if_neg (fun h => hc ⟨h.1.1.2, h.1.2, h.2⟩)]
      have ih := occ_cuts hy n (i + 1) st h1 (by lia) (by lia)
      have e : cuts x y i (n + 1) st.snd = cuts x y (i + 1) n st.snd := by rw [cuts, if_neg hc]
      rw [e]
      exact ih
theorem cuts_skip (f : Nat) : ∀ (d i n : Nat), (∀ j, i ≤ j → j < i + d → ¬ (f ≤ j ∧ j + y.length ≤ x.length ∧ subAt x y j = true)) → cuts x y i (n + d) f = cuts x y (i + d) n f
  | 0, i, n, _ => rfl
  | d + 1, i, n, h => by
    have e : n + (d + 1) = (n + d) + 1 := by lia
    rw [e, cuts, if_neg (h i (Nat.le_refl _) (by lia)), cuts_skip f d (i + 1) n (fun j h1 h2 => h j (by lia) (by lia))]
    congr 1
    lia
end
noncomputable def glue (y : List Nat) : List (List Nat) → List Nat
  | [] => []
  | [p] => p
  | p :: q :: r => p ++ (y ++ glue y (q :: r))
theorem subAt_no {x y : Str} {i c0 : Nat} {y' : List Nat} (hy : y.cps.toList = c0 :: y') {d : Nat} (hx : x.cps.toList[i]? = some d) (hd : d ≠ c0) : ¬ subAt x y i = true := fun h => by
  rw [subAt_eq, beq_iff_eq] at h
  have hl : y.length = y'.length + 1 := by show y.cps.size = _; rw [← Array.length_toList, hy]; rfl
  rw [hl, hy] at h
  have h2 : ((x.cps.toList.drop i).take (y'.length + 1))[0]? = some c0 := by rw [h]; rfl
  rw [List.getElem?_take_of_lt (by lia), List.getElem?_drop, Nat.add_zero, hx] at h2
  exact hd (Option.some.inj h2)
theorem subAt_yes {x y : Str} {pre rest : List Nat} (hx : x.cps.toList = pre ++ (y.cps.toList ++ rest)) : subAt x y pre.length = true := by
  rw [subAt_eq, beq_iff_eq, hx, List.drop_left]
  have hl : y.length = y.cps.toList.length := (Array.length_toList ..).symm
  rw [hl, List.take_left]
theorem sub_mid {x : Str} {pre p rest : List Nat} (hx : x.cps.toList = pre ++ (p ++ rest)) : strSub x pre.length (pre.length + p.length) = ⟨p.toArray⟩ := by
  apply Str.ext'
  apply Array.toList_inj.mp
  rw [strSub_toList, hx, List.drop_left, Nat.add_sub_cancel_left, List.take_left]
theorem cuts_glue (x y : Str) (c0 : Nat) (y' : List Nat) (hy : y.cps.toList = c0 :: y') : ∀ (ps : List (List Nat)) (pre : List Nat), ps ≠ [] → (∀ p ∈ ps, ¬ c0 ∈ p) → x.cps.toList = pre ++ glue y.cps.toList ps →
    partsFrom x y.length pre.length (cuts x y pre.length (x.length + 1 - pre.length) pre.length) = ps.map fun p => (⟨p.toArray⟩ : Str)
  | [], _, h, _, _ => absurd rfl h
  | [p], pre, _, hp, hx => by
    have hx' : x.cps.toList = pre ++ p := hx
    have hxl : x.length = pre.length + p.length := by show x.cps.size = _; rw [← Array.length_toList, hx', List.length_append]
    have hyl : 1 ≤ y.length := by show 1 ≤ y.cps.size; rw [← Array.length_toList, hy]; simp
    have e0 : x.length + 1 - pre.length = 0 + (p.length + 1) := by lia
    have e1 : cuts x y pre.length (x.length + 1 - pre.length) pre.length = [] := by
      rw [e0, cuts_skip x y pre.length (p.length + 1) pre.length 0 (fun j h1 h2 hc => ?_)]
      · rfl
      · have hj : j < pre.length + p.length := by lia
        have hg : x.cps.toList[j]? = some (p[j - pre.length]'(by lia)) := by
          rw [hx', List.getElem?_append_right h1, List.getElem?_eq_getElem]
        refine subAt_no hy hg (fun e => hp p (List.mem_cons_self ..) (e ▸ List.getElem_mem _)) hc.2.2
    rw [e1]
    show [strSub x pre.length x.length] = _
    rw [hxl, sub_mid (rest := []) (by rw [List.append_nil]; exact hx')]
    rfl
  | p :: q :: r, pre, _, hp, hx => by
    have hx' : x.cps.toList = pre ++ (p ++ (y.cps.toList ++ glue y.cps.toList (q :: r))) := hx
    have hx2 : x.cps.toList = (pre ++ p) ++ (y.cps.toList ++ glue y.cps.toList (q :: r)) := by rw [hx', List.append_assoc]
    have hx3 : x.cps.toList = (pre ++ (p ++ y.cps.toList)) ++ glue y.cps.toList (q :: r) := by rw [hx']; simp only [List.append_assoc]
    have hyl0 : y.length = y.cps.toList.length := (Array.length_toList ..).symm
    have hyl : 1 ≤ y.length := by rw [hyl0, hy]; simp
    have hxl : x.length = pre.length + p.length + y.length + (glue y.cps.toList (q :: r)).length := by
      show x.cps.size = _
      rw [← Array.length_toList, hx2, List.length_append, List.length_append, List.length_append, hyl0]; lia
    have ih := cuts_glue x y c0 y' hy (q :: r) (pre ++ (p ++ y.cps.toList)) (by simp) (fun z hz => hp z (List.mem_cons_of_mem _ hz)) hx3
    have hpl : (pre ++ (p ++ y.cps.toList)).length = pre.length + p.length + y.length := by rw [List.length_append, List.length_append, hyl0]; lia
    rw [hpl] at ih
    have e0 : x.length + 1 - pre.length = (x.length + 1 - (pre.length + p.length)) + p.length := by lia
    have e1 : cuts x y pre.length (x.length + 1 - pre.length) pre.length = cuts x y (pre.length + p.length) (x.length + 1 - (pre.length + p.length)) pre.length := by
      rw [e0, cuts_skip x y pre.length p.length pre.length _ (fun j h1 h2 hc => ?_)]
      have hg : x.cps.toList[j]? = some (p[j - pre.length]'(by lia)) := by
        rw [hx', List.getElem?_append_right h1, List.getElem?_append_left (by lia), List.getElem?_eq_getElem]
      exact subAt_no hy hg (fun e => hp p (List.mem_cons_self ..) (e ▸ List.getElem_mem _)) hc.2.2
    have e2 : x.length + 1 - (pre.length + p.length) = (x.length + 1 - (pre.length + p.length + y.length) + (y.length - 1)) + 1 := by lia
    have hs : subAt x y (pre.length + p.length) = true := by
      have := subAt_yes hx2
      rwa [List.length_append] at this
    have e3 : cuts x y (pre.length + p.length) (x.length + 1 - (pre.length + p.length)) pre.length = (pre.length + p.length) :: cuts x y (pre.length + p.length + y.length) (x.length + 1 - (pre.length + p.length + y.length)) (pre.length + p.length + y.length) := by
      rw [e2, cuts, if_pos ⟨by lia, by lia, hs⟩, cuts_skip x y (pre.length + p.length + y.length) (y.length - 1) (pre.length + p.length + 1) _ (fun j h1 h2 hc => by lia)]
      congr 2
      lia
    rw [e1, e3]
    show strSub x pre.length (pre.length + p.length) :: partsFrom x y.length (pre.length + p.length + y.length) _ = _
    rw [ih, sub_mid hx']
    rfl
theorem occ_is (x y : Str) (hy : 1 ≤ y.length) : occurrences x y 0 x.length (x.length + 1) = cuts x y 0 (x.length + 1) 0 := by
  rw [occ_eq]
  have := occ_cuts x y hy (x.length + 1) 0 (#[], 0) (by simp) (by simp) (by lia)
  rw [Nat.sub_zero]
  refine this.trans ?_
  simp
theorem split_glue (x y : Str) (c0 : Nat) (y' : List Nat) (hy : y.cps.toList = c0 :: y') (ps : List (List Nat)) (hne : ps ≠ []) (hp : ∀ p ∈ ps, ¬ c0 ∈ p) (hx : x.cps.toList = glue y.cps.toList ps) (hk : Builtin.Str.strKind y = 1) : Txt.split x y = ps.map fun p => (⟨p.toArray⟩ : Str) := by
  have hyl : 1 ≤ y.length := by show 1 ≤ y.cps.size; rw [← Array.length_toList, hy]; simp
  have key := cuts_glue x y c0 y' hy ps [] hne hp hx
  have key' : partsFrom x y.length 0 (cuts x y 0 (x.length + 1) 0) = ps.map fun p => (⟨p.toArray⟩ : Str) := key
  have hkx : 1 ≤ Builtin.Str.strKind x := by unfold Builtin.Str.strKind; split <;> (try split) <;> lia
  unfold Txt.split
  by_cases h1 : x.length < y.length
  · rw [if_pos (by rw [decide_eq_true h1]; rfl)]
    have hc : cuts x y 0 (x.length + 1) 0 = [] := by
      have := cuts_skip x y 0 (x.length + 1) 0 0 (fun j _ h2 hc => by lia)
      rw [Nat.zero_add] at this
      exact this
    rw [hc] at key'
    rw [← key']
    show [x] = [strSub x 0 x.length]
    rw [sub_whole]
  · have h2 : ¬ Builtin.Str.strKind x < Builtin.Str.strKind y := by rw [hk]; lia
    rw [if_neg (by rw [decide_eq_false h1, decide_eq_false h2]; simp), occ_is x y hyl]
    by_cases he : (cuts x y 0 (x.length + 1) 0).isEmpty = true
    · rw [if_pos he]
      have hc : cuts x y 0 (x.length + 1) 0 = [] := List.isEmpty_iff.mp he
      rw [hc] at key'
      rw [← key']
      show [x] = [strSub x 0 x.length]
      rw [sub_whole]
    · rw [if_neg he, partsBetween_eq]
      exact key'
theorem join_glue (sep : Str) : ∀ ps : List Str, (Str.join sep ps).cps.toList = glue sep.cps.toList (ps.map fun p => p.cps.toList)
  | [] => rfl
  | [p] => rfl
  | p :: q :: r => by
    show (p ++ sep ++ Str.join sep (q :: r)).cps.toList = p.cps.toList ++ (sep.cps.toList ++ glue sep.cps.toList ((q :: r).map fun p => p.cps.toList))
    rw [← join_glue sep (q :: r), Str.cps_append, Str.cps_append, Array.toList_append, Array.toList_append, List.append_assoc]
theorem str_back (p : Str) : (⟨p.cps.toList.toArray⟩ : Str) = p := by
  apply Str.ext'
  simp
theorem split_join (y : Str) (c0 : Nat) (y' : List Nat) (hy : y.cps.toList = c0 :: y') (hk : Builtin.Str.strKind y = 1) (ps : List Str) (hne : ps ≠ []) (hp : ∀ p ∈ ps, ¬ c0 ∈ p.cps.toList) : Txt.split (Txt.join y ps) y = ps := by
  have e : Txt.join y ps = Str.join y ps := glued_eq_join y ps
  rw [e, split_glue _ y c0 y' hy (ps.map fun p => p.cps.toList) (by simpa using hne) (fun p hp' => ?_) (join_glue y ps) hk]
  · rw [List.map_map]
    refine Eq.trans (List.map_congr_left (g := fun p => p) fun p _ => str_back p) (List.map_id ps)
  · obtain ⟨q, hq, rfl⟩ := List.mem_map.mp hp'
    exact hp q hq
end Spl
namespace K4
open PySem L2 Mir
noncomputable def top (i : Nat) : Stmt := PySem.Challenge.pw_apart_k04_no_tellings.main.body.getD i (.Pass ⟨0, 0, 0, 0⟩)
structure Con (K : PySem.W.Frag) (mg : Str → Option Value) (w : World) : Prop where
  letters : Glob mg "LETTERS" (.str letters)
  figures : Glob mg "FIGURES" (.str figures)
  noNames : ∃ a, Glob mg "NO_NAMES" (.ref a) ∧ ∀ H, SqT K H a (noNames.map V.str)
  factWords : ∃ a, Glob mg "FACT_WORDS" (.ref a) ∧ ∀ H, SqT K H a (([("is" : Str), "not"] : List Str).map V.str)
  factLen : Glob mg "FACT_LENGTH" (.int 3)
  partLens : ∃ a, Glob mg "PART_LENGTHS" (.ref a) ∧ KDict K w a [("cell", .int 4), ("stretch", .int 3), ("tree", .int 2)]
  mostSigns : Glob mg "MOST_SIGNS" (.int 8)
  mostFacts : Glob mg "MOST_FACTS" (.int 8)
  mostParts : Glob mg "MOST_PARTS" (.int 6)
  mostNames : Glob mg "MOST_NAMES" (.int 8)
  len : mg "len" = none
  all : mg "all" = none
  isi : mg "isinstance" = none
  list : mg "list" = none
  tuple : mg "tuple" = none
  str : mg "str" = none
  sorted : mg "sorted" = none
  set : mg "set" = none
theorem iteB {b : Bool} {A B : Prop} (h1 : b = true → A) (h2 : b = false → B) : if b = true then A else B := by
  cases b with
  | true => rw [if_pos rfl]; exact h1 rfl
  | false => rw [if_neg Bool.false_ne_true]; exact h2 rfl
noncomputable def Short (x : Str) : Prop := x.length ≤ 1000
theorem Short.line {x : Str} (h : Short x) : x.length ≤ sizeLine := Nat.le_of_lt (small1000 h)
noncomputable abbrev sIsName : Stmt := top 19
noncomputable def spB1 (f : Str → Bool) : Sp := fun vs H Q _ => ∃ x, vs = [.str x] ∧ Short x ∧ ∀ H', Same H H' → Q (.bl (f x)) H'
section
variable {P : Program} {w : World} {K : PySem.W.Frag} {mg : Str → Option Value} {base : Heap} {f g : Addr} {fd gd : FuncData}
theorem scIsName : FnScope ["text"] ["text"] (defScope sIsName) := ⟨rfl, rfl, rfl, by decide +kernel, rfl, by decide +kernel, by decide +kernel⟩
theorem ok_isName (C : Con K mg w) (F : Fun K "is_name" "is_name" sIsName f fd) : FnOk P w K mg base CX0 1 f fd ["text"] (spB1 isName) := by
  refine F.ok scIsName (fun vs H Q E h => ?_) (fun cdv A outer s H vs Q E hr h => ?_)
  · obtain ⟨x, rfl, _⟩ := h; rfl
  obtain ⟨x, rfl, hx, q⟩ := h
  obtain ⟨aN, gN, tN⟩ := C.noNames
  refine ⟨_, pss_cons (ps_if (PW.pt (pw_or (pt_cmpR op_eq (pv 0) pe_str (nomark _)) (pw_or (pt_cmpR op_gt (pe_callB call_len_str rfl C.len PySem.boot_len (pa_cons (pv 0) pa_nil)) (pe_g C.mostSigns) (nomark _))
      (pw_or1 (pt_cmpR op_in_seq (pv 0) (pe_g gN) (by with_unfolding_all rfl)))))) (pss_one (ps_ret pe_bl)) pss_nil)
    (pss_one (ps_ret (pe_and (pe_cmpR op_in_sign (pe_ix ix_str (pv 0) pe_int (fun _ _ => rfl)) (pe_g C.letters) (by with_unfolding_all rfl))
      (pe_one (pe_callB (call_all rfl) rfl C.all PyProof.Rows.boot_all (pa_cons (pe_comp0 (pi_str (pv 0)) (fun _ _ _ _ => pts_nil)
        (fun _ _ _ _ => pe_or (pe_cmpR op_in_sign (pv 0) (pe_g C.letters) (by with_unfolding_all rfl)) (pe_one (pe_cmpR op_in_sign (pv 0) (pe_g C.figures) (by with_unfolding_all rfl))))) pa_nil)))))), ?_⟩
  have hf : (x = "" ∨ 8 < x.length ∨ x ∈ Mir.noNames) → Q (.bl false) H := fun h => by
    have e : isName x = false := by unfold isName; rw [if_pos h]
    rw [← e]; exact q H (Same.refl H)
  refine ⟨_, rfl, rfl, _, rfl, iteB (fun c => hf (.inl (by simpa using c))) fun c => ?_⟩
  refine ⟨_, rfl, x, rfl, hx.line, _, _, rfl, rfl, _, rfl, iteB (fun c2 => hf (.inr (.inl (by have := of_decide_eq_true c2; lia)))) fun c2 => ?_⟩
  refine ⟨_, rfl, aN, _, rfl, .inr (tN _), rfl, flat_strs _, _, rfl, iteB (fun c3 => hf (.inr (.inr (by
    have c3' : inV (.str x) (Mir.noNames.map V.str) = true := c3
    rw [inV_strs] at c3'; exact of_decide_eq_true c3')))) fun c3 => ?_⟩
  have c1' : ¬ x = "" := by simpa using c
  have c2' : ¬ 8 < x.length := by have := of_decide_eq_false c2; lia
  have c3' : ¬ x ∈ Mir.noNames := by
    have c3' : inV (.str x) (Mir.noNames.map V.str) = false := c3
    rw [inV_strs] at c3'; exact of_decide_eq_false c3'
  have e : isName x = (headOk x.cps.toList && x.cps.toList.all okSign) := by unfold isName; rw [if_neg (fun h => h.elim c1' (fun h => h.elim c2' c3'))]
  rw [e] at q
  cases hl : x.cps.toList with
  | nil =>
    exfalso
    apply c1'
    obtain ⟨a⟩ := x
    have : a = #[] := by simpa using hl
    rw [this]; rfl
  | cons c0 r =>
    refine ⟨_, rfl, x, 0, c0, rfl, rfl, hx.line, (atI_nat (j := 0) (by rw [hl]; rfl)), c0, _, rfl, rfl, _, rfl, ?_⟩
    have eh : headOk x.cps.toList = decide (c0 ∈ Mir.letters.cps.toList) := by rw [hl]; rfl
    refine iteB (fun ch => ?_) (fun ch => ?_)
    · rw [eh, ch, Bool.true_and] at q
      refine ⟨_, rfl, x, rfl, ?_⟩
      refine comp_map (signs x) (fun _ => true) (fun v => match v with | .str z => .bl (okSign (z.cps.toList.headD 0)) | _ => .bl false) jseq_str trivial ?_ ?_ ?_ ?_
      · unfold signs; rw [List.length_map, Array.length_toList]; exact hx.line
      · intro v hv H2 e2 Q' q'
        exact q' H2 (Same.refl _)
      · intro v hv _ H2 e2 Q' q'
        obtain ⟨cc, hcc, rfl⟩ := List.mem_map.mp hv
        have q'' := q' H2 (Same.refl _)
        refine ⟨_, rfl, cc, _, rfl, rfl, _, rfl, iteB (fun z => ?_) (fun z => ?_)⟩
        · have : okSign cc = true := by unfold okSign; rw [show decide (cc ∈ Mir.letters.cps.toList) = true from z]; rfl
          have q3 : Q' (.bl (okSign cc)) H2 := q''
          rw [this] at q3; exact q3
        · refine ⟨_, rfl, cc, _, rfl, rfl, ?_⟩
          have : okSign cc = decide (cc ∈ Mir.figures.cps.toList) := by unfold okSign; rw [show decide (cc ∈ Mir.letters.cps.toList) = false from z]; rfl
          have q3 : Q' (.bl (okSign cc)) H2 := q''
          rw [this] at q3; exact q3
      · intro D H' hD e' hd
        refine ⟨D, x.cps.toList.map okSign, rfl, SqL.of ?_, ?_⟩
        · rw [hd]
          congr 1
          congr 1
          unfold signs
          rw [List.filter_eq_self.mpr (fun _ _ => rfl), List.map_map, List.map_map]
          rfl
        · have e3 : (x.cps.toList.map okSign).all id = x.cps.toList.all okSign := by rw [List.all_map]; rfl
          rw [e3]
          exact q H' e'
    · rw [eh, ch] at q
      exact q H (Same.refl _)
end
end K4
namespace K4
open PySem L2 Mir
noncomputable abbrev sIsValue : Stmt := top 20
noncomputable abbrev sIsFact : Stmt := top 21
noncomputable abbrev sIsPart : Stmt := top 22
noncomputable def isFact (r : List Str) : Bool := decide (r.length = 3) && decide (r.headD "" ∈ [("is" : Str), "not"]) && (r.drop 1).all isValue
noncomputable def partLen (x : Str) : Option Nat := if x = "cell" then some 4 else if x = "stretch" then some 3 else if x = "tree" then some 2 else none
noncomputable def isPart : List Str → Bool
  | [] => false
  | k :: r => decide (partLen k = some (r.length + 1)) && (if k = "cell" then isValue (r.headD "") && (r.drop 1).all (fun w => decide (w = "any") || isValue w) else r.all isValue)
noncomputable def Shorts (r : List Str) : Prop := r.length ≤ 1000 ∧ ∀ x ∈ r, Short x
noncomputable def spRow (K : PySem.W.Frag) (f : List Str → Bool) : Sp := fun vs H Q _ => ∃ a r, vs = [.ref a] ∧ RowAt K H a r ∧ Shorts r ∧ ∀ H', Same H H' → Q (.bl (f r)) H'
section
variable {P : Program} {w : World} {K : PySem.W.Frag} {mg : Str → Option Value} {base : Heap} {f g : Addr} {fd gd : FuncData}
theorem scIsValue : FnScope ["text"] ["text"] (defScope sIsValue) := ⟨rfl, rfl, rfl, by decide +kernel, rfl, by decide +kernel, by decide +kernel⟩
theorem ok_isValue (C : Con K mg w) (F : Fun K "is_value" "is_value" sIsValue f fd) (G : FnOk P w K mg base CX0 1 g gd ["text"] (spB1 isName)) (bG : Binds K gd ["text"] []) (kG : PySem.W.keepIn K (.ref g) = true) (mG : mg "is_name" = some (.ref g)) :
    FnOk P w K mg base CX0 2 f fd ["text"] (spB1 isValue) := by
  refine F.ok scIsValue (fun vs H Q E h => ?_) (fun cdv A outer s H vs Q E hr h => ?_)
  · obtain ⟨x, rfl, _⟩ := h; rfl
  obtain ⟨x, rfl, hx, q⟩ := h
  refine ⟨_, pss_one (ps_ret (pe_or (pe_cmpR op_eq (pv 0) pe_str (nomark _)) (pe_one (pe_call G hr rfl mG kG bG .nil pass0 (pa_cons (pv 0) pa_nil))))), ?_⟩
  refine ⟨_, rfl, rfl, _, rfl, iteB (fun c => ?_) (fun c => ?_)⟩
  · have e : isValue x = true := by
      unfold isValue
      have : x = "nil" := by simpa using c
      rw [decide_eq_true this]; rfl
    rw [e] at q; exact q H (Same.refl _)
  · have e : isValue x = isName x := by
      unfold isValue
      have : ¬ x = "nil" := by simpa using c
      rw [decide_eq_false this]; rfl
    rw [e] at q
    exact ⟨_, rfl, x, rfl, hx, q⟩
theorem cut_row {r : List Str} {k : Nat} : cutV (r.map V.str) (some (k : Int)) none = (r.drop k).map V.str := by
  unfold cutV
  rw [HT.sIx_nat, HT.sIx_none, List.length_map]
  rw [List.map_drop.symm]
  by_cases h : k ≤ r.length
  · rw [Nat.min_eq_left h, List.take_of_length_le (by simp)]
  · rw [Nat.min_eq_right (by lia), Nat.sub_self, List.take_zero, List.drop_eq_nil_of_le (by lia)]; rfl
theorem all_strs {l : List Str} {p : Str → Bool} : ((l.map V.str).filter (fun _ => true)).map (fun v => match v with | .str z => V.bl (p z) | _ => V.bl false) = (l.map p).map V.bl := by
  rw [List.filter_eq_self.mpr (fun _ _ => rfl), List.map_map, List.map_map]; rfl
theorem scIsFact : FnScope ["row"] ["row"] (defScope sIsFact) := ⟨rfl, rfl, rfl, by decide +kernel, rfl, by decide +kernel, by decide +kernel⟩
theorem ok_isFact (C : Con K mg w) (F : Fun K "is_fact" "is_fact" sIsFact f fd) (G : FnOk P w K mg base CX0 2 g gd ["text"] (spB1 isValue)) (bG : Binds K gd ["text"] []) (kG : PySem.W.keepIn K (.ref g) = true) (mG : mg "is_value" = some (.ref g)) :
    FnOk P w K mg base CX0 3 f fd ["row"] (spRow K isFact) := by
  refine F.ok scIsFact (fun vs H Q E h => ?_) (fun cdv A outer s H vs Q E hr h => ?_)
  · obtain ⟨a, r, rfl, _⟩ := h; rfl
  obtain ⟨a, r, rfl, hr0, hs, q⟩ := h
  obtain ⟨aN, gN, tN⟩ := C.factWords
  refine ⟨_, pss_cons (ps_if (PW.pt (pw_or (pt_cmpR op_ne (pe_callB call_len_seq rfl C.len PySem.boot_len (pa_cons (pv 0) pa_nil)) (pe_g C.factLen) (nomark _))
      (pw_or1 (pt_cmpR op_notIn_seq (pe_ix ix_tup (pv 0) pe_int (fun _ _ => rfl)) (pe_g gN) (by with_unfolding_all rfl))))) (pss_one (ps_ret pe_bl)) pss_nil)
    (pss_one (ps_ret (pe_callB (call_all rfl) rfl C.all PyProof.Rows.boot_all (pa_cons (pe_comp0 (pi_tup (pe_slice sl_tup (pv 0) (po_some pe_int) po_none)) (fun _ _ _ _ => pts_nil)
        (fun _ _ _ _ => pe_call G hr rfl mG kG bG .nil pass0 (pa_cons (pv 0) pa_nil))) pa_nil)))), ?_⟩
  have hf : isFact r = false → Q (.bl false) H := fun e => by rw [← e]; exact q H (Same.refl H)
  refine ⟨_, rfl, a, _, rfl, .inr hr0, rfl, _, rfl, iteB (fun c => ?_) (fun c => ?_)⟩
  · refine hf ?_
    have : ¬ r.length = 3 := by
      have c' : (!decide (V.int (((r.map V.str).length : Nat) : Int) = V.int 3)) = true := c
      simp at c'; lia
    unfold isFact; rw [decide_eq_false this]; rfl
  have h3 : r.length = 3 := by
    have c' : (!decide (V.int (((r.map V.str).length : Nat) : Int) = V.int 3)) = false := c
    simp at c'; lia
  obtain ⟨k, r1, hr1⟩ : ∃ k r1, r = k :: r1 := by
    cases r with
    | nil => simp at h3
    | cons k r1 => exact ⟨k, r1, rfl⟩
  refine ⟨_, rfl, a, _, 0, .str k, rfl, rfl, hr0, atI_nat (j := 0) (by rw [hr1]; rfl), aN, _, rfl, .inr (tN _), rfl, flat_strs _, _, rfl, iteB (fun c2 => ?_) (fun c2 => ?_)⟩
  · refine hf ?_
    have c2' : (!inV (.str k) ([("is" : Str), "not"].map V.str)) = true := c2
    rw [inV_strs] at c2'
    unfold isFact
    rw [hr1]
    have : ¬ k ∈ [("is" : Str), "not"] := by simpa using c2'
    show (_ && decide (k ∈ [("is" : Str), "not"]) && _) = false
    rw [decide_eq_false this, Bool.and_false, Bool.false_and]
  have hk : k ∈ [("is" : Str), "not"] := by
    have c2' : (!inV (.str k) ([("is" : Str), "not"].map V.str)) = false := c2
    rw [inV_strs] at c2'
    exact of_decide_eq_true (by simpa only [Bool.not_eq_false'] using c2')
  have e : isFact r = (r.drop 1).all isValue := by
    unfold isFact
    rw [decide_eq_true h3]
    have : decide (r.headD "" ∈ [("is" : Str), "not"]) = true := by rw [hr1]; exact decide_eq_true hk
    rw [this]; rfl
  rw [e] at q
  refine ⟨_, rfl, _, rfl, a, _, rfl, hr0, ?_, fun p hp => ?_⟩
  · rw [List.length_map, h3]; decide
  have e1 : cutV (r.map V.str) (some 1) none = (r.drop 1).map V.str := cut_row (k := 1)
  rw [e1]
  have sm : Same H (upd H p (.tup ((r.drop 1).map V.str))) := same_new hp _
  refine ⟨p, rfl, ⟨_, SqT.of upd_same⟩, ?_⟩
  refine comp_map ((r.drop 1).map V.str) (fun _ => true) (fun v => match v with | .str z => .bl (isValue z) | _ => .bl false) jseq_tup (SqT.of upd_same) ?_ ?_ ?_ ?_
  · rw [List.length_map, List.length_drop, h3]; decide
  · intro v hv H2 e2 Q' q'
    exact q' H2 (Same.refl _)
  · intro v hv _ H2 e2 Q' q'
    obtain ⟨z, hz, rfl⟩ := List.mem_map.mp hv
    exact ⟨_, rfl, z, rfl, hs.2 z (List.mem_of_mem_drop hz), q'⟩
  · intro D H' hD e' hd
    rw [all_strs] at hd
    refine ⟨D, _, rfl, SqL.of hd, ?_⟩
    have e3 : ((r.drop 1).map isValue).all id = (r.drop 1).all isValue := by rw [List.all_map]; rfl
    rw [e3]
    exact q H' (sm.trans e')
theorem scIsPart : FnScope ["row"] ["row"] (defScope sIsPart) := ⟨rfl, rfl, rfl, by decide +kernel, rfl, by decide +kernel, by decide +kernel⟩
theorem partLen_dict (k : Str) : ((([("cell", V.int 4), ("stretch", V.int 3), ("tree", V.int 2)] : List (Str × V)).lookup k).getD .non) = match partLen k with | some n => V.int n | none => .non := by
  unfold partLen
  by_cases h1 : k = "cell"
  · subst h1; rfl
  by_cases h2 : k = "stretch"
  · subst h2; rfl
  by_cases h3 : k = "tree"
  · subst h3; rfl
  have b : ∀ x : Str, ¬ k = x → (k == x) = false := fun x h => beq_eq_false_iff_ne.mpr h
  rw [if_neg h1, if_neg h2, if_neg h3]
  rw [List.lookup_cons, b _ h1, List.lookup_cons, b _ h2, List.lookup_cons, b _ h3]
  rfl
theorem ok_isPart (C : Con K mg w) (F : Fun K "is_part" "is_part" sIsPart f fd) (G : FnOk P w K mg base CX0 2 g gd ["text"] (spB1 isValue)) (bG : Binds K gd ["text"] []) (kG : PySem.W.keepIn K (.ref g) = true) (mG : mg "is_value" = some (.ref g)) :
    FnOk P w K mg base CX0 3 f fd ["row"] (spRow K isPart) := by
  refine F.ok scIsPart (fun vs H Q E h => ?_) (fun cdv A outer s H vs Q E hr h => ?_)
  · obtain ⟨a, r, rfl, _⟩ := h; rfl
  obtain ⟨a, r, rfl, hr0, hs, q⟩ := h
  obtain ⟨aN, gN, tN⟩ := C.partLens
  refine ⟨_, pss_cons (ps_if (PW.pt (pw_or (pt_cmpR op_eq (pe_callB call_len_seq rfl C.len PySem.boot_len (pa_cons (pv 0) pa_nil)) pe_int (nomark _))
      (pw_or1 (pt_cmpR op_ne (pe_callB call_len_seq rfl C.len PySem.boot_len (pa_cons (pv 0) pa_nil)) (pe_kget (pe_g gN) (pa_cons (pe_ix ix_tup (pv 0) pe_int (fun _ _ => rfl)) pa_nil)) (nomark _))))) (pss_one (ps_ret pe_bl)) pss_nil)
    (pss_cons (ps_if (pt_cmpR op_eq (pe_ix ix_tup (pv 0) pe_int (fun _ _ => rfl)) pe_str (nomark _))
      (pss_one (ps_ret (pe_and (pe_call G hr rfl mG kG bG .nil pass0 (pa_cons (pe_ix ix_tup (pv 0) pe_int (fun _ _ => rfl)) pa_nil))
        (pe_one (pe_callB (call_all rfl) rfl C.all PyProof.Rows.boot_all (pa_cons (pe_comp0 (pi_tup (pe_slice sl_tup (pv 0) (po_some pe_int) po_none)) (fun _ _ _ _ => pts_nil)
          (fun _ _ _ _ => pe_or (pe_cmpR op_eq (pv 0) pe_str (nomark _)) (pe_one (pe_call G hr rfl mG kG bG .nil pass0 (pa_cons (pv 0) pa_nil))))) pa_nil)))))) pss_nil)
    (pss_one (ps_ret (pe_callB (call_all rfl) rfl C.all PyProof.Rows.boot_all (pa_cons (pe_comp0 (pi_tup (pe_slice sl_tup (pv 0) (po_some pe_int) po_none)) (fun _ _ _ _ => pts_nil)
        (fun _ _ _ _ => pe_call G hr rfl mG kG bG .nil pass0 (pa_cons (pv 0) pa_nil))) pa_nil))))), ?_⟩
  have hf : isPart r = false → Q (.bl false) H := fun e => by rw [← e]; exact q H (Same.refl H)
  refine ⟨_, rfl, a, _, rfl, .inr hr0, rfl, _, rfl, iteB (fun c => ?_) (fun c => ?_)⟩
  · have : r = [] := by
      have c' : decide (V.int (((r.map V.str).length : Nat) : Int) = V.int 0) = true := c
      simp at c'; exact c'
    exact hf (by rw [this]; rfl)
  obtain ⟨k, r1, hr1⟩ : ∃ k r1, r = k :: r1 := by
    cases r with
    | nil =>
      exfalso
      have c' : decide (V.int (((([] : List Str).map V.str).length : Nat) : Int) = V.int 0) = false := c
      simp at c'
    | cons k r1 => exact ⟨k, r1, rfl⟩
  have at0 : atI (r.map V.str) 0 = some (.str k) := atI_nat (j := 0) (by rw [hr1]; rfl)
  have eP : isPart r = (decide (partLen k = some (r1.length + 1)) && (if k = "cell" then isValue (r1.headD "") && (r1.drop 1).all (fun w => decide (w = "any") || isValue w) else r1.all isValue)) := by rw [hr1]; rfl
  have hlen : r.length = r1.length + 1 := by rw [hr1]; rfl
  refine ⟨_, rfl, a, _, rfl, .inr hr0, aN, _, rfl, tN, _, rfl, a, _, 0, .str k, rfl, rfl, hr0, at0, k, rfl, ?_⟩
  have sc : scal (.int (((r.map V.str).length : Nat) : Int)) ((([("cell", V.int 4), ("stretch", V.int 3), ("tree", V.int 2)] : List (Str × V)).lookup k).getD .non) = true := by
    rw [partLen_dict]
    cases partLen k <;> rfl
  have eqd : decide (V.int (((r.map V.str).length : Nat) : Int) = ((([("cell", V.int 4), ("stretch", V.int 3), ("tree", V.int 2)] : List (Str × V)).lookup k).getD .non)) = decide (partLen k = some (r1.length + 1)) := by
    rw [partLen_dict, List.length_map, hlen]
    cases partLen k with
    | none => simp
    | some n =>
      rw [Bool.eq_iff_iff]
      simp only [decide_eq_true_eq, V.int.injEq, Option.some.injEq]
      lia
  refine ⟨sc, _, rfl, iteB (fun c2 => ?_) (fun c2 => ?_)⟩
  · have c2' : (!decide (partLen k = some (r1.length + 1))) = true := by rw [← eqd]; exact c2
    refine hf ?_
    rw [eP]
    have : decide (partLen k = some (r1.length + 1)) = false := by simpa using c2'
    rw [this]; rfl
  have c2' : decide (partLen k = some (r1.length + 1)) = true := by
    have c2' : (!decide (partLen k = some (r1.length + 1))) = false := by rw [← eqd]; exact c2
    simpa using c2'
  have hpl : partLen k = some (r1.length + 1) := of_decide_eq_true c2'
  rw [c2', Bool.true_and] at eP
  refine ⟨_, rfl, a, _, 0, .str k, rfl, rfl, hr0, at0, rfl, _, rfl, iteB (fun c3 => ?_) (fun c3 => ?_)⟩
  · -- a cell
    have hk : k = "cell" := by simpa using c3
    rw [if_pos hk] at eP
    have h4 : r1.length = 3 := by rw [hk] at hpl; have : (4 : Nat) = r1.length + 1 := Option.some.inj hpl; lia
    obtain ⟨x1, r2, hr2⟩ : ∃ x1 r2, r1 = x1 :: r2 := by
      cases r1 with
      | nil => simp at h4
      | cons x1 r2 => exact ⟨x1, r2, rfl⟩
    have at1 : atI (r.map V.str) 1 = some (.str x1) := atI_nat (j := 1) (by rw [hr1, hr2]; rfl)
    have hx1 : Short x1 := hs.2 x1 (by rw [hr1, hr2]; simp)
    have ed : r.drop 2 = r2 := by rw [hr1, hr2]; rfl
    rw [hr2] at eP
    refine ⟨_, rfl, a, _, 1, .str x1, rfl, rfl, hr0, at1, x1, rfl, hx1, fun H1 e1 => ⟨_, rfl, iteB (fun cv => ?_) (fun cv => ?_)⟩⟩
    · have eP' : isPart r = r2.all (fun w => decide (w = "any") || isValue w) := by
        rw [eP]
        show (isValue x1 && _) = _
        rw [cv]; rfl
      rw [eP'] at q
      refine ⟨_, rfl, _, rfl, a, _, rfl, hr0.same e1, ?_, fun p hp => ?_⟩
      · rw [List.length_map, hlen, h4]; decide
      have e2 : cutV (r.map V.str) (some 2) none = r2.map V.str := by rw [← ed]; exact cut_row (k := 2)
      rw [e2]
      have sm : Same H (upd H1 p (.tup (r2.map V.str))) := e1.trans (same_new hp _)
      refine ⟨p, rfl, ⟨_, SqT.of upd_same⟩, ?_⟩
      refine comp_map (r2.map V.str) (fun _ => true) (fun v => match v with | .str z => .bl (decide (z = "any") || isValue z) | _ => .bl false) jseq_tup (SqT.of upd_same) ?_ ?_ ?_ ?_
      · rw [List.length_map]
        have : r2.length ≤ 1000 := by have := hs.1; rw [hr1, hr2] at this; simp at this; lia
        exact Nat.le_of_lt (small1000 this)
      · intro v hv H2 e2 Q' q'
        exact q' H2 (Same.refl _)
      · intro v hv _ H2 e2 Q' q'
        obtain ⟨z, hz, rfl⟩ := List.mem_map.mp hv
        refine ⟨_, rfl, rfl, _, rfl, iteB (fun ca => ?_) (fun ca => ?_)⟩
        · have : z = "any" := by simpa using ca
          have q3 : Q' (.bl (decide (z = "any") || isValue z)) H2 := q' H2 (Same.refl _)
          rw [decide_eq_true this] at q3; exact q3
        · have : ¬ z = "any" := by simpa using ca
          refine ⟨_, rfl, z, rfl, hs.2 z (by rw [hr1, hr2]; simp [hz]), fun H3 e3 => ?_⟩
          have q3 : Q' (.bl (decide (z = "any") || isValue z)) H3 := q' H3 e3
          rw [decide_eq_false this] at q3; exact q3
      · intro D H' hD e' hd
        rw [all_strs (p := fun z : Str => decide (z = "any") || isValue z)] at hd
        refine ⟨D, _, rfl, SqL.of hd, ?_⟩
        have e3 : (r2.map (fun z : Str => decide (z = "any") || isValue z)).all id = r2.all (fun w => decide (w = "any") || isValue w) := by rw [List.all_map]; rfl
        rw [e3]
        exact q H' (sm.trans e')
    · have eP' : isPart r = false := by
        rw [eP]
        show (isValue x1 && _) = _
        rw [cv]; rfl
      rw [eP'] at q
      exact q H1 e1
  · have hk : ¬ k = "cell" := by simpa using c3
    rw [if_neg hk] at eP
    rw [eP] at q
    have h1 : 1 ≤ r1.length := by
      unfold partLen at hpl
      rw [if_neg hk] at hpl
      split at hpl
      · have : (3 : Nat) = r1.length + 1 := Option.some.inj hpl; lia
      · split at hpl
        · have : (2 : Nat) = r1.length + 1 := Option.some.inj hpl; lia
        · cases hpl
    refine ⟨_, rfl, _, rfl, a, _, rfl, hr0, ?_, fun p hp => ?_⟩
    · rw [List.length_map, hlen, show (some (1 : Int)) = some ((1 : Nat) : Int) from rfl, HT.sIx_nat]
      lia
    have ed : r.drop 1 = r1 := by rw [hr1]; rfl
    have e2 : cutV (r.map V.str) (some 1) none = r1.map V.str := by rw [← ed]; exact cut_row (k := 1)
    rw [e2]
    have sm : Same H (upd H p (.tup (r1.map V.str))) := same_new hp _
    refine ⟨p, rfl, ⟨_, SqT.of upd_same⟩, ?_⟩
    refine comp_map (r1.map V.str) (fun _ => true) (fun v => match v with | .str z => .bl (isValue z) | _ => .bl false) jseq_tup (SqT.of upd_same) ?_ ?_ ?_ ?_
    · rw [List.length_map]
      have : r1.length ≤ 1000 := by have := hs.1; lia
      exact Nat.le_of_lt (small1000 this)
    · intro v hv H2 e2 Q' q'
      exact q' H2 (Same.refl _)
    · intro v hv _ H2 e2 Q' q'
      obtain ⟨z, hz, rfl⟩ := List.mem_map.mp hv
      exact ⟨_, rfl, z, rfl, hs.2 z (by rw [hr1]; simp [hz]), q'⟩
    · intro D H' hD e' hd
      rw [all_strs] at hd
      refine ⟨D, _, rfl, SqL.of hd, ?_⟩
      have e3 : (r1.map isValue).all id = r1.all isValue := by rw [List.all_map]; rfl
      rw [e3]
      exact q H' (sm.trans e')
end
end K4
namespace K4
open PySem L2 Mir
noncomputable abbrev sAreRows : Stmt := top 23
noncomputable abbrev sIsTelling : Stmt := top 24
noncomputable abbrev sCheck : Stmt := top 25
noncomputable abbrev sNamesOf : Stmt := top 26
noncomputable def ShortRows (rs : List (List Str)) : Prop := rs.length ≤ 200 ∧ ∀ r ∈ rs, r.length ≤ 5 ∧ ∀ x ∈ r, Short x
noncomputable def LongRows (rs : List (List Str)) : Prop := rs.length ≤ 1000 ∧ ∀ r ∈ rs, r.length ≤ 1000 ∧ ∀ x ∈ r, Short x
theorem LongRows.row {rs : List (List Str)} (h : LongRows rs) {r : List Str} (hr : r ∈ rs) : Shorts r := ⟨(h.2 r hr).1, (h.2 r hr).2⟩
theorem ShortRows.long {rs : List (List Str)} (h : ShortRows rs) : LongRows rs := ⟨Nat.le_trans h.1 (by decide), fun r hr => ⟨by have := (h.2 r hr).1; lia, (h.2 r hr).2⟩⟩
theorem ShortRows.row {rs : List (List Str)} (h : ShortRows rs) {r : List Str} (hr : r ∈ rs) : Shorts r := ⟨by have := (h.2 r hr).1; lia, (h.2 r hr).2⟩
noncomputable def spRows (K : PySem.W.Frag) : Sp := fun vs H Q _ => ∃ a rs, vs = [.ref a] ∧ RowsAt K H a rs ∧ LongRows rs ∧ ∀ H', Same H H' → Q (.bl true) H'
theorem Paired.nth {α β : Type} {F : α → β → Prop} : ∀ {l₁ : List α} {l₂ : List β} {i : Nat} {a : α}, Paired F l₁ l₂ → l₁[i]? = some a → ∃ b, l₂[i]? = some b ∧ F a b
  | _, _, _, _, .nil, e => by simp at e
  | _, _, 0, _, .cons h _, e => by simp at e; subst e; exact ⟨_, rfl, h⟩
  | _, _, i + 1, _, .cons _ t, e => by
    obtain ⟨b, e1, e2⟩ := Paired.nth (i := i) t (by simpa using e)
    exact ⟨b, by simpa using e1, e2⟩
section
variable {P : Program} {w : World} {K : PySem.W.Frag} {mg : Str → Option Value} {base : Heap} {f g : Addr} {fd gd : FuncData}
theorem gty {X : Cx} {x : Str} {n : String} {pos : Pos} (hm : X.mg x = none) (hv : bootBuiltins x = some (.type n)) (hg : Gl X x := by rfl) (hn : x ≠ "__name__" := by decide) (hdb : (x == ("__debug__" : Str)) = false := by decide) : PE X (.Name x pos) (tC (.ty n)) := pe_bltn hg hm hv rfl hn hdb
theorem scAreRows : FnScope ["rows", "row"] ["rows"] (defScope sAreRows) := ⟨rfl, rfl, rfl, by decide +kernel, rfl, by decide +kernel, by decide +kernel⟩
theorem ok_areRows (C : Con K mg w) (F : Fun K "are_rows" "are_rows" sAreRows f fd) : FnOk P w K mg base CX0 1 f fd ["rows"] (spRows K) := by
  refine F.ok scAreRows (fun vs H Q E h => ?_) (fun cdv A outer s H vs Q E hr h => ?_)
  · obtain ⟨a, rs, rfl, _⟩ := h; rfl
  obtain ⟨a, rs, rfl, hr0, hs, q⟩ := h
  obtain ⟨as, h1, h2⟩ := id hr0
  refine ⟨_, pss_cons (ps_if (pt_not (pt_val (pe_callB call_isi_list rfl C.isi PyProof.Rows.boot_isinstance (pa_cons (pv 0) (pa_cons (gty C.list PyProof.Rows.boot_list) pa_nil))))) (pss_one (ps_ret pe_bl)) pss_nil)
    (pss_cons (ps_for PassesOwn.never rfl (pi_list (pv 0)) (pg_name (i := 1) scAreRows.nd rfl (Or.inl rfl))
      (pss_one (ps_if (PW.pt (pw_or (pt_not (pt_val (pe_callB call_isi_tuple rfl C.isi PyProof.Rows.boot_isinstance (pa_cons (pv 1) (pa_cons (gty C.tuple PyProof.Rows.boot_tuple) pa_nil)))))
        (pw_or1 (pt_not (pt_val (pe_callB (call_all rfl) rfl C.all PyProof.Rows.boot_all (pa_cons (pe_comp0 (pi_tup (pv 1)) (fun _ _ _ _ => pts_nil)
          (fun _ _ _ _ => pe_callB call_isi_str rfl C.isi PyProof.Rows.boot_isinstance (pa_cons (pv 0) (pa_cons (gty C.str PyProof.Rows.boot_str) pa_nil)))) pa_nil))))))) (pss_one (ps_ret pe_bl)) pss_nil)))
      (pss_one (ps_ret pe_bl))), ?_⟩
  refine ⟨_, rfl, a, _, rfl, SqL.of h1, _, rfl, iteF ?_⟩
  refine ⟨_, rfl, a, rfl, ⟨_, SqL.of h1⟩, ?_⟩
  refine for_list (xs := as.map V.ref) (fun i σ H' => Same H H' ∧ ∃ z, σ = [some (.ref a), z]) ⟨Same.refl _, _, rfl⟩ (fun i σ H' _ p => p.1.seq (SqL.of h1)) ?_ ?_
  · rintro i v σ H' hi ⟨e, z, rfl⟩
    rw [List.getElem?_map] at hi
    cases hb : as[i]? with
    | none => rw [hb] at hi; cases hi
    | some b =>
      rw [hb] at hi
      have hv : v = .ref b := (Option.some.inj hi).symm
      subst hv
      obtain ⟨r, hr1, hr2⟩ := Paired.nth h2 hb
      have hrow : RowAt K H' b r := hr2.same e
      refine ⟨_, rfl, b, _, rfl, hrow, _, rfl, iteF ?_⟩
      refine ⟨_, rfl, b, rfl, ⟨_, hrow⟩, ?_⟩
      refine comp_all (r.map V.str) r (fun _ => true) jseq_tup hrow ?_ (by simp) ?_ ?_
      · rw [List.length_map]
        have := (hs.2 r (List.mem_of_getElem? hr1)).1
        lia
      · intro i x z hx hz H2 e2 Q' q'
        cases str_at hx hz
        exact ⟨_, rfl, z, rfl, q' H2 (Same.refl _)⟩
      · intro D H2 hD e' hd
        refine ⟨D, _, rfl, SqL.of hd, ?_⟩
        rw [all_id, show r.all (fun _ => true) = true by simp]
        exact ⟨_, rfl, iteF ⟨e.trans e', _, rfl⟩⟩
  · rintro σ H' ⟨e, z, rfl⟩
    exact q H' e
end
end K4
namespace K4
open PySem PySem.Spec L2 Mir
noncomputable def rowWords (r : List Str) : List Str := (r.drop 1).filter fun x => !decide (x ∈ Mir.noNames)
noncomputable def words (rs : List (List Str)) : List Str := (rs.map rowWords).flatten
theorem words_app (a b : List (List Str)) : words (a ++ b) = words a ++ words b := by unfold words; rw [List.map_append, List.flatten_append]
theorem words_snoc (a : List (List Str)) (r : List Str) : words (a ++ [r]) = words a ++ rowWords r := by rw [words_app]; unfold words; simp
theorem words_len : ∀ {rs : List (List Str)} {m : Nat}, (∀ r ∈ rs, r.length ≤ m) → (words rs).length ≤ rs.length * m
  | [], m, _ => by simp [words]
  | r :: rs, m, h => by
    have h1 := words_len (rs := rs) (m := m) (fun x hx => h x (List.mem_cons_of_mem _ hx))
    have h2 : (rowWords r).length ≤ m := by
      unfold rowWords
      have := List.length_filter_le (fun x => !decide (x ∈ Mir.noNames)) (r.drop 1)
      have := h r (List.mem_cons_self ..)
      have e := List.length_drop (i := 1) (l := r)
      lia
    have e : words (r :: rs) = rowWords r ++ words rs := by simp [words]
    rw [e, List.length_append, List.length_cons, Nat.succ_mul]
    lia
theorem Paired.app {α β : Type} {F : α → β → Prop} : ∀ {l₁ : List α} {l₂ : List β} {m₁ : List α} {m₂ : List β}, Paired F l₁ l₂ → Paired F m₁ m₂ → Paired F (l₁ ++ m₁) (l₂ ++ m₂)
  | _, _, _, _, .nil, h => h
  | _, _, _, _, .cons h t, h2 => .cons h (Paired.app t h2)
inductive spNamesS (K : PySem.W.Frag) (vs : List V) (H : Hp) (Q : VK) : Prop
  | mk (a : Addr) (fs ps : List (List Str)) (h0 : vs = [.ref a]) (h1 : TellAt K H a [fs, ps]) (h2 : ShortRows fs) (h3 : ShortRows ps) (h4 : (∀ r ∈ fs ++ ps, r ≠ [])) (h5 : (∀ ss : List Str, ss.Nodup → (∀ y ∈ ss, y ∈ words (fs ++ ps)) → ss.length < 64)) (h6 : ∀ (p : Addr) (zs : List Str) (H' : Hp), H p = none → Same H H' → H' p = some (.lst (zs.map V.str)) → zs.Nodup → (∀ y, y ∈ zs ↔ y ∈ words (fs ++ ps)) → PyProof.Rows.sortedS zs = true → Q (.ref p) H') : spNamesS K vs H Q
noncomputable def spNames (K : PySem.W.Frag) : Sp := fun vs H Q _ => spNamesS K vs H Q
section
variable {P : Program} {w : World} {K : PySem.W.Frag} {mg : Str → Option Value} {base : Heap} {f g : Addr} {fd gd : FuncData}
theorem scNamesOf : FnScope ["telling", "names", "row"] ["telling"] (defScope sNamesOf) := ⟨rfl, rfl, rfl, by decide +kernel, rfl, by decide +kernel, by decide +kernel⟩
theorem ok_namesOf (C : Con K mg w) (F : Fun K "names_of" "names_of" sNamesOf f fd) : FnOk P w K mg base CX0 1 f fd ["telling"] (spNames K) := by
  refine F.ok scNamesOf (fun vs H Q E h => ?_) (fun cdv A outer s H vs Q E hr h => ?_)
  · obtain ⟨a, fs, ps, rfl, _⟩ := h; rfl
  obtain ⟨a, fs, ps, rfl, ht, hf, hp, hne, h64, q⟩ := h
  obtain ⟨aN, gN, tN⟩ := C.noNames
  obtain ⟨as, t1, t2⟩ := ht
  cases t2 with
  | @cons fa _ _ _ t3 t4 =>
  cases t4 with
  | @cons pa _ _ _ t5 t6 =>
  cases t6
  obtain ⟨fas, f1, f2⟩ := t3
  obtain ⟨pas, p1, p2⟩ := t5
  refine ⟨_, pss_cons (ps_set scNamesOf.nd (i := 1) rfl (Or.inl rfl) (pe_lst pa_nil))
    (pss_cons (ps_for PassesOwn.never rfl (pi_list (pe_op op_cat (pe_ix ix_tup (pv 0) pe_int (fun _ _ => rfl)) (pe_ix ix_tup (pv 0) pe_int (fun _ _ => rfl)))) (pg_name (i := 2) scNamesOf.nd rfl (Or.inl rfl))
      (pss_one (ps_expr (pe_bm PySem.F.plainAttrs_list PySem.F.slot_list_extend PySem.F.type_list_extend mt_extend (pv 1)
        (pa_cons (pe_comp0 (pi_tup (pe_slice sl_tup (pv 2) (po_some pe_int) po_none)) (fun _ _ _ _ => pts_one (pt_cmpR (show OpR _ _ (rIn K true) from op_notIn_seq) (pv 0) (pe_g gN) (by with_unfolding_all rfl))) (fun _ _ _ _ => pv 0)) pa_nil)))))
      (pss_one (ps_ret (pe_callB (call_sorted_set rfl) rfl C.sorted PyProof.Rows.boot_sorted (pa_cons (pe_callTy (call_set rfl) rfl C.set PyProof.Rows.boot_set (pa_cons (pv 1) pa_nil)) pa_nil))))), ?_⟩
  refine ⟨Nat.zero_le _, fun n hn => ?_⟩
  have s1 : Same H (upd H n (.lst [])) := same_new hn _
  have fl : fas.length = fs.length := Paired.length f2
  have pl : pas.length = ps.length := Paired.length p2
  have b1 := hf.1
  have b2 := hp.1
  refine ⟨_, rfl, a, _, 0, .ref fa, rfl, rfl, s1.seqT t1, rfl, _, rfl, a, _, 1, .ref pa, rfl, rfl, s1.seqT t1, rfl, ?_⟩
  refine ⟨fa, pa, _, _, rfl, rfl, s1 _ _ f1, s1 _ _ p1, ?_, fun c hc => ?_⟩
  · rw [List.length_map, List.length_map]; exact Nat.le_of_lt (small1000 (by lia))
  have hcn : c ≠ n := fun e => by rw [e, upd_same] at hc; cases hc
  rw [← List.map_append]
  have s2 := same_new hc (.lst ((fas ++ pas).map V.ref))
  refine ⟨c, rfl, ⟨_, SqL.of upd_same⟩, ?_⟩
  have pr : Paired (fun b r => RowAt K H b r) (fas ++ pas) (fs ++ ps) := Paired.app f2 p2
  have pl2 : (fas ++ pas).length = (fs ++ ps).length := Paired.length pr
  have hall : ∀ r ∈ fs ++ ps, r.length ≤ 5 := fun r hr => by
    rcases List.mem_append.mp hr with h | h
    · exact (hf.2 r h).1
    · exact (hp.2 r h).1
  refine for_list (xs := (fas ++ pas).map V.ref) (fun i σ H' => Same H H' ∧ H' c = some (.lst ((fas ++ pas).map V.ref)) ∧ H' n = some (.lst ((words ((fs ++ ps).take i)).map V.str)) ∧ ∃ z, σ = [some (.ref a), some (.ref n), z]) ⟨s1.trans s2, upd_same, ?_, _, rfl⟩ (fun i σ H' _ p => SqL.of p.2.1) ?_ ?_
  · rw [upd_ne (Ne.symm hcn), upd_same]; rfl
  · rintro i v σ H' hi ⟨e, hc', hn', z, rfl⟩
    rw [List.getElem?_map] at hi
    cases hb : (fas ++ pas)[i]? with
    | none => rw [hb] at hi; cases hi
    | some b =>
      rw [hb] at hi
      have hv : v = .ref b := (Option.some.inj hi).symm
      subst hv
      obtain ⟨r, hr1, hr2⟩ := Paired.nth pr hb
      have hrm : r ∈ fs ++ ps := List.mem_of_getElem? hr1
      have hrow : RowAt K H' b r := hr2.same e
      have hr5 := hall r hrm
      have hr0 : r.length ≠ 0 := fun h => hne r hrm (List.length_eq_zero_iff.mp h)
      refine ⟨_, rfl, .inl ⟨rfl, _, SqL.of hn'⟩, _, rfl, _, rfl, b, _, rfl, hrow, ?_, fun t hT => ?_⟩
      · rw [List.length_map, show (some (1 : Int)) = some ((1 : Nat) : Int) from rfl, HT.sIx_nat]; lia
      have e1 : cutV (r.map V.str) (some 1) none = (r.drop 1).map V.str := cut_row (k := 1)
      rw [e1]
      have s3 : Same H' (upd H' t (.tup ((r.drop 1).map V.str))) := same_new hT _
      refine ⟨t, rfl, ⟨_, SqT.of upd_same⟩, ?_⟩
      refine comp_map ((r.drop 1).map V.str) (fun v => !inV v (Mir.noNames.map V.str)) id jseq_tup (SqT.of upd_same) ?_ ?_ ?_ ?_
      · rw [List.length_map, List.length_drop]; exact Nat.le_of_lt (small1000 (by lia))
      · intro v hv H2 e2 Q' q'
        obtain ⟨y, hy, rfl⟩ := List.mem_map.mp hv
        exact ⟨_, rfl, aN, _, rfl, .inr (tN _), rfl, flat_strs _, _, rfl, q' H2 (Same.refl _)⟩
      · intro v hv hpv H2 e2 Q' q'
        obtain ⟨y, hy, rfl⟩ := List.mem_map.mp hv
        exact ⟨_, rfl, q' H2 (Same.refl _)⟩
      · intro D H2 hD e' hd
        have hw : (((r.drop 1).map V.str).filter (fun v => !inV v (Mir.noNames.map V.str))).map id = (rowWords r).map V.str := by
          rw [List.map_id, List.filter_map]
          unfold rowWords
          congr 1
          apply List.filter_congr
          intro x _
          show (!inV (.str x) (Mir.noNames.map V.str)) = _
          rw [inV_strs]
        rw [hw] at hd
        have s4 : Same H H2 := (e.trans s3).trans e'
        have ht1 : (fs ++ ps).take (i + 1) = (fs ++ ps).take i ++ [r] := by rw [List.take_add_one, hr1]; rfl
        have wl := words_len hall
        have wl2 : (words ((fs ++ ps).take i)).length ≤ 200 * 5 + 200 * 5 := by
          have h1 := words_len (rs := (fs ++ ps).take i) (m := 5) (fun r hr => hall r (List.mem_of_mem_take hr))
          have h2 := List.length_take_le' i (fs ++ ps)
          rw [List.length_append] at h2
          lia
        have wl3 : (rowWords r).length ≤ 5 := by
          unfold rowWords
          have h1 := List.length_filter_le (fun x => !decide (x ∈ Mir.noNames)) (r.drop 1)
          have h2 := List.length_drop (i := 1) (l := r)
          lia
        refine ⟨n, D, _, _, rfl, rfl, e' _ _ (s3 _ _ hn'), hd, ?_, ?_⟩
        · rw [List.length_map, List.length_map]
          exact Nat.le_trans (by lia) (show (2005 : Nat) ≤ sizeLine by decide)
        refine ⟨fun b' u q' => ?_, ?_, ?_, _, rfl⟩
        · rw [upd_ne (ne_of_none q' hn)]; exact s4 _ _ q'
        · rw [upd_ne hcn]; exact e' _ _ (s3 _ _ hc')
        · rw [upd_same, ht1, words_snoc, List.map_append]
  · rintro σ H' ⟨e, hc', hn', z, rfl⟩
    rw [List.length_map, pl2, List.take_length] at hn'
    refine ⟨_, rfl, n, _, rfl, SqL.of hn', ?_, fun S ss hS hd => ?_⟩
    · have wl := words_len hall
      rw [List.length_append] at wl
      show _ < 4096
      lia
    have s5 := same_new hS (SetO P w S ss)
    refine ⟨S, ss, rfl, upd_same, h64 ss hd.nodup (fun y hy => (hd.mem y).mp hy), fun p zs hp' hzs hso => ?_⟩
    have s6 := same_new hp' (.lst (zs.map V.str))
    refine q p zs _ ?_ (e.trans (s5.trans s6)) upd_same (hzs.nodup_iff.mpr hd.nodup) (fun y => (hzs.mem_iff).trans (hd.mem y)) hso
    cases hH : H p with
    | none => rfl
    | some u => exact nomatch (s5 _ _ (e _ _ hH)).symm.trans hp'
end
end K4
namespace K4
open PySem PySem.Spec L2 Mir
structure Cal (K : PySem.W.Frag) (mg : Str → Option Value) (x : Str) (f : Addr) (fd : FuncData) (ps : List Str) : Prop where
  name : mg x = some (.ref f)
  keep : PySem.W.keepIn K (.ref f) = true
  bind : Binds K fd ps []
noncomputable def Few (rs : List (List Str)) : Prop := ∃ zs : List Str, zs.Nodup ∧ (∀ y, y ∈ zs ↔ y ∈ words rs) ∧ zs.length ≤ 8
noncomputable def IsTelling : List (List (List Str)) → Prop
  | [fs, ps] => fs.length ≤ 8 ∧ ps.length ≤ 6 ∧ fs.all isFact = true ∧ ps.all isPart = true ∧ Few (fs ++ ps)
  | _ => False
noncomputable def isTelling (rss : List (List (List Str))) : Bool := @decide (IsTelling rss) (Classical.propDecidable _)
theorem isTelling_yes {rss : List (List (List Str))} (h : IsTelling rss) : isTelling rss = true := by unfold isTelling; exact @decide_eq_true _ (Classical.propDecidable _) h
theorem isTelling_no {rss : List (List (List Str))} (h : ¬ IsTelling rss) : isTelling rss = false := by unfold isTelling; exact @decide_eq_false _ (Classical.propDecidable _) h
theorem few_of {rs : List (List Str)} {zs : List Str} (hn : zs.Nodup) (hm : ∀ y, y ∈ zs ↔ y ∈ words rs) : Few rs ↔ zs.length ≤ 8 := by
  constructor
  · rintro ⟨ys, h1, h2, h3⟩
    have := ((List.perm_ext_iff_of_nodup hn h1).mpr fun a => (hm a).trans (h2 a).symm).length_eq
    lia
  · exact fun h => ⟨zs, hn, hm, h⟩
theorem isFact_len {r : List Str} (h : isFact r = true) : r.length = 3 := by
  unfold isFact at h
  simp only [Bool.and_eq_true, decide_eq_true_eq] at h
  exact h.1.1
theorem isPart_len {r : List Str} (h : isPart r = true) : 2 ≤ r.length ∧ r.length ≤ 4 := by
  cases r with
  | nil => cases h
  | cons k r =>
    unfold isPart at h
    simp only [Bool.and_eq_true, decide_eq_true_eq] at h
    have h1 := h.1
    unfold partLen at h1
    rw [List.length_cons]
    split at h1
    · have := Option.some.inj h1; lia
    · split at h1
      · have := Option.some.inj h1; lia
      · split at h1
        · have := Option.some.inj h1; lia
        · cases h1
noncomputable def ShortTell (rss : List (List (List Str))) : Prop := rss.length ≤ 1000 ∧ ∀ rs ∈ rss, LongRows rs
noncomputable def spTell (K : PySem.W.Frag) (f : List (List (List Str)) → Bool) : Sp := fun vs H Q _ => ∃ a rss, vs = [.ref a] ∧ TellAt K H a rss ∧ ShortTell rss ∧ ∀ H', Same H H' → Q (.bl (f rss)) H'
theorem ref_at {l : List Addr} {i : Nat} {x : V} (hx : (l.map V.ref)[i]? = some x) : ∃ a, l[i]? = some a ∧ x = .ref a := by
  rw [List.getElem?_map] at hx
  cases h : l[i]? with
  | none => rw [h] at hx; cases hx
  | some a => rw [h] at hx; exact ⟨a, rfl, (Option.some.inj hx).symm⟩
theorem Paired.at2 {α β : Type} {F : α → β → Prop} {l₁ : List α} {l₂ : List β} {i : Nat} {a : α} {b : β} (h : Paired F l₁ l₂) (h1 : l₁[i]? = some a) (h2 : l₂[i]? = some b) : F a b := by
  obtain ⟨b', e1, e2⟩ := Paired.nth h h1
  rw [h2] at e1
  cases e1
  exact e2
section
variable {P : Program} {w : World} {K : PySem.W.Frag} {mg : Str → Option Value} {base : Heap} {f gA gF gP gN : Addr} {fd dA dF dP dN : FuncData}
theorem scIsTelling : FnScope ["telling"] ["telling"] (defScope sIsTelling) := ⟨rfl, rfl, rfl, by decide +kernel, rfl, by decide +kernel, by decide +kernel⟩
theorem ok_isTelling (C : Con K mg w) (F : Fun K "is_telling" "is_telling" sIsTelling f fd) (GA : FnOk P w K mg base CX0 1 gA dA ["rows"] (spRows K)) (cA : Cal K mg "are_rows" gA dA ["rows"])
    (GF : FnOk P w K mg base CX0 3 gF dF ["row"] (spRow K isFact)) (cF : Cal K mg "is_fact" gF dF ["row"]) (GP : FnOk P w K mg base CX0 3 gP dP ["row"] (spRow K isPart)) (cP : Cal K mg "is_part" gP dP ["row"])
    (GN : FnOk P w K mg base CX0 1 gN dN ["telling"] (spNames K)) (cN : Cal K mg "names_of" gN dN ["telling"]) : FnOk P w K mg base CX0 4 f fd ["telling"] (spTell K isTelling) := by
  refine F.ok scIsTelling (fun vs H Q E h => ?_) (fun cdv A outer s H vs Q E hr h => ?_)
  · obtain ⟨a, rss, rfl, _⟩ := h; rfl
  obtain ⟨a, rss, rfl, ht, hs, q⟩ := h
  have hr1 := hr.mono (j := 1) (by lia)
  refine ⟨_, pss_cons (ps_if (PW.pt (pw_or (pt_not (pt_val (pe_callB call_isi_tuple rfl C.isi PyProof.Rows.boot_isinstance (pa_cons (pv 0) (pa_cons (gty C.tuple PyProof.Rows.boot_tuple) pa_nil)))))
      (pw_or1 (pt_cmpR op_ne (pe_callB call_len_seq rfl C.len PySem.boot_len (pa_cons (pv 0) pa_nil)) pe_int (nomark _))))) (pss_one (ps_ret pe_bl)) pss_nil)
    (pss_cons (ps_if (pt_not (pt_val (pe_callB (call_all rfl) rfl C.all PyProof.Rows.boot_all (pa_cons (pe_comp0 (pi_tup (pv 0)) (fun _ _ _ _ => pts_nil) (fun _ _ _ _ => pe_call GA hr1 rfl cA.name cA.keep cA.bind .nil pass0 (pa_cons (pv 0) pa_nil))) pa_nil)))) (pss_one (ps_ret pe_bl)) pss_nil)
    (pss_cons (ps_if (PW.pt (pw_or (pt_cmpR op_gt (pe_callB call_len_seq rfl C.len PySem.boot_len (pa_cons (pe_ix ix_tup (pv 0) pe_int (fun _ _ => rfl)) pa_nil)) (pe_g C.mostFacts) (nomark _))
      (pw_or1 (pt_cmpR op_gt (pe_callB call_len_seq rfl C.len PySem.boot_len (pa_cons (pe_ix ix_tup (pv 0) pe_int (fun _ _ => rfl)) pa_nil)) (pe_g C.mostParts) (nomark _))))) (pss_one (ps_ret pe_bl)) pss_nil)
    (pss_cons (ps_if (PW.pt (pw_or (pt_not (pt_val (pe_callB (call_all rfl) rfl C.all PyProof.Rows.boot_all (pa_cons (pe_comp0 (pi_list (pe_ix ix_tup (pv 0) pe_int (fun _ _ => rfl))) (fun _ _ _ _ => pts_nil) (fun _ _ _ _ => pe_call GF hr rfl cF.name cF.keep cF.bind .nil pass0 (pa_cons (pv 0) pa_nil))) pa_nil))))
      (pw_or1 (pt_not (pt_val (pe_callB (call_all rfl) rfl C.all PyProof.Rows.boot_all (pa_cons (pe_comp0 (pi_list (pe_ix ix_tup (pv 0) pe_int (fun _ _ => rfl))) (fun _ _ _ _ => pts_nil) (fun _ _ _ _ => pe_call GP hr rfl cP.name cP.keep cP.bind .nil pass0 (pa_cons (pv 0) pa_nil))) pa_nil))))))) (pss_one (ps_ret pe_bl)) pss_nil)
    (pss_one (ps_ret (pe_cmpR op_le (pe_callB call_len_seq rfl C.len PySem.boot_len (pa_cons (pe_call GN hr1 rfl cN.name cN.keep cN.bind .nil pass0 (pa_cons (pv 0) pa_nil)) pa_nil)) (pe_g C.mostNames) (nomark _))))))), ?_⟩
  obtain ⟨as, t1, t2⟩ := id ht
  have hl : as.length = rss.length := Paired.length t2
  refine ⟨_, rfl, a, _, rfl, t1, _, rfl, iteF ?_⟩
  refine ⟨_, rfl, a, _, rfl, .inr t1, rfl, _, rfl, iteB (fun c => ?_) (fun c => ?_)⟩
  · have h2 : rss.length ≠ 2 := by
      have c' : (!decide (V.int (((as.map V.ref).length : Nat) : Int) = V.int 2)) = true := c
      simp at c'; lia
    have e : isTelling rss = false := isTelling_no (fun h => by
      unfold IsTelling at h
      split at h
      · exact h2 rfl
      · exact h)
    rw [e] at q
    exact q H (Same.refl _)
  have h2 : rss.length = 2 := by
    have c' : (!decide (V.int (((as.map V.ref).length : Nat) : Int) = V.int 2)) = false := c
    simp at c'; lia
  obtain ⟨fs, ps, rfl⟩ : ∃ fs ps, rss = [fs, ps] := by
    match rss, h2 with
    | [fs, ps], _ => exact ⟨fs, ps, rfl⟩
  have hf := hs.2 fs (by simp)
  have hp := hs.2 ps (by simp)
  refine ⟨_, rfl, a, rfl, ⟨_, t1⟩, ?_⟩
  refine comp_all (as.map V.ref) [fs, ps] (fun _ => true) jseq_tup t1 (by rw [List.length_map, hl]; exact hs.1) (by rw [List.length_map]; exact hl.symm) (fun i x rs hx hr' H2 e2 Q' q' => ?_) fun D H1 hD e1 hd => ?_
  · obtain ⟨b, hb, rfl⟩ := ref_at hx
    have hrs : RowsAt K H b rs := Paired.at2 t2 hb hr'
    exact ⟨_, rfl, b, rs, rfl, hrs.same e2, hs.2 rs (List.mem_of_getElem? hr'), q'⟩
  refine ⟨D, _, rfl, SqL.of hd, ?_⟩
  rw [all_id, show ([fs, ps] : List (List (List Str))).all (fun _ => true) = true by simp]
  refine ⟨_, rfl, iteF ?_⟩
  cases t2 with
  | @cons fa _ _ _ t3 t4 =>
  cases t4 with
  | @cons pa _ _ _ t5 t6 =>
  cases t6
  have r3 := t3.same e1
  have r5 := t5.same e1
  obtain ⟨fas, f1, f2⟩ := t3
  obtain ⟨pas, p1, p2⟩ := t5
  have t1' := e1.seqT t1
  have fl : fas.length = fs.length := Paired.length f2
  have pl : pas.length = ps.length := Paired.length p2
  have no : ¬ IsTelling [fs, ps] → ∀ H', Same H H' → Q (.bl false) H' := fun h => by rw [isTelling_no h] at q; exact q
  refine ⟨_, rfl, a, _, 0, .ref fa, rfl, rfl, t1', rfl, fa, _, rfl, .inl (SqL.of (e1 _ _ f1)), _, _, rfl, rfl, _, rfl, iteB (fun c1 => ?_) (fun c1 => ?_)⟩
  · refine no (fun h => ?_) _ e1
    have c1' := of_decide_eq_true c1
    have h1 : fs.length ≤ 8 := h.1
    rw [List.length_map] at c1'
    lia
  have c1' : fs.length ≤ 8 := by have := of_decide_eq_false c1; rw [List.length_map] at this; lia
  refine ⟨_, rfl, a, _, 1, .ref pa, rfl, rfl, t1', rfl, pa, _, rfl, .inl (SqL.of (e1 _ _ p1)), _, _, rfl, rfl, _, rfl, iteB (fun c2 => ?_) (fun c2 => ?_)⟩
  · refine no (fun h => ?_) _ e1
    have c2' := of_decide_eq_true c2
    have h1 : ps.length ≤ 6 := h.2.1
    rw [List.length_map] at c2'
    lia
  have c2' : ps.length ≤ 6 := by have := of_decide_eq_false c2; rw [List.length_map] at this; lia
  refine ⟨_, rfl, a, _, 0, .ref fa, rfl, rfl, t1', rfl, fa, rfl, ⟨_, SqL.of (e1 _ _ f1)⟩, ?_⟩
  refine comp_all (fas.map V.ref) fs isFact jseq_list (SqL.of (e1 _ _ f1)) (by rw [List.length_map]; lia) (by rw [List.length_map]; lia) (fun i x r hx hr' H2 e2 Q' q' => ?_) fun D2 H2 hD2 e2 hd2 => ?_
  · obtain ⟨b, hb, rfl⟩ := ref_at hx
    have hrs : RowAt K H b r := Paired.at2 f2 hb hr'
    exact ⟨_, rfl, b, r, rfl, hrs.same (e1.trans e2), hf.row (List.mem_of_getElem? hr'), q'⟩
  refine ⟨D2, _, rfl, SqL.of hd2, ?_⟩
  rw [all_id]
  refine ⟨_, rfl, iteB (fun c3 => ?_) (fun c3 => ?_)⟩
  · refine no (fun h => ?_) _ (e1.trans e2)
    rw [h.2.2.1] at c3
    cases c3
  have c3' : fs.all isFact = true := by simpa using c3
  refine ⟨_, rfl, a, _, 1, .ref pa, rfl, rfl, e2.seqT t1', rfl, pa, rfl, ⟨_, SqL.of (e2 _ _ (e1 _ _ p1))⟩, ?_⟩
  refine comp_all (pas.map V.ref) ps isPart jseq_list (SqL.of (e2 _ _ (e1 _ _ p1))) (by rw [List.length_map]; lia) (by rw [List.length_map]; lia) (fun i x r hx hr' H3 e3 Q' q' => ?_) fun D3 H3 hD3 e3 hd3 => ?_
  · obtain ⟨b, hb, rfl⟩ := ref_at hx
    have hrs : RowAt K H b r := Paired.at2 p2 hb hr'
    exact ⟨_, rfl, b, r, rfl, hrs.same (e1.trans (e2.trans e3)), hp.row (List.mem_of_getElem? hr'), q'⟩
  refine ⟨D3, _, rfl, SqL.of hd3, ?_⟩
  rw [all_id]
  have e4 := e1.trans (e2.trans e3)
  refine ⟨_, rfl, iteB (fun c4 => ?_) (fun c4 => ?_)⟩
  · refine no (fun h => ?_) _ e4
    rw [h.2.2.2.1] at c4
    cases c4
  have c4' : ps.all isPart = true := by simpa using c4
  have hlen : ∀ r ∈ fs ++ ps, 2 ≤ r.length ∧ r.length ≤ 4 := fun r hr => by
    rcases List.mem_append.mp hr with h | h
    · have := isFact_len (List.all_eq_true.mp c3' r h); lia
    · exact isPart_len (List.all_eq_true.mp c4' r h)
  refine ⟨_, rfl, a, fs, ps, rfl, ht.same e4, ⟨by lia, fun r hr => ⟨by have := (hlen r (List.mem_append.mpr (.inl hr))).2; lia, (hf.2 r hr).2⟩⟩, ⟨by lia, fun r hr => ⟨by have := (hlen r (List.mem_append.mpr (.inr hr))).2; lia, (hp.2 r hr).2⟩⟩, fun r hr e => ?_, fun ss hn hm => ?_, fun p zs H5 hp0 e5 hz hn hm hso => ?_⟩
  · have := (hlen r hr).1; rw [e] at this; simp at this
  · have h1 := List.Nodup.length_le_of_subset hn hm
    have h2 := words_len (rs := fs ++ ps) (m := 4) (fun r hr => (hlen r hr).2)
    rw [List.length_append] at h2
    lia
  refine ⟨p, _, rfl, .inl (SqL.of hz), _, _, rfl, rfl, ?_⟩
  have e6 := q H5 (e4.trans e5)
  by_cases hz8 : zs.length ≤ 8
  · rw [isTelling_yes (rss := [fs, ps]) ⟨c1', c2', c3', c4', (few_of hn hm).mpr hz8⟩] at e6
    have : decide (((zs.map V.str).length : Int) ≤ 8) = true := decide_eq_true (by rw [List.length_map]; lia)
    show Q (.bl (decide _)) H5
    rw [this]; exact e6
  · rw [isTelling_no (rss := [fs, ps]) (fun h => hz8 ((few_of hn hm).mp h.2.2.2.2))] at e6
    have : decide (((zs.map V.str).length : Int) ≤ 8) = false := decide_eq_false (by rw [List.length_map]; lia)
    show Q (.bl (decide _)) H5
    rw [this]; exact e6
end
end K4
namespace L2
open PySem PySem.Spec PyProof.Rows
theorem Fun.okE {P : Program} {w : World} {K : PySem.W.Frag} {mg : Str → Option Value} {base : Heap} {x qual : Str} {st : Stmt} {f : Addr} {fd : FuncData} {N ps : List Str} {k : Nat} {sp : Sp} (F : Fun K x qual st f fd) (S : FnScope N ps (defScope st)) (len : ∀ vs H Q E, sp vs H Q E → vs.length = ps.length)
    (hbody : ∀ (cdv : Value) (A : Around) (outer : List Env) (s : Shared) (H : Hp) (vs : List V) (Q : VK) (E : XK), Room k (A.deeper (envOfC qual (defScope st) s.heap.objs.size f cdv)) → sp vs H Q E →
      ∃ t, PSs (cxOf (CXE P w base) P w K mg base N qual (defScope st) f cdv A outer s H E) (defBody st) t ∧ t { nx := fun _ H' => Q .non H', rt := Q } (start N vs) H) : FnOk P w K mg base (CXE P w base) (k + 1) f fd ps sp := by
  obtain ⟨oc, od, kV, doc, pm, an, cdv, ct, osl, rfl, lk, hcd⟩ := F.ex
  exact fn_of lk hcd S len fun A outer s H vs Q E hr hsp => hbody cdv A outer s H vs Q E hr hsp
end L2
namespace K4
open PySem PySem.Spec L2 Mir
structure ErrC (K : PySem.W.Frag) (mg : Str → Option Value) (x : Str) (C : Addr) : Prop where
  name : mg x = some (.ref C)
  exc : PySem.W.excIn K C [.type "ValueError", .type "Exception", .type "BaseException", .type "object"] "ValueError.__new__" = true
noncomputable def spCheck (K : PySem.W.Frag) (NT : Addr) : Sp := fun vs H Q E => ∃ a rss, vs = [.ref a] ∧ TellAt K H a rss ∧ ShortTell rss ∧ ∀ H', Same H H' → if isTelling rss = true then Q .non H' else E (.ref NT) none H'
section
variable {P : Program} {w : World} {K : PySem.W.Frag} {mg : Str → Option Value} {base : Heap} {f gT NT : Addr} {fd dT : FuncData}
theorem scCheck : FnScope ["telling"] ["telling"] (defScope sCheck) := ⟨rfl, rfl, rfl, by decide +kernel, rfl, by decide +kernel, by decide +kernel⟩
theorem ok_check (F : Fun K "check_telling" "check_telling" sCheck f fd) (GT : FnOk P w K mg base CX0 4 gT dT ["telling"] (spTell K isTelling)) (cT : Cal K mg "is_telling" gT dT ["telling"]) (NE : ErrC K mg "NoTelling" NT) :
    FnOk P w K mg base (CXE P w base) 5 f fd ["telling"] (spCheck K NT) := by
  refine F.okE scCheck (fun vs H Q E h => ?_) (fun cdv A outer s H vs Q E hr h => ?_)
  · obtain ⟨a, rss, rfl, _⟩ := h; rfl
  obtain ⟨a, rss, rfl, ht, hs, q⟩ := h
  refine ⟨_, pss_one (ps_if (pt_not (pt_val (pe_call GT hr rfl cT.name cT.keep cT.bind .nil pass0 (pa_cons (pv 0) pa_nil))))
    (pss_one (ps_raise raises_cx rfl PySem.F.excBase_ValueError rfl NE.name NE.exc (pa_cons pe_str pa_nil))) pss_nil), ?_⟩
  refine ⟨_, rfl, a, rss, rfl, ht, hs, fun H' e => ⟨_, rfl, iteB (fun c => ?_) (fun c => ?_)⟩⟩
  · have c' : isTelling rss = false := by simpa using c
    have := q H' e
    rw [c', if_neg Bool.false_ne_true] at this
    exact ⟨(show 1 ≤ sizeLine by decide), this⟩
  · have c' : isTelling rss = true := by simpa using c
    have := q H' e
    rw [c', if_pos rfl] at this
    exact this
end
end K4
namespace L2
open PySem PySem.Spec PyProof.Rows
section
variable {X : Cx} {st : Stmt} {t : TS} {e : Expr} {te : TE}
theorem PS.nox (h : PS X.nox st t) : PS X st t := fun pins s σ H D I hw =>
  wpAny_mono (h pins s σ H D (I.wish _) hw) (fun _ _ q => q.unwish) fun _ _ z => False.elim z
theorem qs_nox (h : QS X.nox st t) : QS X st t := ⟨PS.nox h.run⟩
noncomputable def tTruth (K : PySem.W.Frag) (ta : TE) : TT := fun σ H Q => ta σ H fun x H' => ∃ k, TruV K x H' k ∧ Q k H'
theorem qt_truth {K : PySem.W.Frag} (ha : QE X e te) (hK : X.K = K := by rfl) (he : ∀ whole, isTrue e X.env whole = (do let v ← whole; standAt e.pos; holding [v] (truthy v)) := by intro _; rfl) : QT X e (tTruth K te) := by
  subst hK
  exact ⟨pt_truth ha.run he⟩
theorem mtJoin {K : PySem.W.Frag} (hK : X.K = K) : MtR X "str.join" (rJoin K) := by subst hK; exact mt_join
end
theorem Fun.okEQ {P : Program} {w : World} {K : PySem.W.Frag} {mg : Str → Option Value} {base : Heap} {x qual : Str} {st : Stmt} {f : Addr} {fd : FuncData} {N ps : List Str} {k : Nat} {sp : Sp} (F : Fun K x qual st f fd) (S : FnScope N ps (defScope st)) (len : ∀ vs H Q E, sp vs H Q E → vs.length = ps.length)
    (hbody : ∀ (cdv : Value) (A : Around) (outer : List Env) (s : Shared) (H : Hp) (vs : List V) (Q : VK) (E : XK), Room k (A.deeper (envOfC qual (defScope st) s.heap.objs.size f cdv)) → sp vs H Q E →
      ∃ t, QB (cxOf (CXE P w base) P w K mg base N qual (defScope st) f cdv A outer s H E) (defBody st) t ∧ t { nx := fun _ H' => Q .non H', rt := Q } (start N vs) H) : FnOk P w K mg base (CXE P w base) (k + 1) f fd ps sp := by
  obtain ⟨oc, od, kV, doc, pm, an, cdv, ct, osl, rfl, lk, hcd⟩ := F.ex
  exact fn_of lk hcd S len fun A outer s H vs Q E hr hsp => by
    obtain ⟨t, h1, h2⟩ := hbody cdv A outer s H vs Q E hr hsp
    exact ⟨t, h1.run, h2⟩
theorem comp_str {α : Type} {J : It} {H1 : Hp} {σ : St} {ix : List Nat} {te : TE} {Q : VK} {I0 : Hp → Prop} (xs : List V) (rs : List α) (f : α → Str) (hJ : JSeq J I0 xs) (h0 : I0 H1) (hz : xs.length ≤ 1000) (hl : rs.length = xs.length)
    (he : ∀ (i : Nat) (x : V) (r : α), xs[i]? = some x → rs[i]? = some r → ∀ H2, Same H1 H2 → ∀ Q' : VK, (∀ H3, Same H2 H3 → Q' (.str (f r)) H3) → te (some x :: frees σ ix) H2 Q')
    (hQ : ∀ D H', H1 D = none → Same H1 H' → H' D = some (.lst ((rs.map f).map V.str)) → Q (.ref D) H') : CompGo J H1 σ ix tYes te Q :=
  comp_ix xs ((rs.map f).map V.str) hJ h0 (Nat.le_of_lt (small1000 hz)) (by simp [hl]) (fun i x y hx hy H2 e Q' q => by
    rw [List.getElem?_map, List.getElem?_map] at hy
    cases hr : rs[i]? with
    | none => rw [hr] at hy; cases hy
    | some r =>
      rw [hr] at hy
      have : y = .str (f r) := (Option.some.inj hy).symm
      subst this
      exact he i x r hx hr H2 e Q' q) hQ
section
variable {id : String}
set_option autoImplicit true
set_option relaxedAutoImplicit true
theorem qe_bmK {K : PySem.W.Frag} (hK : X.K = K) (pa : PlainAttrs T) (slot : Slot T name id) (hty : typeOf (.builtin id) = pure (.type "method_descriptor")) (hm : MtR X id r) (ho : QE X o to) (ha : QA X (e :: es) t) (hbase : attributeBase o name X.env (eval o X.env) = eval o X.env := by rfl) (hfew : ((backTo cpos (starEach (e :: es) X.env)).all (fun x => !x.1) && (backToKw cpos (keywordEach [] X.env)).all (fun x => x.1.isSome)       && decide ((e :: es).length + ([] : List Keyword).length + (if ([] : List Keyword).isEmpty then 0 else 1) < 30)) = true := by rfl) (hline : (apos.endLine == cpos.line) = true := by rfl) (hs : starEach (e :: es) X.env = (false, eval e X.env) :: starEach es X.env := by rfl) (hplain : (backTo cpos (starEach es X.env)).any (·.1) = false := by rfl) : QE X (.Call (.Attribute o name apos) (e :: es) [] cpos) (tBM K T r to t) := by
  subst hK
  exact ⟨pe_bm pa slot hty hm ho.run ha.run hbase hfew hline hs hplain⟩
end
end L2
namespace K4
open PySem PySem.Spec L2 Mir
noncomputable abbrev sWritesFact : Stmt := top 29
noncomputable abbrev sRead : Stmt := top 30
noncomputable abbrev sShowFact : Stmt := top 31
noncomputable abbrev sShow : Stmt := top 32
noncomputable def sp1 : Str := " "
noncomputable def sepC : Str := ", "
noncomputable def nothing : Str := "nothing"
noncomputable def writesFact (ws : List Str) : Bool := decide (ws.length = 3) && decide (ws.getD 1 "" ∈ [("is" : Str), "not"])
noncomputable def pieces (x : Str) : List Str := if x = nothing then [] else Txt.split x sepC
noncomputable def wordsOf (p : Str) : List Str := Txt.split p sp1
noncomputable def factRow (ws : List Str) : List Str := [ws.getD 1 "", ws.getD 0 "", ws.getD 2 ""]
noncomputable def readFacts (ps : List Str) : List (List Str) := (ps.filter fun p => writesFact (wordsOf p)).map fun p => factRow (wordsOf p)
noncomputable def readParts (ps : List Str) : List (List Str) := (ps.filter fun p => !writesFact (wordsOf p)).map wordsOf
noncomputable def showFact (r : List Str) : Str := Txt.join sp1 [r.getD 1 "", r.getD 0 "", r.getD 2 ""]
noncomputable def showRows (fs ps : List (List Str)) : List Str := fs.map showFact ++ ps.map (Txt.join sp1)
noncomputable def showOf (fs ps : List (List Str)) : Str := if showRows fs ps = [] then nothing else Txt.join sepC (showRows fs ps)
noncomputable def spWF (K : PySem.W.Frag) : Sp := fun vs H Q _ => ∃ a ws, vs = [.ref a] ∧ SqL K H a (ws.map V.str) ∧ ws.length ≤ 1000 ∧ Q (.bl (writesFact ws)) H
noncomputable def spShowF (K : PySem.W.Frag) : Sp := fun vs H Q _ => ∃ a r, vs = [.ref a] ∧ RowAt K H a r ∧ Shorts r ∧ r.length = 3 ∧ ∀ H', Same H H' → Q (.str (showFact r)) H'
section
variable {P : Program} {w : World} {K : PySem.W.Frag} {mg : Str → Option Value} {base : Heap} {f g : Addr} {fd gd : FuncData}
theorem scWF : FnScope ["words"] ["words"] (defScope sWritesFact) := ⟨rfl, rfl, rfl, by decide +kernel, rfl, by decide +kernel, by decide +kernel⟩
theorem ok_writesFact (C : Con K mg w) (F : Fun K "writes_fact" "writes_fact" sWritesFact f fd) : FnOk P w K mg base CX0 1 f fd ["words"] (spWF K) := by
  refine F.okQ scWF (fun vs H Q E h => ?_) (fun cdv A outer s H vs Q E hr h => ?_)
  · obtain ⟨a, ws, rfl, _⟩ := h; rfl
  obtain ⟨a, ws, rfl, hS, hl, q⟩ := h
  obtain ⟨aN, gN, tN⟩ := C.factWords
  refine ⟨_, qb_one (qs_ret (qe_and (qe_cmpR op_eq (qe_callB call_len_seq rfl C.len PySem.boot_len (qa_cons (qv 0) qa_nil)) qe_int (nomark _))
    (qe_one (qe_cmpR op_in_seq (qe_ix ix_list (qv 0) qe_int (fun _ _ => rfl)) (qe_g gN) (by with_unfolding_all rfl))))), ?_⟩
  refine ⟨_, rfl, a, _, rfl, .inl hS, rfl, _, rfl, iteB (fun c => ?_) (fun c => ?_)⟩
  · have h3 : ws.length = 3 := by
      have c' : decide (V.int (((ws.map V.str).length : Nat) : Int) = V.int 3) = true := c
      simp at c'; lia
    have e1 : ws[1]? = some (ws.getD 1 "") := by
      rw [List.getD_eq_getElem?_getD, List.getElem?_eq_getElem (show 1 < ws.length by lia)]; rfl
    have e : writesFact ws = decide (ws.getD 1 "" ∈ [("is" : Str), "not"]) := by unfold writesFact; rw [decide_eq_true h3, Bool.true_and]
    rw [e, ← inV_strs] at q
    exact ⟨_, rfl, a, _, 1, .str (ws.getD 1 ""), rfl, rfl, hS, atI_nat (j := 1) (by rw [List.getElem?_map, e1]; rfl), aN, _, rfl, .inr (tN _), rfl, flat_strs _, q⟩
  · have h3 : ¬ ws.length = 3 := by
      have c' : decide (V.int (((ws.map V.str).length : Nat) : Int) = V.int 3) = false := c
      simp at c'; lia
    have e : writesFact ws = false := by unfold writesFact; rw [decide_eq_false h3, Bool.false_and]
    rw [e] at q
    exact q
theorem scShowF : FnScope ["fact"] ["fact"] (defScope sShowFact) := ⟨rfl, rfl, rfl, by decide +kernel, rfl, by decide +kernel, by decide +kernel⟩
theorem row3 {r : List Str} (h : r.length = 3) : ∃ a b c, r = [a, b, c] := by
  match r, h with
  | [a, b, c], _ => exact ⟨a, b, c, rfl⟩
theorem ok_showFact (F : Fun K "show_fact" "show_fact" sShowFact f fd) : FnOk P w K mg base CX0 1 f fd ["fact"] (spShowF K) := by
  refine F.okQ scShowF (fun vs H Q E h => ?_) (fun cdv A outer s H vs Q E hr h => ?_)
  · obtain ⟨a, r, rfl, _⟩ := h; rfl
  obtain ⟨a, r, rfl, hR, hs, h3, q⟩ := h
  obtain ⟨k, u, v, rfl⟩ := row3 h3
  refine ⟨_, qb_one (qs_ret (qe_bm PySem.F.plainAttrs_str PySem.F.slot_str_join PySem.F.type_str_join (mtJoin (K := K) rfl) qe_str
    (qa_cons (qe_lst (qa_sub (qe_ix ix_tup (qv 0) qe_int (fun _ _ => rfl)) (qa_sub (qe_ix ix_tup (qv 0) qe_int (fun _ _ => rfl)) (qa_sub (qe_ix ix_tup (qv 0) qe_int (fun _ _ => rfl)) qa_nil)))) qa_nil))), ?_⟩
  refine ⟨rfl, _, rfl, a, _, 1, .str u, rfl, rfl, hR, rfl, _, rfl, a, _, 0, .str k, rfl, rfl, hR, rfl, _, rfl, a, _, 2, .str v, rfl, rfl, hR, rfl, (show 3 ≤ sizeLine by decide), fun l hl => ?_⟩
  refine ⟨sp1, l, [u, k, v], rfl, rfl, .inl (SqL.of upd_same), ?_, q _ (same_new hl _)⟩
  have h1 := hs.2 k (by simp); have h2 := hs.2 u (by simp); have h3 := hs.2 v (by simp)
  unfold Short at h1 h2 h3
  have : sp1.length = 1 := by decide +kernel
  simp only [List.map_cons, List.map_nil, List.sum_cons, List.sum_nil, List.length_cons, List.length_nil, this]
  lia
end
end K4
namespace K4
open PySem PySem.Spec L2 Mir
theorem split_len (z y : Str) : (Txt.split z y).length ≤ z.length + 2 := by
  unfold Txt.split
  split
  · simp
  · split
    · simp
    · rw [length_partsBetween]
      have := StrLaws.occ_length_le z y 0 z.length (z.length + 1)
      lia
theorem sum_le {B : Nat} : ∀ {ts : List Str}, (∀ t ∈ ts, t.length ≤ B) → (ts.map (·.length)).sum ≤ ts.length * B
  | [], _ => by simp
  | t :: ts, h => by
    have h1 := sum_le (ts := ts) (fun x hx => h x (List.mem_cons_of_mem _ hx))
    have h2 := h t (List.mem_cons_self ..)
    simp only [List.map_cons, List.sum_cons, List.length_cons, Nat.succ_mul]
    lia
theorem join_len (sep : Str) {B : Nat} {ts : List Str} (h : ∀ t ∈ ts, t.length ≤ B) : (Txt.join sep ts).length ≤ ts.length * B + ts.length * sep.length := by
  have e : Txt.join sep ts = Str.join sep ts := StrLaws.glued_eq_join sep ts
  rw [e]
  have := StrLaws.join_length_le sep ts
  have := sum_le h
  lia
theorem sp1_len : sp1.length = 1 := by decide +kernel
theorem sepC_len : sepC.length = 2 := by decide +kernel
structure Notes (mg : Str → Option Value) : Prop where
  nothing : Glob mg "NOTHING" (.str nothing)
noncomputable def spShow (K : PySem.W.Frag) : Sp := fun vs H Q _ => ∃ a fs ps, vs = [.ref a] ∧ TellAt K H a [fs, ps] ∧ ShortRows fs ∧ ShortRows ps ∧ (∀ r ∈ fs, r.length = 3) ∧ ∀ H', Same H H' → Q (.str (showOf fs ps)) H'
section
variable {P : Program} {w : World} {K : PySem.W.Frag} {mg : Str → Option Value} {base : Heap} {f g gC : Addr} {fd gd dC : FuncData} {NT : Addr}
theorem scShow : FnScope ["telling", "pieces"] ["telling"] (defScope sShow) := ⟨rfl, rfl, rfl, by decide +kernel, rfl, by decide +kernel, by decide +kernel⟩
theorem ok_show (C : Con K mg w) (N : Notes mg) (F : Fun K "show_telling" "show_telling" sShow f fd) (G : FnOk P w K mg base CX0 1 g gd ["fact"] (spShowF K)) (cG : Cal K mg "show_fact" g gd ["fact"]) :
    FnOk P w K mg base CX0 2 f fd ["telling"] (spShow K) := by
  refine F.okQ scShow (fun vs H Q E h => ?_) (fun cdv A outer s H vs Q E hr h => ?_)
  · obtain ⟨a, fs, ps, rfl, _⟩ := h; rfl
  obtain ⟨a, fs, ps, rfl, ht, hf, hp, h3, q⟩ := h
  have nd := scShow.nd
  obtain ⟨as, t1, t2⟩ := ht
  cases t2 with
  | @cons fa _ _ _ t3 t4 =>
  cases t4 with
  | @cons pa _ _ _ t5 t6 =>
  cases t6
  obtain ⟨fas, f1, f2⟩ := t3
  obtain ⟨pas, p1, p2⟩ := t5
  have fl : fas.length = fs.length := Paired.length f2
  have pl : pas.length = ps.length := Paired.length p2
  have b1 := hf.1
  have b2 := hp.1
  refine ⟨_, qb_cons (qs_set (i := 1) nd rfl (Or.inl rfl) (qe_op op_cat
      (qe_comp0 (qi_list (qe_ix ix_tup (qv 0) qe_int (fun _ _ => rfl))) (fun _ _ _ _ => qts_nil) (fun _ _ _ _ => qe_call G hr rfl cG.name cG.keep cG.bind .nil pass0 (qa_nm (qv 0) qa_nil)))
      (qe_comp0 (qi_list (qe_ix ix_tup (qv 0) qe_int (fun _ _ => rfl))) (fun _ _ _ _ => qts_nil) (fun _ _ _ _ => qe_bmK (K := K) rfl PySem.F.plainAttrs_str PySem.F.slot_str_join PySem.F.type_str_join (mtJoin (K := K) rfl) qe_str (qa_nm (qv 0) qa_nil)))))
    (qb_one (qs_ret (qe_ifExp (qt_truth (K := K) (qv 1)) (qe_bm PySem.F.plainAttrs_str PySem.F.slot_str_join PySem.F.type_str_join (mtJoin (K := K) rfl) qe_str (qa_nm (qv 1) qa_nil)) (qe_g N.nothing)))), ?_⟩
  have rowLen : ∀ r ∈ ps, (r.map (·.length)).sum + r.length * sp1.length ≤ 5005 := fun r hr => by
    have h1 := (hp.2 r hr).1
    have h2 := sum_le (B := 1000) (hp.2 r hr).2
    have h3 : r.length * 1000 ≤ 5 * 1000 := Nat.mul_le_mul_right _ h1
    rw [sp1_len]; lia
  refine ⟨_, rfl, a, _, 0, .ref fa, rfl, rfl, t1, rfl, fa, rfl, ⟨_, SqL.of f1⟩, ?_⟩
  refine comp_str (fas.map V.ref) fs showFact jseq_list (SqL.of f1) (by rw [List.length_map]; lia) (by rw [List.length_map]; lia) (fun i x r hx hr' H2 e2 Q' q' => ?_) fun D1 H1 hD1 e1 hd1 => ?_
  · obtain ⟨b, hb, rfl⟩ := ref_at hx
    have hrs : RowAt K H b r := Paired.at2 f2 hb hr'
    have hm := List.mem_of_getElem? hr'
    exact ⟨_, rfl, b, r, rfl, hrs.same e2, hf.row hm, h3 r hm, q'⟩
  refine ⟨_, rfl, a, _, 1, .ref pa, rfl, rfl, e1.seqT t1, rfl, pa, rfl, ⟨_, SqL.of (e1 _ _ p1)⟩, ?_⟩
  refine comp_str (pas.map V.ref) ps (Txt.join sp1) jseq_list (SqL.of (e1 _ _ p1)) (by rw [List.length_map]; lia) (by rw [List.length_map]; lia) (fun i x r hx hr' H2 e2 Q' q' => ?_) fun D2 H2 hD2 e2 hd2 => ?_
  · obtain ⟨b, hb, rfl⟩ := ref_at hx
    have hrs : RowAt K H b r := Paired.at2 p2 hb hr'
    have hm := List.mem_of_getElem? hr'
    exact ⟨rfl, _, rfl, sp1, b, r, rfl, rfl, .inr (hrs.same (e1.trans e2)), Nat.le_trans (rowLen r hm) (by decide), q' H2 (Same.refl _)⟩
  refine ⟨D1, D2, _, _, rfl, rfl, e2 _ _ hd1, hd2, ?_, fun c hc => ?_⟩
  · rw [List.length_map, List.length_map, List.length_map, List.length_map]; exact Nat.le_of_lt (small1000 (by lia))
  rw [← List.map_append]
  have s3 := same_new hc (.lst ((showRows fs ps).map V.str))
  have e3 := (e1.trans e2).trans s3
  have hlen : (showRows fs ps).length ≤ 400 := by unfold showRows; rw [List.length_append, List.length_map, List.length_map]; lia
  have hall : ∀ t ∈ showRows fs ps, t.length ≤ 5005 := fun t ht => by
    rcases List.mem_append.mp ht with h | h
    · obtain ⟨r, hr, rfl⟩ := List.mem_map.mp h
      obtain ⟨x0, x1, x2, rfl⟩ := row3 (h3 r hr)
      have hh := (hf.2 _ hr).2
      have := join_len sp1 (B := 1000) (ts := [x1, x0, x2]) (fun y hy => hh y (by simp only [List.mem_cons, List.not_mem_nil, or_false] at hy ⊢; rcases hy with h | h | h <;> simp [h]))
      rw [sp1_len] at this
      exact Nat.le_trans this (show 3 * 1000 + 3 * 1 ≤ 5005 by decide)
    · obtain ⟨r, hr, rfl⟩ := List.mem_map.mp h
      have h2 := join_len sp1 (B := 1000) (ts := r) (hp.2 r hr).2
      have h1 := (hp.2 r hr).1
      rw [sp1_len] at h2
      have h4 : r.length * 1000 ≤ 5 * 1000 := Nat.mul_le_mul_right _ h1
      lia
  refine ⟨_, rfl, _, .inl ⟨_, SqL.of upd_same, rfl⟩, iteB (fun c1 => ?_) (fun c1 => ?_)⟩
  · have hne : showRows fs ps ≠ [] := fun e => by
      have c1' : (!((showRows fs ps).map V.str).isEmpty) = true := c1
      rw [e] at c1'; cases c1'
    refine ⟨rfl, _, rfl, sepC, c, showRows fs ps, rfl, rfl, .inl (SqL.of upd_same), ?_, ?_⟩
    · have h1 := sum_le hall
      rw [sepC_len]
      have h2 : (showRows fs ps).length * 5005 ≤ 400 * 5005 := Nat.mul_le_mul_right _ hlen
      lia
    · have e : showOf fs ps = Txt.join sepC (showRows fs ps) := by unfold showOf; rw [if_neg hne]
      rw [← e]; exact q _ e3
  · have he : showRows fs ps = [] := by
      have c1' : (!((showRows fs ps).map V.str).isEmpty) = false := c1
      simpa using c1'
    have e : showOf fs ps = nothing := by unfold showOf; rw [if_pos he]
    rw [e] at q
    exact q _ e3
end
end K4
namespace K4
open PySem PySem.Spec L2 Mir
structure NewTell (K : PySem.W.Frag) (H H' : Hp) (t : Addr) (fs ps : List (List Str)) (fa pa : Addr) : Prop where
  same : Same H H'
  tup : SqT K H' t [.ref fa, .ref pa]
  facts : RowsAt K H' fa fs
  parts : RowsAt K H' pa ps
  newF : H fa = none
  newP : H pa = none
  ne : fa ≠ pa
theorem NewTell.tell {K : PySem.W.Frag} {H H' : Hp} {t : Addr} {fs ps : List (List Str)} {fa pa : Addr} (h : NewTell K H H' t fs ps fa pa) : TellAt K H' t [fs, ps] := ⟨[fa, pa], h.tup, .cons h.facts (.cons h.parts .nil)⟩
noncomputable def spRead (K : PySem.W.Frag) (NT : Addr) : Sp := fun vs H Q E => ∃ x, vs = [.str x] ∧ x.length ≤ 2000 ∧ (∀ p ∈ pieces x, p.length ≤ 900) ∧ (pieces x).length ≤ 1000 ∧ (∀ p ∈ pieces x, (wordsOf p).length ≤ 1000 ∧ ∀ y ∈ wordsOf p, Short y) ∧
  (isTelling [readFacts (pieces x), readParts (pieces x)] = true → ∀ t fa pa H', NewTell K H H' t (readFacts (pieces x)) (readParts (pieces x)) fa pa → Q (.ref t) H') ∧
  (isTelling [readFacts (pieces x), readParts (pieces x)] = false → ∀ H', Same H H' → E (.ref NT) none H')
theorem same_put {H H' : Hp} {l : Addr} (hl : H l = none) (e : Same H H') (o : HO) : Same H (upd H' l o) := fun b u q => by rw [upd_ne (ne_of_none q hl)]; exact e b u q
theorem readFacts_snoc (l : List Str) (p : Str) : readFacts (l ++ [p]) = if writesFact (wordsOf p) = true then readFacts l ++ [factRow (wordsOf p)] else readFacts l := by
  unfold readFacts
  rw [List.filter_append, List.map_append]
  by_cases h : writesFact (wordsOf p) = true
  · rw [if_pos h, List.filter_cons_of_pos (by simpa using h)]; rfl
  · rw [if_neg h, List.filter_cons_of_neg (by simpa using h)]; simp
theorem readParts_snoc (l : List Str) (p : Str) : readParts (l ++ [p]) = if writesFact (wordsOf p) = true then readParts l else readParts l ++ [wordsOf p] := by
  unfold readParts
  rw [List.filter_append, List.map_append]
  by_cases h : writesFact (wordsOf p) = true
  · rw [if_pos h, List.filter_cons_of_neg (by simp [h])]; simp
  · rw [if_neg h, List.filter_cons_of_pos (by simpa using h)]; rfl
theorem readFacts_len (l : List Str) : (readFacts l).length ≤ l.length := by unfold readFacts; rw [List.length_map]; exact List.length_filter_le _ _
theorem readParts_len (l : List Str) : (readParts l).length ≤ l.length := by unfold readParts; rw [List.length_map]; exact List.length_filter_le _ _
noncomputable def tPieces : TE := fun σ H Q => ∃ x, σ[0]? = some (some (.str x)) ∧ x.length ≤ 2000 ∧ ∀ p, H p = none → Q (.ref p) (upd H p (.lst ((pieces x).map V.str)))
theorem pieces_weak {K : PySem.W.Frag} (σ : St) (H : Hp) (Q : VK) (h : tPieces σ H Q) : tIf (tTest (tOp rEq (tVar 0) (tC (.str nothing)))) (tLst tNil) (tBM K "str" rSplit (tVar 0) (tCons (tC (.str sepC)) tNil)) σ H Q := by
  obtain ⟨x, h0, hx, q⟩ := h
  refine ⟨_, h0, rfl, _, rfl, iteB (fun c => ⟨Nat.zero_le _, fun p hp => ?_⟩) (fun c => ⟨_, h0, rfl, x, sepC, rfl, rfl, by decide +kernel, Nat.le_trans hx (by decide), Nat.le_trans (split_len x sepC) (Nat.le_trans (show x.length + 2 ≤ 2002 by lia) (by decide)), fun p hp => ?_⟩)⟩
  · have c' : x = nothing := by simpa using c
    have := q p hp
    unfold pieces at this
    rw [if_pos c'] at this
    exact this
  · have c' : ¬ x = nothing := by simpa using c
    have := q p hp
    unfold pieces at this
    rw [if_neg c'] at this
    exact this
section
variable {P : Program} {w : World} {K : PySem.W.Frag} {mg : Str → Option Value} {base : Heap} {f gW gC : Addr} {fd dW dC : FuncData} {NT : Addr}
theorem scRead : FnScope ["text", "facts", "parts", "pieces", "piece", "words", "telling"] ["text"] (defScope sRead) := ⟨rfl, rfl, rfl, by decide +kernel, rfl, by decide +kernel, by decide +kernel⟩
theorem getD_at {ws : List Str} {i : Nat} (h : i < ws.length) : atI (ws.map V.str) (i : Int) = some (.str (ws.getD i "")) := atI_nat (by rw [List.getElem?_map, List.getD_eq_getElem?_getD, List.getElem?_eq_getElem h]; rfl)
theorem snocR {K : PySem.W.Frag} {H H' : Hp} {as : List Addr} {rs : List (List Str)} {b : Addr} {r : List Str} (h : Paired (fun b r => RowAt K H b r) as rs) (e : ∀ b r, RowAt K H b r → RowAt K H' b r) (hr : RowAt K H' b r) : Paired (fun b r => RowAt K H' b r) (as ++ [b]) (rs ++ [r]) :=
  Paired.app (Paired.mapP h fun b r z => e b r z) (.cons hr .nil)
theorem row_put {H : Hp} {l b : Addr} {xs ys : List V} {r : List Str} (hl : H l = some (.lst xs)) (h : RowAt K H b r) : RowAt K (upd H l (.lst ys)) b r := by
  rcases h with (h | ⟨o, h⟩) | h
  · have hne : b ≠ l := fun e => by rw [e, hl] at h; cases h
    exact .inl (.inl (by show upd H l _ b = _; rw [upd_ne hne]; exact h))
  · have hne : b ≠ l := fun e => by rw [e, hl] at h; cases h
    exact .inl (.inr ⟨o, by show upd H l _ b = _; rw [upd_ne hne]; exact h⟩)
  · exact .inr h
theorem ok_read (C : Con K mg w) (N : Notes mg) (F : Fun K "read_telling" "read_telling" sRead f fd) (GW : FnOk P w K mg base CX0 1 gW dW ["words"] (spWF K)) (cW : Cal K mg "writes_fact" gW dW ["words"])
    (GC : FnOk P w K mg base (CXE P w base) 5 gC dC ["telling"] (spCheck K NT)) (cC : Cal K mg "check_telling" gC dC ["telling"]) : FnOk P w K mg base (CXE P w base) 6 f fd ["text"] (spRead K NT) := by
  refine F.okEQ scRead (fun vs H Q E h => ?_) (fun cdv A outer s H vs Q E hr h => ?_)
  · obtain ⟨x, rfl, _⟩ := h; rfl
  obtain ⟨x, rfl, hx, hpl, hpn, hws, qY, qN⟩ := h
  have nd := scRead.nd
  have hr1 := hr.mono (j := 1) (by lia)
  refine ⟨_, qb_cons (qs_set (i := 1) nd rfl (Or.inl rfl) (qe_lst qa_nil)) (qb_cons (qs_set (i := 2) nd rfl (Or.inl rfl) (qe_lst qa_nil))
    (qb_cons (qs_set (i := 3) nd rfl (Or.inl rfl) (qe_weak (qe_ifExp (qt_cmpR op_eq (qv 0) (qe_g N.nothing) (nomark _)) (qe_lst qa_nil) (qe_bmK (K := K) rfl PySem.F.plainAttrs_str PySem.F.slot_str_split PySem.F.type_str_split mt_split (qv 0) (qa_str qa_nil))) pieces_weak))
    (qb_cons (qs_nox (qs_for PassesOwn.never rfl (qi_list (qv 3)) (qg_name (i := 4) nd rfl (Or.inl rfl))
      (qb_cons (qs_set (i := 5) nd rfl (Or.inl rfl) (qe_bmK (K := K) rfl PySem.F.plainAttrs_str PySem.F.slot_str_split PySem.F.type_str_split mt_split (qv 4) (qa_str qa_nil)))
      (qb_one (qs_if (qt_val (qe_call GW hr1 rfl cW.name cW.keep cW.bind .nil pass0 (qa_nm (qv 5) qa_nil)))
        (qb_one (qs_expr (qe_bmK (K := K) rfl PySem.F.plainAttrs_list PySem.F.slot_list_append PySem.F.type_list_append mt_append (qv 1)
          (qa_tp (qa_sub (qe_ix ix_list (qv 5) qe_int (fun _ _ => rfl)) (qa_sub (qe_ix ix_list (qv 5) qe_int (fun _ _ => rfl)) (qa_sub (qe_ix ix_list (qv 5) qe_int (fun _ _ => rfl)) qa_nil))) qa_nil))))
        (qb_one (qs_expr (qe_bmK (K := K) rfl PySem.F.plainAttrs_list PySem.F.slot_list_append PySem.F.type_list_append mt_append (qv 2)
          (qa_call (qe_callTy call_tuple_of rfl C.tuple PyProof.Rows.boot_tuple (qa_nm (qv 5) qa_nil)) qa_nil)))))))))
    (qb_cons (qs_set (i := 6) nd rfl (Or.inl rfl) (qe_tup (qa_nm (qv 1) (qa_nm (qv 2) qa_nil))))
    (qb_cons (qs_expr (qe_call GC hr rfl cC.name cC.keep cC.bind .nil (pass_cx rfl) (qa_nm (qv 6) qa_nil)))
    (qb_one (qs_ret (qv 6)))))))), ?_⟩
  refine ⟨Nat.zero_le _, fun fa hfa => ?_⟩
  have s1 := same_new hfa (.lst [])
  refine ⟨Nat.zero_le _, fun pa hpa => ?_⟩
  have s2 := same_new hpa (.lst [])
  have hfp : fa ≠ pa := fun e => by rw [← e, upd_same] at hpa; cases hpa
  have hpa0 : H pa = none := s1.free hpa
  refine ⟨x, rfl, hx, fun pc hpc => ?_⟩
  have s3 := same_new hpc (.lst ((pieces x).map V.str))
  have hcf : pc ≠ fa := Ne.symm (ne_of_none (s2 _ _ (upd_same (H := H) (a := fa) (o := .lst []))) hpc)
  have hcp : pc ≠ pa := fun e => by rw [e, upd_same] at hpc; cases hpc
  refine ⟨_, rfl, pc, rfl, ⟨_, SqL.of upd_same⟩, ?_⟩
  refine for_list (xs := (pieces x).map V.str) (fun i σ H' => Same H H' ∧ H' pc = some (.lst ((pieces x).map V.str)) ∧ ∃ fas pas z4 z5, H' fa = some (.lst (fas.map V.ref)) ∧ H' pa = some (.lst (pas.map V.ref)) ∧ Paired (fun b r => RowAt K H' b r) fas (readFacts ((pieces x).take i)) ∧ Paired (fun b r => RowAt K H' b r) pas (readParts ((pieces x).take i)) ∧
      σ = [some (.str x), some (.ref fa), some (.ref pa), some (.ref pc), z4, z5, none]) ⟨s1.trans (s2.trans s3), upd_same, [], [], none, none, s3 _ _ (s2 _ _ upd_same), s3 _ _ upd_same, .nil, .nil, rfl⟩ (fun i σ H' _ p => SqL.of p.2.1) ?_ ?_
  · rintro i v σ H' hi ⟨e, hc', fas, pas, z4, z5, hF, hP, pF, pP, rfl⟩
    rw [List.getElem?_map] at hi
    cases hb : (pieces x)[i]? with
    | none => rw [hb] at hi; cases hi
    | some p =>
      rw [hb] at hi
      have hv : v = .str p := (Option.some.inj hi).symm
      subst hv
      have hm : p ∈ pieces x := List.mem_of_getElem? hb
      have hi2 : i < (pieces x).length := (List.getElem?_eq_some_iff.mp hb).1
      have hw5 := (hws p hm).1
      have ht1 : (pieces x).take (i + 1) = (pieces x).take i ++ [p] := by rw [List.take_add_one, hb]; rfl
      refine ⟨_, rfl, rfl, p, sp1, rfl, rfl, by decide +kernel, Nat.le_trans (hpl p hm) (by decide), Nat.le_trans hw5 (by decide), fun wl hwl => ?_⟩
      have s4 : Same H' (upd H' wl (.lst ((wordsOf p).map V.str))) := same_new hwl _
      have hwf : wl ≠ fa := fun e => by rw [e, hF] at hwl; cases hwl
      have hwp : wl ≠ pa := fun e => by rw [e, hP] at hwl; cases hwl
      have hfl : fas.length ≤ 1000 := by
        have h1 := Paired.length pF
        have h2 := readFacts_len ((pieces x).take i)
        have h3 := List.length_take_le i (pieces x)
        lia
      have hpl2 : pas.length ≤ 1000 := by
        have h1 := Paired.length pP
        have h2 := readParts_len ((pieces x).take i)
        have h3 := List.length_take_le i (pieces x)
        lia
      refine ⟨_, rfl, wl, wordsOf p, rfl, SqL.of upd_same, by lia, _, rfl, iteB (fun c => ?_) (fun c => ?_)⟩
      · have h3 : (wordsOf p).length = 3 := by
          unfold writesFact at c
          rw [Bool.and_eq_true, decide_eq_true_eq] at c
          exact c.1
        have hW : SqL K (upd H' wl (.lst ((wordsOf p).map V.str))) wl ((wordsOf p).map V.str) := SqL.of upd_same
        refine ⟨_, rfl, .inl ⟨rfl, _, SqL.of (s4 _ _ hF)⟩, _, rfl, wl, _, 1, _, rfl, rfl, hW, getD_at (i := 1) (by lia), _, rfl, wl, _, 0, _, rfl, rfl, hW, getD_at (i := 0) (by lia), _, rfl, wl, _, 2, _, rfl, rfl, hW, getD_at (i := 2) (by lia), (show 3 ≤ sizeLine by decide), fun tp htp => ?_⟩
        have s5 := same_new htp (.tup ((factRow (wordsOf p)).map V.str))
        have hF5 := s5 _ _ (s4 _ _ hF)
        refine ⟨fa, _, .ref tp, rfl, rfl, hF5, by rw [List.length_map]; exact Nat.lt_of_le_of_lt hfl (by decide), ?_⟩
        refine ⟨same_put hfa (e.trans (s4.trans s5)) _, ?_, fas ++ [tp], pas, _, _, ?_, ?_, ?_, ?_, rfl⟩
        · rw [upd_ne hcf]; exact s5 _ _ (s4 _ _ hc')
        · rw [upd_same, List.map_append]; rfl
        · rw [upd_ne (Ne.symm hfp)]; exact s5 _ _ (s4 _ _ hP)
        · rw [ht1, readFacts_snoc, if_pos c]
          exact snocR pF (fun b r z => row_put hF5 ((z.same s4).same s5)) (row_put hF5 (SqT.of upd_same))
        · rw [ht1, readParts_snoc, if_pos c]
          exact Paired.mapP pP fun b r z => row_put hF5 ((z.same s4).same s5)
      · have c' : ¬ writesFact (wordsOf p) = true := by rw [c]; exact Bool.false_ne_true
        refine ⟨_, rfl, .inl ⟨rfl, _, SqL.of (s4 _ _ hP)⟩, _, rfl, wl, _, rfl, .inl ⟨SqL.of upd_same, fun tp htp => ?_⟩⟩
        have s5 := same_new htp (.tup ((wordsOf p).map V.str))
        have hP5 := s5 _ _ (s4 _ _ hP)
        refine ⟨pa, _, .ref tp, rfl, rfl, hP5, by rw [List.length_map]; exact Nat.lt_of_le_of_lt hpl2 (by decide), ?_⟩
        refine ⟨same_put hpa0 (e.trans (s4.trans s5)) _, ?_, fas, pas ++ [tp], _, _, ?_, ?_, ?_, ?_, rfl⟩
        · rw [upd_ne hcp]; exact s5 _ _ (s4 _ _ hc')
        · rw [upd_ne hfp]; exact s5 _ _ (s4 _ _ hF)
        · rw [upd_same, List.map_append]; rfl
        · rw [ht1, readFacts_snoc, if_neg c']
          exact Paired.mapP pF fun b r z => row_put hP5 ((z.same s4).same s5)
        · rw [ht1, readParts_snoc, if_neg c']
          exact snocR pP (fun b r z => row_put hP5 ((z.same s4).same s5)) (row_put hP5 (SqT.of upd_same))
  · rintro σ H' ⟨e, hc', fas, pas, z4, z5, hF, hP, pF, pP, rfl⟩
    rw [List.length_map, List.take_length] at pF pP
    refine ⟨_, rfl, _, rfl, (show 2 ≤ sizeLine by decide), fun t ht => ?_⟩
    have s6 := same_new ht (.tup [.ref fa, .ref pa])
    have NTl : NewTell K H (upd H' t (.tup [.ref fa, .ref pa])) t (readFacts (pieces x)) (readParts (pieces x)) fa pa :=
      ⟨e.trans s6, SqT.of upd_same, ⟨fas, s6 _ _ hF, Paired.mapP pF fun b r z => z.same s6⟩, ⟨pas, s6 _ _ hP, Paired.mapP pP fun b r z => z.same s6⟩, hfa, hpa0, hfp⟩
    have shF : LongRows (readFacts (pieces x)) := ⟨Nat.le_trans (readFacts_len _) hpn, fun r hr' => by
      obtain ⟨p, hp, rfl⟩ := List.mem_map.mp hr'
      have hp' := (List.mem_filter.mp hp)
      have hh := hws p hp'.1
      refine ⟨by show 3 ≤ 1000; lia, fun y hy => ?_⟩
      have h3 : (wordsOf p).length = 3 := by
        have c := hp'.2
        unfold writesFact at c
        rw [Bool.and_eq_true, decide_eq_true_eq] at c
        exact c.1
      obtain ⟨a0, a1, a2, ea⟩ := row3 h3
      rw [ea] at hy hh
      have hy' : y ∈ ([a1, a0, a2] : List Str) := hy
      refine hh.2 y ?_
      simp only [List.mem_cons, List.not_mem_nil, or_false] at hy' ⊢
      rcases hy' with h | h | h <;> simp [h]⟩
    have shP : LongRows (readParts (pieces x)) := ⟨Nat.le_trans (readParts_len _) hpn, fun r hr' => by
      obtain ⟨p, hp, rfl⟩ := List.mem_map.mp hr'
      exact hws p (List.mem_filter.mp hp).1⟩
    refine ⟨_, rfl, t, [readFacts (pieces x), readParts (pieces x)], rfl, NTl.tell, ⟨by simp, fun rs hrs => ?_⟩, fun H2 e2 => iteB (fun c => ?_) (fun c => ?_)⟩
    · simp only [List.mem_cons, List.not_mem_nil, or_false] at hrs
      rcases hrs with rfl | rfl
      · exact shF
      · exact shP
    · exact ⟨_, rfl, qY c t fa pa H2 ⟨NTl.same.trans e2, e2.seqT NTl.tup, NTl.facts.same e2, NTl.parts.same e2, hfa, hpa0, hfp⟩⟩
    · exact qN c H2 (NTl.same.trans e2)
end
end K4
namespace K4
open PySem PySem.Spec L2 Mir
theorem qt_weak {X : Cx} {e : Expr} {t t' : TT} (h : QT X e t) (w : ∀ σ H Q, t' σ H Q → t σ H Q) : QT X e t' := ⟨fun pins s σ H Q I q => h.run pins s σ H Q I (w σ H Q q)⟩
noncomputable abbrev sCell : Stmt := top 34
noncomputable abbrev sTake : Stmt := top 35
noncomputable abbrev sValue2 : Stmt := top 38
noncomputable abbrev sField : Stmt := top 39
noncomputable abbrev sFact2 : Stmt := top 40
noncomputable abbrev sPart2 : Stmt := top 41
noncomputable abbrev sTell2 : Stmt := top 42
noncomputable def cellAt (ns : List Int) (k : Nat) : Int := (ns[k]?).getD 0
inductive spCellS (K : PySem.W.Frag) (vs : List V) (H : Hp) (Q : VK) : Prop
  | mk (a : Addr) (ns : List Int) (k : Nat) (h0 : vs = [.ref a, .int (k : Int)]) (h1 : SqL K H a (ns.map V.int)) (h2 : Q (.int (cellAt ns k)) H) : spCellS K vs H Q
noncomputable def spCell (K : PySem.W.Frag) : Sp := fun vs H Q _ => spCellS K vs H Q
noncomputable def ValueOf (xs : List Str) (y : Str) : Prop := y = "nil" ∨ y ∈ xs
noncomputable def FieldOf (xs : List Str) (y : Str) : Prop := y = "any" ∨ ValueOf xs y
noncomputable def FactOf (xs : List Str) (r : List Str) : Prop := ∃ k u v : Str, r = [k, u, v] ∧ (k = "is" ∨ k = "not") ∧ ValueOf xs u ∧ ValueOf xs v
noncomputable def PartOf (xs : List Str) (r : List Str) : Prop := (∃ a b c : Str, r = [("cell" : Str), a, b, c] ∧ ValueOf xs a ∧ FieldOf xs b ∧ FieldOf xs c) ∨ (∃ a b : Str, r = [("stretch" : Str), a, b] ∧ ValueOf xs a ∧ ValueOf xs b) ∨ (∃ a : Str, r = [("tree" : Str), a] ∧ ValueOf xs a)
noncomputable def Few8 (xs : List Str) : Prop := xs ≠ [] ∧ xs.length ≤ 8
theorem at_mod {α : Type} {xs : List α} {m : Int} {i : Int} (hl : (xs.length : Int) = m) (hm : 0 < m) : ∃ v, atI xs (i % m) = some v ∧ v ∈ xs := by
  have h0 := Int.emod_nonneg i (Int.ne_of_gt hm)
  have h1 := Int.emod_lt_of_pos i hm
  generalize i % m = j at h0 h1
  obtain ⟨k, rfl⟩ := Int.eq_ofNat_of_zero_le h0
  have hk : k < xs.length := by lia
  exact ⟨xs[k], atI_nat (List.getElem?_eq_getElem hk), List.getElem_mem hk⟩
noncomputable def spVal (K : PySem.W.Frag) (R : List Str → Str → Prop) : Sp := fun vs H Q _ => ∃ (i : Int) (a : Addr) (xs : List Str), vs = [.int i, .ref a] ∧ SqL K H a (xs.map V.str) ∧ Few8 xs ∧ ∀ y, R xs y → Q (.str y) H
noncomputable def spRowOf (K : PySem.W.Frag) (R : List Str → List Str → Prop) : Sp := fun vs H Q _ => ∃ (i : Int) (a : Addr) (xs : List Str), vs = [.int i, .ref a] ∧ SqL K H a (xs.map V.str) ∧ Few8 xs ∧ ∀ t r H', Same H H' → H' t = some (.tup (r.map V.str)) → R xs r → Q (.ref t) H'
section
variable {P : Program} {w : World} {K : PySem.W.Frag} {mg : Str → Option Value} {base : Heap} {f g g2 : Addr} {fd gd gd2 : FuncData}
theorem scCell : FnScope ["_law_script", "_law_k"] ["_law_script", "_law_k"] (defScope sCell) := ⟨rfl, rfl, rfl, by decide +kernel, rfl, by decide +kernel, by decide +kernel⟩
theorem ok_cellAt (C : Con K mg w) (F : Fun K "_law_cell_at" "_law_cell_at" sCell f fd) : FnOk P w K mg base CX0 1 f fd ["_law_script", "_law_k"] (spCell K) := by
  refine F.okQ scCell (fun vs H Q E h => ?_) (fun cdv A outer s H vs Q E hr h => ?_)
  · obtain ⟨a, ns, k, rfl, _⟩ := h; rfl
  obtain ⟨a, ns, k, rfl, hS, q⟩ := h
  refine ⟨_, qb_cons (qs_if (qt_cmpR op_lt (qv 1) (qe_callB call_len_seq rfl C.len PySem.boot_len (qa_nm (qv 0) qa_nil)) (nomark _)) (qb_one (qs_ret (qe_ix ix_list (qv 0) (qv 1) (fun _ _ => rfl)))) qb_nil)
    (qb_one (qs_ret qe_int)), ?_⟩
  have hl : (ns.map V.int).length = ns.length := List.length_map _
  refine ⟨_, rfl, _, rfl, a, _, rfl, .inl hS, _, _, rfl, rfl, _, rfl, iteB (fun c => ?_) (fun c => ?_)⟩
  · have c' := of_decide_eq_true c
    rw [hl] at c'
    have hk : k < ns.length := by lia
    have e : cellAt ns k = ns[k] := by unfold cellAt; rw [List.getElem?_eq_getElem hk]; rfl
    rw [e] at q
    exact ⟨_, rfl, _, rfl, a, _, _, _, rfl, rfl, hS, atI_nat (by rw [List.getElem?_map, List.getElem?_eq_getElem hk]; rfl), q⟩
  · have c' := of_decide_eq_false c
    rw [hl] at c'
    have hk : ns.length ≤ k := by lia
    have e : cellAt ns k = 0 := by unfold cellAt; rw [List.getElem?_eq_none hk]; rfl
    rw [e] at q
    exact q
theorem scValue2 : FnScope ["_law_cell", "_law_names_here"] ["_law_cell", "_law_names_here"] (defScope sValue2) := ⟨rfl, rfl, rfl, by decide +kernel, rfl, by decide +kernel, by decide +kernel⟩
theorem ok_value2 (C : Con K mg w) (F : Fun K "_law_value" "_law_value" sValue2 f fd) : FnOk P w K mg base CX0 1 f fd ["_law_cell", "_law_names_here"] (spVal K ValueOf) := by
  refine F.okQ scValue2 (fun vs H Q E h => ?_) (fun cdv A outer s H vs Q E hr h => ?_)
  · obtain ⟨i, a, xs, rfl, _⟩ := h; rfl
  obtain ⟨i, a, xs, rfl, hS, hf, q⟩ := h
  refine ⟨_, qb_cons (qs_if (qt_cmpR op_eq (qe_op op_mod (qv 0) qe_int) qe_int (nomark _)) (qb_one (qs_ret qe_str)) qb_nil)
    (qb_one (qs_ret (qe_ix ix_list (qv 1) (qe_op op_mod (qe_op op_mod (qv 0) qe_int) (qe_callB call_len_seq rfl C.len PySem.boot_len (qa_nm (qv 1) qa_nil))) (fun _ _ => rfl)))), ?_⟩
  refine ⟨_, rfl, _, _, rfl, rfl, (show (0 : Int) < 10 by decide), rfl, _, rfl, iteB (fun c => q _ (.inl rfl)) (fun c => ?_)⟩
  have hl0 : 0 < xs.length := by
    cases xs with
    | nil => exact absurd rfl hf.1
    | cons => simp
  obtain ⟨v, hv, hm⟩ := at_mod (xs := xs.map V.str) (m := ((xs.map V.str).length : Int)) (i := i % 10) rfl (by rw [List.length_map]; lia)
  obtain ⟨y, hy, rfl⟩ := List.mem_map.mp hm
  exact ⟨_, rfl, _, rfl, _, _, rfl, rfl, (show (0 : Int) < 10 by decide), _, rfl, a, _, rfl, .inl hS, _, _, rfl, rfl, (show (0 : Int) < ((xs.map V.str).length : Int) by rw [List.length_map]; lia), a, _, _, _, rfl, rfl, hS, hv, q y (.inr hy)⟩
theorem scField : FnScope ["_law_cell", "_law_names_here"] ["_law_cell", "_law_names_here"] (defScope sField) := ⟨rfl, rfl, rfl, by decide +kernel, rfl, by decide +kernel, by decide +kernel⟩
theorem ok_field (F : Fun K "_law_field" "_law_field" sField f fd) (G : FnOk P w K mg base CX0 1 g gd ["_law_cell", "_law_names_here"] (spVal K ValueOf)) (cG : Cal K mg "_law_value" g gd ["_law_cell", "_law_names_here"]) : FnOk P w K mg base CX0 2 f fd ["_law_cell", "_law_names_here"] (spVal K FieldOf) := by
  refine F.okQ scField (fun vs H Q E h => ?_) (fun cdv A outer s H vs Q E hr h => ?_)
  · obtain ⟨i, a, xs, rfl, _⟩ := h; rfl
  obtain ⟨i, a, xs, rfl, hS, hf, q⟩ := h
  refine ⟨_, qb_cons (qs_if (qt_cmpR op_eq (qe_op op_mod (qv 0) qe_int) qe_int (nomark _)) (qb_one (qs_ret qe_str)) qb_nil)
    (qb_one (qs_ret (qe_call G hr rfl cG.name cG.keep cG.bind .nil pass0 (qa_bop (qe_op op_fdiv (qv 0) qe_int) (qa_nm (qv 1) qa_nil))))), ?_⟩
  refine ⟨_, rfl, _, _, rfl, rfl, (show (0 : Int) < 5 by decide), rfl, _, rfl, iteB (fun c => q _ (.inl rfl)) (fun c => ?_)⟩
  exact ⟨_, rfl, _, _, rfl, rfl, (show CDiv _ 5 from ⟨by decide, by decide⟩), _, rfl, _, a, xs, rfl, hS, hf, fun y hy => q y (.inr hy)⟩
theorem scFact2 : FnScope ["_law_cell", "_law_names_here"] ["_law_cell", "_law_names_here"] (defScope sFact2) := ⟨rfl, rfl, rfl, by decide +kernel, rfl, by decide +kernel, by decide +kernel⟩
theorem ok_fact2 (F : Fun K "_law_fact" "_law_fact" sFact2 f fd) (G : FnOk P w K mg base CX0 1 g gd ["_law_cell", "_law_names_here"] (spVal K ValueOf)) (cG : Cal K mg "_law_value" g gd ["_law_cell", "_law_names_here"]) : FnOk P w K mg base CX0 2 f fd ["_law_cell", "_law_names_here"] (spRowOf K FactOf) := by
  refine F.okQ scFact2 (fun vs H Q E h => ?_) (fun cdv A outer s H vs Q E hr h => ?_)
  · obtain ⟨i, a, xs, rfl, _⟩ := h; rfl
  obtain ⟨i, a, xs, rfl, hS, hf, q⟩ := h
  refine ⟨_, qb_one (qs_ret (qe_tup (qa_sub (qe_ix ix_list (qe_lst (qa_str (qa_str qa_nil))) (qe_op op_mod (qv 0) qe_int) (fun _ _ => rfl))
    (qa_call (qe_call G hr rfl cG.name cG.keep cG.bind .nil pass0 (qa_bop (qe_op op_fdiv (qv 0) qe_int) (qa_nm (qv 1) qa_nil)))
    (qa_call (qe_call G hr rfl cG.name cG.keep cG.bind .nil pass0 (qa_bop (qe_op op_fdiv (qv 0) qe_int) (qa_nm (qv 1) qa_nil))) qa_nil))))), ?_⟩
  refine ⟨(show 2 ≤ sizeLine by decide), fun l hl => ?_⟩
  have s1 := same_new hl (.lst [.str "is", .str "not"])
  obtain ⟨v, hv, hm⟩ := at_mod (xs := [V.str "is", V.str "not"]) (m := 2) (i := i) rfl (by decide)
  obtain ⟨k, hk, rfl⟩ : ∃ k : Str, (k = "is" ∨ k = "not") ∧ v = .str k := by
    simp only [List.mem_cons, List.not_mem_nil, or_false] at hm
    rcases hm with h | h
    · exact ⟨_, .inl rfl, h⟩
    · exact ⟨_, .inr rfl, h⟩
  refine ⟨_, rfl, _, _, rfl, rfl, (show (0 : Int) < 2 by decide), l, _, _, _, rfl, rfl, SqL.of upd_same, hv, ?_⟩
  refine ⟨_, rfl, _, _, rfl, rfl, (show CDiv _ 2 from ⟨by decide, by decide⟩), _, rfl, _, a, xs, rfl, s1.seq hS, hf, fun u hu => ?_⟩
  refine ⟨_, rfl, _, _, rfl, rfl, (show CDiv _ 20 from ⟨by decide, by decide⟩), _, rfl, _, a, xs, rfl, s1.seq hS, hf, fun u2 hu2 => ?_⟩
  refine ⟨(show 3 ≤ sizeLine by decide), fun t ht => ?_⟩
  exact q t [k, u, u2] _ (s1.trans (same_new ht _)) upd_same ⟨k, u, u2, rfl, hk, hu, hu2⟩
theorem scPart2 : FnScope ["_law_cell", "_law_names_here", "_law_first"] ["_law_cell", "_law_names_here"] (defScope sPart2) := ⟨rfl, rfl, rfl, by decide +kernel, rfl, by decide +kernel, by decide +kernel⟩
theorem ok_part2 (F : Fun K "_law_part" "_law_part" sPart2 f fd) (G : FnOk P w K mg base CX0 1 g gd ["_law_cell", "_law_names_here"] (spVal K ValueOf)) (cG : Cal K mg "_law_value" g gd ["_law_cell", "_law_names_here"])
    (G2 : FnOk P w K mg base CX0 2 g2 gd2 ["_law_cell", "_law_names_here"] (spVal K FieldOf)) (cG2 : Cal K mg "_law_field" g2 gd2 ["_law_cell", "_law_names_here"]) : FnOk P w K mg base CX0 3 f fd ["_law_cell", "_law_names_here"] (spRowOf K PartOf) := by
  refine F.okQ scPart2 (fun vs H Q E h => ?_) (fun cdv A outer s H vs Q E hr h => ?_)
  · obtain ⟨i, a, xs, rfl, _⟩ := h; rfl
  obtain ⟨i, a, xs, rfl, hS, hf, q⟩ := h
  have nd := scPart2.nd
  have hr1 := hr.mono (j := 1) (by lia)
  refine ⟨_, qb_cons (qs_if (qt_cmpR op_lt (qe_op op_mod (qv 0) qe_int) qe_int (nomark _))
      (qb_cons (qs_set (i := 2) nd rfl (Or.inl rfl) (qe_call G2 hr rfl cG2.name cG2.keep cG2.bind .nil pass0 (qa_bop (qe_op op_fdiv (qv 0) qe_int) (qa_nm (qv 1) qa_nil))))
      (qb_one (qs_ret (qe_tup (qa_str (qa_call (qe_call G hr1 rfl cG.name cG.keep cG.bind .nil pass0 (qa_bop (qe_op op_fdiv (qv 0) qe_int) (qa_nm (qv 1) qa_nil))) (qa_nm (qv 2)
        (qa_call (qe_call G2 hr rfl cG2.name cG2.keep cG2.bind .nil pass0 (qa_bop (qe_op op_fdiv (qv 0) qe_int) (qa_nm (qv 1) qa_nil))) qa_nil))))))))
      qb_nil)
    (qb_cons (qs_if (qt_cmpR op_eq (qe_op op_mod (qv 0) qe_int) qe_int (nomark _))
      (qb_one (qs_ret (qe_tup (qa_str (qa_call (qe_call G hr1 rfl cG.name cG.keep cG.bind .nil pass0 (qa_bop (qe_op op_fdiv (qv 0) qe_int) (qa_nm (qv 1) qa_nil)))
        (qa_call (qe_call G hr1 rfl cG.name cG.keep cG.bind .nil pass0 (qa_bop (qe_op op_fdiv (qv 0) qe_int) (qa_nm (qv 1) qa_nil))) qa_nil))))))
      qb_nil)
    (qb_one (qs_ret (qe_tup (qa_str (qa_call (qe_call G hr1 rfl cG.name cG.keep cG.bind .nil pass0 (qa_bop (qe_op op_fdiv (qv 0) qe_int) (qa_nm (qv 1) qa_nil))) qa_nil)))))), ?_⟩
  refine ⟨_, rfl, _, _, rfl, rfl, (show (0 : Int) < 4 by decide), _, _, rfl, rfl, _, rfl, iteB (fun c => ?_) (fun c => ?_)⟩
  · refine ⟨_, rfl, _, _, rfl, rfl, (show CDiv _ 40 from ⟨by decide, by decide⟩), _, rfl, _, a, xs, rfl, hS, hf, fun b hb => ?_⟩
    refine ⟨_, rfl, _, _, rfl, rfl, (show CDiv _ 4 from ⟨by decide, by decide⟩), _, rfl, _, a, xs, rfl, hS, hf, fun u hu => ?_⟩
    refine ⟨_, rfl, _, rfl, _, _, rfl, rfl, (show CDiv _ 2000 from ⟨by decide, by decide⟩), _, rfl, _, a, xs, rfl, hS, hf, fun d hd => ?_⟩
    exact ⟨(show 4 ≤ sizeLine by decide), fun t ht => q t ["cell", u, b, d] _ (same_new ht _) upd_same (.inl ⟨u, b, d, rfl, hu, hb, hd⟩)⟩
  refine ⟨_, rfl, _, _, rfl, rfl, (show (0 : Int) < 4 by decide), rfl, _, rfl, iteB (fun c => ?_) (fun c => ?_)⟩
  · refine ⟨_, rfl, _, _, rfl, rfl, (show CDiv _ 4 from ⟨by decide, by decide⟩), _, rfl, _, a, xs, rfl, hS, hf, fun u hu => ?_⟩
    refine ⟨_, rfl, _, _, rfl, rfl, (show CDiv _ 40 from ⟨by decide, by decide⟩), _, rfl, _, a, xs, rfl, hS, hf, fun u2 hu2 => ?_⟩
    exact ⟨(show 3 ≤ sizeLine by decide), fun t ht => q t ["stretch", u, u2] _ (same_new ht _) upd_same (.inr (.inl ⟨u, u2, rfl, hu, hu2⟩))⟩
  · refine ⟨_, rfl, _, _, rfl, rfl, (show CDiv _ 4 from ⟨by decide, by decide⟩), _, rfl, _, a, xs, rfl, hS, hf, fun u hu => ?_⟩
    exact ⟨(show 2 ≤ sizeLine by decide), fun t ht => q t ["tree", u] _ (same_new ht _) upd_same (.inr (.inr ⟨u, rfl, hu⟩))⟩
end
end K4
namespace L2
open PySem PySem.Spec PyProof.Rows
theorem has_one {x y : Str} {c : Addr} {names : List (Str × NameKind)} (hn : names = [((".0" : Str), NameKind.local), (x, NameKind.local), (y, NameKind.cell)]) (z : Str) (h : names.lookup z = some .cell ∨ names.lookup z = some .free) : ∃ c', ([(y, c)] : List (Str × Addr)).lookup z = some c' := by
  subst hn
  simp only [List.lookup_cons, List.lookup_nil] at h ⊢
  cases h1 : z == (".0" : Str) with
  | true => rw [h1] at h; simp at h
  | false =>
    cases h2 : z == x with
    | true => rw [h1, h2] at h; simp at h
    | false =>
      cases h3 : z == y with
      | true => exact ⟨c, rfl⟩
      | false => rw [h1, h2, h3] at h; simp at h
theorem qe_comp1 {X : Cx} {elt iter : Expr} {x y : Str} {px pos : Pos} {ifs : List Expr} {sc : Scope} {c : Addr} {wi : TI} {tc : TT} {te : TE} (j : Nat) (hi : QI X (.Name x px) iter wi)
    (hif : ∀ s H C ex, QTs (blk X [x, y] s H sc [(y, c)] C ex) ifs tc) (he : ∀ s H C ex, QE (blk X [x, y] s H sc [(y, c)] C ex) elt te)
    (hn : sc.names = [((".0" : Str), NameKind.local), (x, NameKind.local), (y, NameKind.free)] := by rfl) (hrel : (relabel sc X.env).names = [((".0" : Str), NameKind.local), (x, NameKind.local), (y, NameKind.cell)] := by rfl) (hcl : closureFor sc X.env = pure [(y, c)] := by rfl) (hcs : X.env.cells = [(y, c)] := by rfl)
    (hk : X.env.kindOf y = some .cell := by rfl) (hj : X.N[j]? = some y := by rfl) (hnd : ([x, y] : List Str).Nodup := by decide +kernel) (hx : sc.names.lookup x = some .local := by decide +kernel) (hcell : ∀ z ∈ sc.names, z.2 ≠ .cell := by decide +kernel)
    (hnames : ∀ z ∈ sc.names, z.2 = .local → sc.names.lookup z.1 = some .local := by decide +kernel) (hy : ([((".0" : Str), NameKind.local), (x, NameKind.local), (y, NameKind.cell)] : List (Str × NameKind)).lookup y = some .cell := by decide +kernel)
    (hc : X.calm = true := by rfl) (hkind : sc.kind = .function := by rfl) (hs : ∀ x, foldedSetIterable iter X.env x = pure x := by intro _; rfl) :
    QE X (.ListComp elt [⟨.Name x px, iter, ifs, 0⟩] sc pos) (tComp [j] wi tc te) := by
  have hN : ([x, y] : List Str) = x :: [j].map fun j => (X.N[j]?).getD "" := by simp [hj]
  exact ⟨pe_comp [x, y] hc hi.run (fun s H C ex => (hif s H C ex).run) (fun s H C ex => (he s H C ex).run) hkind hN hnd hx hcl hcell hnames (fun z c' e => by rw [hcs]; exact e)
    (fun z h => has_one hrel z h) (fun j' hj' => by
      have : j' = j := by simpa using hj'
      subst this
      exact ⟨y, hj, hk, by rw [hrel]; exact hy⟩) hs⟩
theorem rep_fold (c : Nat) : ∀ (k : Nat) (acc : Array Nat), (List.replicate k (#[c] : Array Nat)).foldl (· ++ ·) acc = acc ++ (List.replicate k c).toArray
  | 0, acc => by simp
  | k + 1, acc => by
    rw [List.replicate_succ, List.foldl_cons, rep_fold c k (acc ++ #[c]), List.replicate_succ, Array.append_assoc]
    congr 1
    apply Array.toList_inj.mp
    simp
noncomputable def reps (c : Nat) (n : Int) : Str := ⟨(List.replicate n.toNat c).toArray⟩
theorem op_mul_sign {X : Cx} : OpR X (binaryOp .Mult) (fun x y H Q => ∃ (c : Nat) (n : Int), x = .str ⟨#[c]⟩ ∧ y = .int n ∧ 0 ≤ n ∧ n ≤ 1000 ∧ Q (.str (reps c n)) H) := by
  intro pins s σ H x y v u Q I rx ry h
  obtain ⟨c, n, rfl, rfl, h0, h1, q⟩ := h
  obtain ⟨t, rfl⟩ := rx
  obtain ⟨t2, rfl⟩ := ry
  have hl : (⟨#[c]⟩ : Str).length = 1 := rfl
  refine PySem.P.mul_str (by
      have h2 : ¬ n < -(2 ^ 63 : Int) := by lia
      have h3 : ¬ n ≥ 2 ^ 63 := by lia
      rw [decide_eq_false h2, decide_eq_false h3]; rfl) (fun _ _ => ?_) (fun _ _ => ?_) ?_
  · rw [hl]
    have : (1 : Int) ≤ (2 ^ 63 - 1) / n := by
      rw [Int.le_ediv_iff_mul_le (by lia)]
      lia
    show ¬ ((1 : Nat) : Int) > _
    lia
  · rw [hl, Nat.one_mul]
    unfold Builtin.Str.tooLong
    exact decide_eq_false (by have : sizeLine = 16777216 := sizeLine_eq; lia)
  · by_cases hn : n < 1
    · rw [if_pos hn]
      have e : n = 0 := by lia
      subst e
      exact ⟨by decide, .str (reps c 0), H, I.tok _, ⟨_, rfl⟩, q⟩
    · rw [if_neg hn]
      by_cases hn1 : n = 1
      · subst hn1
        rw [if_pos (by rfl)]
        exact ⟨.str (reps c 1), H, I, ⟨_, rfl⟩, q⟩
      · have e : (n == 1 || (⟨#[c]⟩ : Str).length == 0) = false := by
          rw [hl]; simp [hn1]
        rw [if_neg (by rw [e]; exact Bool.false_ne_true)]
        have e2 : (⟨(List.replicate n.toNat (#[c] : Array Nat)).foldl (· ++ ·) #[]⟩ : Str) = reps c n := by
          rw [rep_fold, Array.empty_append]; rfl
        rw [e2]
        refine ⟨?_, .str (reps c n), H, I.tok _, ⟨_, rfl⟩, q⟩
        show (List.toArray _).size ≤ _
        rw [List.size_toArray, List.length_replicate]
        exact Nat.le_trans (show n.toNat ≤ 1000 by lia) (by decide)
end L2
namespace K4
open PySem PySem.Spec L2 Mir
noncomputable abbrev sAnyNames : Stmt := top 36
noncomputable abbrev sNames : Stmt := top 37
noncomputable def spTake : Sp := fun vs H Q _ => ∃ (a : Addr) (n m : Int), vs = [.ref a, .int m] ∧ H a = some (.lst [.int n]) ∧ 0 < m ∧ m < 1073741824 ∧ Q (.int (n % m)) (upd H a (.lst [.int (n / m)]))
noncomputable def letters36 : Str := "abcdefghijklmnopqrstuvwxyz0123456789"
theorem letters36_len : letters36.cps.toList.length = 36 := by decide +kernel
theorem letters36_line : letters36.length ≤ sizeLine := by decide +kernel
theorem letters36_ok : ∀ c ∈ letters36.cps.toList, okSign c = true := by decide +kernel
theorem letters26_ok : ∀ c ∈ letters36.cps.toList.take 26, decide (c ∈ Mir.letters.cps.toList) = true := by decide +kernel
noncomputable def spMade (mg : Str → Option Value) : Sp := fun vs H Q _ => ∃ (i : Int), vs = [.int i] ∧ ∀ (p : Addr) (xs : List Str) (H' : Hp), Same H H' → H p = none → H' p = some (.lst (xs.map V.str)) → xs.length = 8 → (∀ x ∈ xs, isName x = true) → Q (.ref p) H'
noncomputable def Word (n : Nat) (x : Str) : Prop := x.length = n ∧ headOk x.cps.toList = true ∧ x.cps.toList.all okSign = true
theorem Word.name {n : Nat} {x : Str} (h : Word n x) (h1 : 1 ≤ n) (h8 : n ≤ 8) (hn : ¬ x ∈ Mir.noNames) : isName x = true := by
  unfold isName
  rw [if_neg, h.2.1, h.2.2]
  · rfl
  · rintro (z | z | z)
    · have := h.1; rw [z] at this; have e : (("" : Str)).length = 0 := by decide +kernel
      rw [e] at this; lia
    · have := h.1; lia
    · exact hn z
theorem Word.more {n : Nat} {x : Str} {c : Nat} (h : Word n x) (h1 : 1 ≤ n) (hc : okSign c = true) : Word (n + 1) (x ++ ⟨#[c]⟩) := by
  have e : (x ++ (⟨#[c]⟩ : Str)).cps.toList = x.cps.toList ++ [c] := by show (x.cps ++ #[c]).toList = _; rw [Array.toList_append]
  have hl : (x ++ (⟨#[c]⟩ : Str)).length = x.length + 1 := by show (x.cps ++ #[c]).size = _; rw [Array.size_append]; rfl
  refine ⟨by rw [hl, h.1], ?_, ?_⟩
  · rw [e]
    have h2 := h.2.1
    cases e2 : x.cps.toList with
    | nil => rw [e2] at h2; cases h2
    | cons d r => rw [e2] at h2; exact h2
  · rw [e, List.all_append, h.2.2]; simp [hc]
theorem Word.one {c : Nat} (h : decide (c ∈ Mir.letters.cps.toList) = true) : Word 1 ⟨#[c]⟩ := by
  refine ⟨rfl, h, ?_⟩
  show ([c].all okSign) = true
  unfold okSign
  simp only [List.all_cons, List.all_nil, h, Bool.true_or, Bool.and_true]
theorem at_mod26 {xs : List Nat} {i : Int} (hl : 26 ≤ xs.length) : ∃ v, atI xs (i % 26) = some v ∧ v ∈ xs.take 26 := by
  have h0 := Int.emod_nonneg i (show (26 : Int) ≠ 0 by decide)
  have h1 := Int.emod_lt_of_pos i (show (0 : Int) < 26 by decide)
  generalize i % 26 = j at h0 h1
  obtain ⟨k, rfl⟩ := Int.eq_ofNat_of_zero_le h0
  have hk : k < xs.length := by lia
  refine ⟨xs[k], atI_nat (List.getElem?_eq_getElem hk), ?_⟩
  refine List.mem_of_getElem? (i := k) ?_
  rw [List.getElem?_take_of_lt (by lia), List.getElem?_eq_getElem hk]
noncomputable def qn (k : Nat) : Str := ("q" : Str) ++ Str.ofString (toString ((0 : Int) + (k : Nat)))
theorem qn_facts : ∀ k ∈ List.range 9, ("q" : Str).length + (Str.ofString (toString ((0 : Int) + (k : Nat)))).length ≤ sizeLine ∧ isName (qn k) = true := by decide +kernel
noncomputable def qs : List Str := (List.range 9).map qn
theorem qs_nodup : qs.Nodup := by decide +kernel
theorem qs_left {xs : List Str} (h : xs.length ≤ 8) : ∃ y r, qs.filter (fun x => !decide (x ∈ xs)) = y :: r ∧ isName y = true := by
  cases e : qs.filter (fun x => !decide (x ∈ xs)) with
  | nil =>
    exfalso
    have hs : ∀ y ∈ qs, y ∈ xs := fun y hy => by
      apply Classical.byContradiction
      intro hn
      have : y ∈ qs.filter (fun x => !decide (x ∈ xs)) := List.mem_filter.mpr ⟨hy, by simpa using hn⟩
      rw [e] at this
      simp at this
    have h1 := List.Nodup.length_le_of_subset qs_nodup hs
    have h2 : qs.length = 9 := by unfold qs; rw [List.length_map, List.length_range]
    lia
  | cons y r =>
    refine ⟨y, r, rfl, ?_⟩
    have hm : y ∈ qs.filter (fun x => !decide (x ∈ xs)) := by rw [e]; exact List.mem_cons_self ..
    obtain ⟨k, hk, rfl⟩ := List.mem_map.mp (List.mem_filter.mp hm).1
    exact (qn_facts k hk).2
noncomputable def tTaken : TT := fun σ H Q => ∃ (wd : Str) (tk nl : Addr) (xs : List Str), σ[7]? = some (some (.str wd)) ∧ σ[3]? = some (some (.ref tk)) ∧ σ[4]? = some (some (.ref nl)) ∧ H tk = some (.lst (Mir.noNames.map V.str)) ∧ H nl = some (.lst (xs.map V.str)) ∧ ∀ b : Bool, (b = false → ¬ wd ∈ Mir.noNames) → Q b H
theorem taken_weak {K : PySem.W.Frag} (σ : St) (H : Hp) (Q : Bool → Hp → Prop) (h : tTaken σ H Q) : tOr (tTest (tOp (rIn K false) (tVar 7) (tVar 3))) (tTest (tOp (rIn K false) (tVar 7) (tVar 4))) σ H Q := by
  obtain ⟨wd, tk, nl, xs, h7, h3, h4, hT, hN, q⟩ := h
  refine ⟨_, h7, _, h3, tk, _, rfl, .inl (SqL.of hT), rfl, flat_strs Mir.noNames, _, rfl, iteB (fun c => q true (fun z => by cases z)) (fun c => ?_)⟩
  have c' : inV (.str wd) (Mir.noNames.map V.str) = false := c
  rw [inV_strs] at c'
  exact ⟨_, h7, _, h4, nl, _, rfl, .inl (SqL.of hN), rfl, flat_strs xs, _, rfl, q _ fun _ => of_decide_eq_false c'⟩
section
variable {P : Program} {w : World} {K : PySem.W.Frag} {mg : Str → Option Value} {base : Heap} {f g : Addr} {fd gd : FuncData}
theorem scTake : FnScope ["_law_feed", "_law_many_here", "_law_number"] ["_law_feed", "_law_many_here"] (defScope sTake) := ⟨rfl, rfl, rfl, by decide +kernel, rfl, by decide +kernel, by decide +kernel⟩
theorem ok_take (F : Fun K "_law_take" "_law_take" sTake f fd) : FnOk P w K mg base CX0 1 f fd ["_law_feed", "_law_many_here"] spTake := by
  refine F.okQ scTake (fun vs H Q E h => ?_) (fun cdv A outer s H vs Q E hr h => ?_)
  · obtain ⟨a, n, m, rfl, _⟩ := h; rfl
  obtain ⟨a, n, m, rfl, hA, h0, h1, q⟩ := h
  have nd := scTake.nd
  refine ⟨_, qb_cons (qs_set (i := 2) nd rfl (Or.inl rfl) (qe_ix ix_list (qv 0) qe_int (fun _ _ => rfl)))
    (qb_cons (qs_asg (qe_op op_fdiv (qv 2) (qv 1)) (qg_sub (qv 0) qe_int set_list)) (qb_one (qs_ret (qe_op op_mod (qv 2) (qv 1))))), ?_⟩
  refine ⟨_, rfl, a, _, 0, .int n, rfl, rfl, SqL.of hA, rfl, ?_⟩
  refine ⟨_, rfl, _, rfl, _, _, rfl, rfl, ⟨h0, h1⟩, _, rfl, a, _, 0, 0, rfl, rfl, hA, rfl, ?_⟩
  exact ⟨_, rfl, _, rfl, _, _, rfl, rfl, h0, q⟩
theorem scAnyNames : FnScope ["_law_cell", "_law_feed", "_law_letters", "_law_taken", "_law_names_here", "_law_k", "_law_size", "_law_word", "_law_j"] ["_law_cell"] (defScope sAnyNames) := ⟨rfl, rfl, rfl, by decide +kernel, rfl, by decide +kernel, by decide +kernel⟩
theorem ok_anyNames (C : Con K mg w) (hrg : mg "range" = none) (F : Fun K "_law_any_names" "_law_any_names" sAnyNames f fd) (G : FnOk P w K mg base CX0 1 g gd ["_law_feed", "_law_many_here"] spTake) (cG : Cal K mg "_law_take" g gd ["_law_feed", "_law_many_here"]) :
    FnOk P w K mg base CX0 2 f fd ["_law_cell"] (spMade mg) := by
  refine F.okQ scAnyNames (fun vs H Q E h => ?_) (fun cdv A outer s H vs Q E hr h => ?_)
  · obtain ⟨i, rfl, _⟩ := h; rfl
  obtain ⟨i, rfl, q⟩ := h
  have nd := scAnyNames.nd
  refine ⟨_, qb_cons (qs_set (i := 1) nd rfl (Or.inl rfl) (qe_lst (qa_nm (qv 0) qa_nil)))
    (qb_cons (qs_set (i := 2) nd rfl (Or.inl rfl) qe_str)
    (qb_cons (qs_set (i := 3) nd rfl (Or.inl rfl) (qe_lst (qa_str (qa_str (qa_str (qa_str (qa_str (qa_str (qa_str (qa_str (qa_str (qa_str qa_nil))))))))))))
    (qb_cons (qs_set (i := 4) nd rfl (Or.inr rfl) (qe_lst qa_nil))
    (qb_cons (qs_for PassesOwn.never rfl (qi_range1 rfl hrg (qa_int qa_nil)) (qg_name (i := 5) nd rfl (Or.inl rfl))
      (qb_cons (qs_set (i := 6) nd rfl (Or.inl rfl) (qe_op op_add qe_int (qe_call G hr rfl cG.name cG.keep cG.bind .nil pass0 (qa_nm (qv 1) (qa_int qa_nil)))))
      (qb_cons (qs_set (i := 7) nd rfl (Or.inl rfl) (qe_ix ix_str (qv 2) (qe_call G hr rfl cG.name cG.keep cG.bind .nil pass0 (qa_nm (qv 1) (qa_int qa_nil))) (fun _ _ => rfl)))
      (qb_cons (qs_for PassesOwn.never rfl (qi_range1 rfl hrg (qa_bop (qe_op op_sub (qv 6) qe_int) qa_nil)) (qg_name (i := 8) nd rfl (Or.inl rfl))
        (qb_one (qs_set (i := 7) nd rfl (Or.inl rfl) (qe_op op_add_str (qv 7) (qe_ix ix_str (qv 2) (qe_call G hr rfl cG.name cG.keep cG.bind .nil pass0 (qa_nm (qv 1) (qa_int qa_nil))) (fun _ _ => rfl))))))
      (qb_cons (qs_if (qt_weak (QW.qt (qw_or (qt_cmpR op_in_seq (qv 7) (qv 3) (by with_unfolding_all rfl)) (qw_or1 (qt_cmpR op_in_seq (qv 7) (qv 4) (by with_unfolding_all rfl))))) (taken_weak (K := K)))
        (qb_one (qs_set (i := 7) nd rfl (Or.inl rfl) (qe_ix ix_list (qe_comp1 4 (qi_list (qe_comp0 (qi_range1 rfl hrg (qa_int qa_nil)) (fun _ _ _ _ => qts_nil) (fun _ _ _ _ => qe_op op_add_str qe_str (qe_callTy call_str_int rfl C.str PyProof.Rows.boot_str (qa_nm (qv 0) qa_nil)))))
          (fun _ _ _ _ => qts_one (qt_cmpR (show OpR _ _ (rIn K true) from op_notIn_seq) (qv 0) (qv 1) (by with_unfolding_all rfl))) (fun _ _ _ _ => qv 0)) qe_int (fun _ _ => rfl)))) qb_nil)
      (qb_one (qs_expr (qe_bmK (K := K) rfl PySem.F.plainAttrs_list PySem.F.slot_list_append PySem.F.type_list_append mt_append (qv 4) (qa_nm (qv 7) qa_nil)))))))))
    (qb_one (qs_ret (qv 4))))))), ?_⟩
  refine ⟨_, rfl, (show 1 ≤ sizeLine by decide), fun fe hfe => ?_⟩
  have s1 := same_new hfe (.lst [.int i])
  refine ⟨(show 10 ≤ sizeLine by decide), fun tk htk => ?_⟩
  have s2 := same_new htk (.lst (Mir.noNames.map V.str))
  refine ⟨Nat.zero_le _, fun nl hnl => ?_⟩
  have s3 := same_new hnl (.lst [])
  have hft : fe ≠ tk := ne_of_none upd_same htk
  have hfn : fe ≠ nl := ne_of_none (s2 _ _ upd_same) hnl
  have htn : tk ≠ nl := ne_of_none upd_same hnl
  have hn0 : H nl = none := s1.free (s2.free hnl)
  refine ⟨_, rfl, (by decide), (by decide), ?_⟩
  refine for_range (lo := 0) (n := 8) (fun k σ H' => Same H H' ∧ ∃ n xs z5 z6 z7 z8, H' fe = some (.lst [.int n]) ∧ H' tk = some (.lst (Mir.noNames.map V.str)) ∧ H' nl = some (.lst ((xs : List Str).map V.str)) ∧ xs.length = k ∧ (∀ x ∈ xs, isName x = true) ∧
    σ = [some (.int i), some (.ref fe), some (.str letters36), some (.ref tk), some (.ref nl), z5, z6, z7, z8]) ⟨s1.trans (s2.trans s3), i, [], none, none, none, none, s3 _ _ (s2 _ _ upd_same), s3 _ _ upd_same, upd_same, rfl, by simp, rfl⟩ ?_ ?_
  · rintro k σ H' hk ⟨e, n, xs, z5, z6, z7, z8, hF, hT, hN, hxl, hxs, rfl⟩
    refine ⟨_, rfl, fe, n, 8, rfl, hF, by decide, by decide, _, _, rfl, rfl, ?_⟩
    have g0 := Int.emod_nonneg n (show (8 : Int) ≠ 0 by decide)
    have g1 := Int.emod_lt_of_pos n (show (0 : Int) < 8 by decide)
    obtain ⟨c, hc, hcm⟩ := at_mod26 (xs := letters36.cps.toList) (i := n / 8) (by rw [letters36_len]; decide)
    refine ⟨_, rfl, _, rfl, fe, n / 8, 26, rfl, upd_same, by decide, by decide, letters36, _, c, rfl, rfl, letters36_line, hc, ?_⟩
    refine ⟨_, rfl, _, _, rfl, rfl, _, rfl, (by show -(2 ^ 62) ≤ 1 + n % 8 - 1; lia), (by show 1 + n % 8 - 1 < 2 ^ 62; lia), ?_⟩
    have up : ∀ {Hx : Hp} {b : Addr} {o u : HO}, b ≠ fe → Hx b = some o → upd Hx fe u b = some o := fun hb hq => by rw [upd_ne hb]; exact hq
    refine for_range (lo := 0) (n := (1 + n % 8 - 1).toNat) (fun j σ H2 => Same H H2 ∧ ∃ n2 wd z8, H2 fe = some (.lst [.int n2]) ∧ H2 tk = some (.lst (Mir.noNames.map V.str)) ∧ H2 nl = some (.lst (xs.map V.str)) ∧ Word (1 + j) wd ∧
      σ = [some (.int i), some (.ref fe), some (.str letters36), some (.ref tk), some (.ref nl), some (.int (0 + (k : Int))), some (.int (1 + n % 8)), some (.str wd), z8])
      ⟨same_put hfe (same_put hfe e _) _, n / 8 / 26, ⟨#[c]⟩, z8, upd_same, up (Ne.symm hft) (up (Ne.symm hft) hT), up (Ne.symm hfn) (up (Ne.symm hfn) hN), Word.one (letters26_ok c hcm), rfl⟩ ?_ ?_
    · rintro j σ H2 hj ⟨e2, n2, wd, z8, hF2, hT2, hN2, hW, rfl⟩
      obtain ⟨d, hd, hdm⟩ := at_mod (xs := letters36.cps.toList) (m := 36) (i := n2) (by rw [letters36_len]; rfl) (by decide)
      refine ⟨_, rfl, _, rfl, _, rfl, fe, n2, 36, rfl, hF2, by decide, by decide, letters36, _, d, rfl, rfl, letters36_line, hd, wd, _, rfl, rfl, ?_, ?_⟩
      · rw [hW.1]; exact Nat.le_trans (show 1 + j + 1 ≤ 1000 by lia) (by decide)
      · exact ⟨same_put hfe e2 _, _, _, _, upd_same, up (Ne.symm hft) hT2, up (Ne.symm hfn) hN2, hW.more (by lia) (letters36_ok d hdm), rfl⟩
    · rintro σ H2 ⟨e2, n2, wd, z8, hF2, hT2, hN2, hW, rfl⟩
      have hx8 : xs.length ≤ 8 := by lia
      have fin : ∀ (H3 : Hp) (w2 : Str), Same H H3 → H3 fe = some (.lst [.int n2]) → H3 tk = some (.lst (Mir.noNames.map V.str)) → H3 nl = some (.lst (xs.map V.str)) → isName w2 = true → xs.length < sizeLine := fun _ _ _ _ _ _ _ => Nat.lt_of_le_of_lt hx8 (by decide)
      refine ⟨wd, tk, nl, xs, rfl, rfl, rfl, hT2, hN2, fun b hb => iteB (fun cb => ?_) (fun cb => ?_)⟩
      · -- another word in its place
        refine ⟨_, rfl, (by decide), (by decide), ?_⟩
        refine comp_str (nums 0 9) (List.range 9) qn jseq_rng trivial (by simp [nums]) (by simp [nums]) (fun i' x r hx hr' H4 e4 Q' q' => ?_) fun D1 H4 hD1 e4 hd1 => ?_
        · have hr9 : r ∈ List.range 9 := List.mem_of_getElem? hr'
          have hx' : x = .int ((0 : Int) + (r : Nat)) := by
            unfold nums at hx
            rw [List.getElem?_map, hr'] at hx
            exact (Option.some.inj hx).symm
          subst hx'
          have hlt : r < 9 := List.mem_range.mp hr9
          refine ⟨_, rfl, _, rfl, ?_, _, _, rfl, rfl, (qn_facts r hr9).1, q' H4 (Same.refl _)⟩
          exact Nat.lt_of_le_of_lt (Nat.log2_le_self _) (by lia)
        refine ⟨D1, rfl, ⟨_, SqL.of hd1⟩, ?_⟩
        refine comp_map (qs.map V.str) (fun v => !inV v (xs.map V.str)) id jseq_list (SqL.of hd1) ?_ ?_ ?_ ?_
        · rw [List.length_map]; exact (by decide +kernel : qs.length ≤ sizeLine)
        · intro v hv H5 e5 Q' q'
          obtain ⟨y, hy, rfl⟩ := List.mem_map.mp hv
          exact ⟨_, rfl, _, rfl, nl, _, rfl, .inl (SqL.of (e5 _ _ (e4 _ _ hN2))), rfl, flat_strs _, _, rfl, q' H5 (Same.refl _)⟩
        · intro v hv hpv H5 e5 Q' q'
          obtain ⟨y, hy, rfl⟩ := List.mem_map.mp hv
          exact ⟨_, rfl, q' H5 (Same.refl _)⟩
        · intro D2 H5 hD2 e5 hd2
          have hw : ((qs.map V.str).filter (fun v => !inV v (xs.map V.str))).map id = (qs.filter fun x => !decide (x ∈ xs)).map V.str := by
            rw [List.map_id, List.filter_map]
            congr 1
            apply List.filter_congr
            intro x _
            show (!inV (.str x) (xs.map V.str)) = _
            rw [inV_strs]
          rw [hw] at hd2
          obtain ⟨y, r, ey, hy⟩ := qs_left hx8
          rw [ey] at hd2
          have e6 := e4.trans e5
          refine ⟨D2, _, 0, .str y, rfl, rfl, SqL.of hd2, atI_nat (j := 0) rfl, ?_⟩
          refine ⟨_, rfl, .inl ⟨rfl, _, SqL.of (e6 _ _ hN2)⟩, _, rfl, nl, _, .str y, rfl, rfl, e6 _ _ hN2, ?_, ?_⟩
          · rw [List.length_map]; exact Nat.lt_of_le_of_lt hx8 (by decide)
          refine ⟨same_put hn0 (e2.trans e6) _, n2, xs ++ [y], _, _, _, _, ?_, ?_, ?_, ?_, ?_, rfl⟩
          · rw [upd_ne hfn]; exact e6 _ _ hF2
          · rw [upd_ne htn]; exact e6 _ _ hT2
          · rw [upd_same, List.map_append]; rfl
          · rw [List.length_append, List.length_singleton, hxl]
          · intro x hx
            rcases List.mem_append.mp hx with h | h
            · exact hxs x h
            · simp only [List.mem_cons, List.not_mem_nil, or_false] at h; rw [h]; exact hy
      · have hnm : isName wd = true := hW.name (by lia) (by lia) (hb cb)
        refine ⟨_, rfl, .inl ⟨rfl, _, SqL.of hN2⟩, _, rfl, nl, _, .str wd, rfl, rfl, hN2, ?_, ?_⟩
        · rw [List.length_map]; exact Nat.lt_of_le_of_lt hx8 (by decide)
        refine ⟨same_put hn0 e2 _, n2, xs ++ [wd], _, _, _, _, ?_, ?_, ?_, ?_, ?_, rfl⟩
        · rw [upd_ne hfn]; exact hF2
        · rw [upd_ne htn]; exact hT2
        · rw [upd_same, List.map_append]; rfl
        · rw [List.length_append, List.length_singleton, hxl]
        · intro x hx
          rcases List.mem_append.mp hx with h | h
          · exact hxs x h
          · simp only [List.mem_cons, List.not_mem_nil, or_false] at h; rw [h]; exact hnm
  · rintro σ H' ⟨e, n, xs, z5, z6, z7, z8, hF, hT, hN, hxl, hxs, rfl⟩
    exact ⟨_, rfl, q nl xs H' e hn0 hN hxl hxs⟩
end
end K4
namespace K4
open PySem PySem.Spec L2 Mir
noncomputable def jx : Str := "jx4jx4jx"
noncomputable def yy : Str := "y"
noncomputable def ah : Str := "abcdefgh"
noncomputable def s26 : Str := "abcdefghijklmnopqrstuvwxyz"
noncomputable def fig : Str := "0123456789"
noncomputable def s36 : Str := s26 ++ fig
noncomputable def jxWord (m : Int) : Str := cutS jx (some m) none ++ yy
noncomputable def jxName (m : Int) (k : Nat) : Str := cutS (jxWord m) none (some (1 + (0 + (k : Int))))
theorem jx_names : ∀ m ∈ [(0 : Int), 1], (cutS jx (some m) none).length + yy.length ≤ sizeLine ∧ (jxWord m).length ≤ sizeLine ∧ ∀ k ∈ List.range 8, isName (jxName m k) = true := by decide +kernel
theorem jx_line : jx.length ≤ sizeLine := by decide +kernel
theorem ah_line : ah.length ≤ sizeLine := by decide +kernel
theorem ah_len : (ah.cps.toList.length : Int) = 8 := by decide +kernel
theorem s26_len : s26.length = 26 := by decide +kernel
theorem s36_len : s36.length = 36 := by decide +kernel
theorem ah_ok : ∀ c ∈ ah.cps.toList, decide (c ∈ Mir.letters.cps.toList) = true ∧ okSign c = true := by decide +kernel
theorem s26_ok : ∀ c ∈ s26.cps.toList, decide (c ∈ Mir.letters.cps.toList) = true ∧ okSign c = true := by decide +kernel
theorem s36_ok : ∀ c ∈ s36.cps.toList, okSign c = true := by decide +kernel
noncomputable def far (l : List Nat) : Nat := (l.filter fun c => !decide (c ∈ ah.cps.toList)).length
theorem far_app (a b : List Nat) : far (a ++ b) = far a + far b := by unfold far; rw [List.filter_append, List.length_append]
theorem far_rep {c : Nat} (h : c ∈ ah.cps.toList) (n : Nat) : far (List.replicate n c) = 0 := by
  unfold far
  rw [List.filter_eq_nil_iff.mpr]
  · rfl
  · intro x hx
    rw [List.eq_of_mem_replicate hx]
    simp [h]
theorem far_one (d : Nat) : far [d] ≤ 1 := by unfold far; exact List.length_filter_le _ _
theorem far_no : ∀ x ∈ Mir.noNames, 2 ≤ far x.cps.toList := by decide +kernel
noncomputable def oneName (c0 d : Nat) (a b : Int) : Str := reps c0 a ++ ⟨#[d]⟩ ++ reps c0 b
theorem oneName_ok {c0 d : Nat} {a b : Int} (hc : c0 ∈ ah.cps.toList) (ha : 0 ≤ a) (hb : 0 ≤ b) (hab : a + b ≤ 7) (hd : okSign d = true) (h0 : a = 0 → decide (d ∈ Mir.letters.cps.toList) = true) : isName (oneName c0 d a b) = true := by
  have e : (oneName c0 d a b).cps.toList = List.replicate a.toNat c0 ++ [d] ++ List.replicate b.toNat c0 := by
    unfold oneName reps
    show (((List.replicate a.toNat c0).toArray ++ #[d]) ++ (List.replicate b.toNat c0).toArray).toList = _
    rw [Array.toList_append, Array.toList_append]
  have hl : (oneName c0 d a b).length = a.toNat + 1 + b.toNat := by
    show (oneName c0 d a b).cps.size = _
    rw [← Array.length_toList, e, List.length_append, List.length_append, List.length_replicate, List.length_replicate]; rfl
  have hco := ah_ok c0 hc
  have hW : Word (a.toNat + 1 + b.toNat) (oneName c0 d a b) := by
    refine ⟨hl, ?_, ?_⟩
    · rw [e]
      by_cases ha0 : a = 0
      · subst ha0; exact h0 rfl
      · obtain ⟨n, hn⟩ : ∃ n, a.toNat = n + 1 := ⟨a.toNat - 1, by lia⟩
        rw [hn, List.replicate_succ]
        exact hco.1
    · rw [e, List.all_append, List.all_append]
      have h1 : ∀ n, (List.replicate n c0).all okSign = true := fun n => by
        rw [List.all_eq_true]; intro x hx; rw [List.eq_of_mem_replicate hx]; exact hco.2
      rw [h1, h1]; simp [hd]
  refine hW.name (by lia) (by lia) fun hn => ?_
  have h1 := far_no _ hn
  rw [e, far_app, far_app, far_rep hc, far_rep hc] at h1
  have h2 := far_one d
  lia
theorem set_same {σ : St} {i : Nat} {v : Option V} (h : σ[i]? = some v) : σ.set i v = σ := by
  apply List.ext_getElem?
  intro j
  by_cases hj : i = j
  · subst hj
    rw [List.getElem?_set_self (List.getElem?_eq_some_iff.mp h).1, h]
  · rw [List.getElem?_set_ne hj]
theorem qs_weak {X : Cx} {st : Stmt} {t t' : TS} (h : QS X st t) (w : ∀ D σ H, t' D σ H → t D σ H) : QS X st t' := ⟨fun pins s σ H D I q => h.run pins s σ H D I (w D σ H q)⟩
noncomputable def tSome : TS := fun D σ H => ∃ a : Int, σ[4]? = some (some (.int a)) ∧ σ[6]? = some (some (.str s26)) ∧ ∀ sm : Str, (sm = s26 ∨ (0 < a ∧ sm = s36)) → D.nx (σ.set 6 (some (.str sm))) H
theorem some_weak (D : Ends) (σ : St) (H : Hp) (h : tSome D σ H) : tIfS (tTest (tOp (rI0 fun i j => .bl (decide (j < i))) (tVar 4) (tC (.int 0)))) (tAsg (tOp (fun x y H Q => ∃ i j, x = .str i ∧ y = .str j ∧ i.length + j.length ≤ sizeLine ∧ Q (.str (i ++ j)) H) (tVar 6) (tC (.str fig))) (gName 6)) tNext D σ H := by
  obtain ⟨a, h4, h6, q⟩ := h
  refine ⟨_, h4, _, _, rfl, rfl, _, rfl, iteB (fun c => ?_) (fun c => ?_)⟩
  · refine ⟨_, h6, s26, fig, rfl, rfl, by decide +kernel, ?_⟩
    exact q s36 (.inr ⟨of_decide_eq_true c, rfl⟩)
  · have := q s26 (.inl rfl)
    rw [set_same h6] at this
    exact this
section
variable {P : Program} {w : World} {K : PySem.W.Frag} {mg : Str → Option Value} {base : Heap} {f g : Addr} {fd gd : FuncData}
theorem scNames : FnScope ["_law_cell", "_law_word", "_law_k", "_law_size", "_law_at", "_law_other", "_law_some", "_law_names_here", "_law_one"] ["_law_cell"] (defScope sNames) := ⟨rfl, rfl, rfl, by decide +kernel, rfl, by decide +kernel, by decide +kernel⟩
theorem ok_names (C : Con K mg w) (hrg : mg "range" = none) (F : Fun K "_law_names" "_law_names" sNames f fd) (G : FnOk P w K mg base CX0 2 g gd ["_law_cell"] (spMade mg)) (cG : Cal K mg "_law_any_names" g gd ["_law_cell"]) :
    FnOk P w K mg base CX0 3 f fd ["_law_cell"] (spMade mg) := by
  refine F.okQ scNames (fun vs H Q E h => ?_) (fun cdv A outer s H vs Q E hr h => ?_)
  · obtain ⟨i, rfl, _⟩ := h; rfl
  obtain ⟨i, rfl, q⟩ := h
  have nd := scNames.nd
  refine ⟨_, qb_cons (qs_if (qt_cmpR op_eq (qe_op op_mod (qv 0) qe_int) qe_int (nomark _)) (qb_one (qs_ret (qe_call G hr rfl cG.name cG.keep cG.bind .nil pass0 (qa_bop (qe_op op_fdiv (qv 0) qe_int) qa_nil)))) qb_nil)
    (qb_cons (qs_set (i := 0) nd rfl (Or.inl rfl) (qe_op op_fdiv (qv 0) qe_int))
    (qb_cons (qs_if (qt_cmpR op_eq (qe_op op_mod (qv 0) qe_int) qe_int (nomark _))
      (qb_cons (qs_set (i := 1) nd rfl (Or.inr rfl) (qe_op op_add_str (qe_slice sl_str qe_str (qo_some (qe_op op_mod (qe_op op_fdiv (qv 0) qe_int) qe_int)) qo_none) qe_str))
      (qb_one (qs_ret (qe_comp1 1 (qi_range1 rfl hrg (qa_int qa_nil)) (fun _ _ _ _ => qts_nil) (fun _ _ _ _ => qe_slice sl_str (qv 1) qo_none (qo_some (qe_op op_add qe_int (qv 0)))))))) qb_nil)
    (qb_cons (qs_set (i := 3) nd rfl (Or.inl rfl) (qe_op op_add qe_int (qe_op op_mod (qe_op op_fdiv (qv 0) qe_int) qe_int)))
    (qb_cons (qs_set (i := 4) nd rfl (Or.inl rfl) (qe_op op_mod (qe_op op_fdiv (qv 0) qe_int) (qv 3)))
    (qb_cons (qs_set (i := 5) nd rfl (Or.inl rfl) (qe_ix ix_str qe_str (qe_op op_mod (qe_op op_fdiv (qv 0) qe_int) qe_int) (fun _ _ => rfl)))
    (qb_cons (qs_set (i := 6) nd rfl (Or.inl rfl) qe_str)
    (qb_cons (qs_weak (qs_if (qt_cmpR op_gt (qv 4) qe_int (nomark _)) (qb_one (qs_set (i := 6) nd rfl (Or.inl rfl) (qe_op op_add_str (qv 6) qe_str))) qb_nil) some_weak)
    (qb_cons (qs_set (i := 7) nd rfl (Or.inl rfl) (qe_lst qa_nil))
    (qb_cons (qs_for PassesOwn.never rfl (qi_range1 rfl hrg (qa_int qa_nil)) (qg_name (i := 2) nd rfl (Or.inl rfl))
      (qb_cons (qs_set (i := 8) nd rfl (Or.inl rfl) (qe_ix ix_str (qv 6) (qe_op op_mod (qe_op op_add (qe_op op_fdiv (qv 0) qe_int) (qe_op op_mul (qv 2) (qe_op op_add qe_int (qe_op op_mod (qv 0) qe_int)))) (qe_callB call_len_str rfl C.len PySem.boot_len (qa_nm (qv 6) qa_nil))) (fun _ _ => rfl)))
      (qb_one (qs_expr (qe_bmK (K := K) rfl PySem.F.plainAttrs_list PySem.F.slot_list_append PySem.F.type_list_append mt_append (qv 7)
        (qa_bop (qe_op op_add_str (qe_op op_add_str (qe_op op_mul_sign (qv 5) (qv 4)) (qv 8)) (qe_op op_mul_sign (qv 5) (qe_op op_sub (qe_op op_sub (qv 3) qe_int) (qv 4)))) qa_nil))))))
    (qb_one (qs_ret (qv 7)))))))))))), ?_⟩
  refine ⟨_, rfl, _, _, rfl, rfl, (show (0 : Int) < 2 by decide), rfl, _, rfl, iteB (fun c => ?_) (fun c => ?_)⟩
  · exact ⟨_, rfl, _, _, rfl, rfl, (show CDiv _ 2 from ⟨by decide, by decide⟩), _, rfl, q⟩
  refine ⟨_, rfl, _, _, rfl, rfl, (show CDiv _ 2 from ⟨by decide, by decide⟩), ?_⟩
  refine ⟨_, rfl, _, _, rfl, rfl, (show (0 : Int) < 3 by decide), rfl, _, rfl, iteB (fun c2 => ?_) (fun c2 => ?_)⟩
  · -- beginnings of one another
    have m0 := Int.emod_nonneg (i / 2 / 3) (show (2 : Int) ≠ 0 by decide)
    have m1 := Int.emod_lt_of_pos (i / 2 / 3) (show (0 : Int) < 2 by decide)
    have hm : i / 2 / 3 % 2 ∈ [(0 : Int), 1] := by
      simp only [List.mem_cons, List.not_mem_nil, or_false]; lia
    obtain ⟨j1, j2, j3⟩ := jx_names _ hm
    refine ⟨_, rfl, _, _, rfl, rfl, (show CDiv _ 3 from ⟨by decide, by decide⟩), _, _, rfl, rfl, (show (0 : Int) < 2 by decide), _, rfl, jx, rfl, jx_line, _, yy, rfl, rfl, j1, ?_⟩
    refine ⟨_, rfl, (by decide), (by decide), ?_⟩
    refine comp_str (nums 0 8) (List.range 8) (jxName (i / 2 / 3 % 2)) jseq_rng trivial (by simp [nums]) (by simp [nums]) (fun i' x r hx hr' H4 e4 Q' q' => ?_) fun D1 H4 hD1 e4 hd1 => ?_
    · have hx' : x = .int ((0 : Int) + (r : Nat)) := by
        unfold nums at hx
        rw [List.getElem?_map, hr'] at hx
        exact (Option.some.inj hx).symm
      subst hx'
      exact ⟨_, rfl, _, rfl, _, _, rfl, rfl, _, rfl, _, rfl, j2, q' H4 (Same.refl _)⟩
    · refine q D1 _ H4 e4 hD1 hd1 (by simp) fun x hx => ?_
      obtain ⟨k, hk, rfl⟩ := List.mem_map.mp hx
      exact j3 k hk
  have g0 := Int.emod_nonneg (i / 2 / 3) (show (8 : Int) ≠ 0 by decide)
  have g1 := Int.emod_lt_of_pos (i / 2 / 3) (show (0 : Int) < 8 by decide)
  have hsz : (0 : Int) < 1 + i / 2 / 3 % 8 := by lia
  have a0 := Int.emod_nonneg (i / 2 / 24) (show 1 + i / 2 / 3 % 8 ≠ 0 by lia)
  have a1 := Int.emod_lt_of_pos (i / 2 / 24) hsz
  obtain ⟨c0, hc0, hcm⟩ := at_mod (xs := ah.cps.toList) (m := 8) (i := i / 2 / 192) ah_len (by decide)
  refine ⟨_, rfl, _, _, rfl, rfl, (show CDiv _ 3 from ⟨by decide, by decide⟩), _, _, rfl, rfl, (show (0 : Int) < 8 by decide), _, _, rfl, rfl, ?_⟩
  refine ⟨_, rfl, _, _, rfl, rfl, (show CDiv _ 24 from ⟨by decide, by decide⟩), _, rfl, _, _, rfl, rfl, hsz, ?_⟩
  refine ⟨_, rfl, _, _, rfl, rfl, (show CDiv _ 192 from ⟨by decide, by decide⟩), _, _, rfl, rfl, (show (0 : Int) < 8 by decide), ah, _, c0, rfl, rfl, ah_line, hc0, ?_⟩
  refine ⟨_, rfl, rfl, fun sm hsm => ?_⟩
  have hsml : sm.length = 26 ∨ sm.length = 36 := by
    rcases hsm with h | h
    · exact .inl (by rw [h]; exact s26_len)
    · exact .inr (by rw [h.2]; exact s36_len)
  have hsmLine : sm.length ≤ sizeLine := by
    rcases hsml with h | h <;> rw [h] <;> decide
  have hsm2 : sm.cps.toList.length = sm.length := Array.length_toList ..
  refine ⟨Nat.zero_le _, fun nl hnl => ?_⟩
  have s1 := same_new hnl (.lst [])
  refine ⟨_, rfl, (by decide), (by decide), ?_⟩
  refine for_range (lo := 0) (n := 8) (fun k σ H' => Same H H' ∧ ∃ xs z2 z8, H' nl = some (.lst ((xs : List Str).map V.str)) ∧ xs.length = k ∧ (∀ x ∈ xs, isName x = true) ∧
    σ = [some (.int (i / 2)), none, z2, some (.int (1 + i / 2 / 3 % 8)), some (.int (i / 2 / 24 % (1 + i / 2 / 3 % 8))), some (.str ⟨#[c0]⟩), some (.str sm), some (.ref nl), z8]) ⟨s1, [], none, none, upd_same, rfl, by simp, rfl⟩ ?_ ?_
  · rintro k σ H' hk ⟨e, xs, z2, z8, hN, hxl, hxs, rfl⟩
    obtain ⟨d, hd, hdm⟩ := at_mod (xs := sm.cps.toList) (m := (sm.length : Int)) (i := i / 2 / 1536 + (0 + (k : Int)) * (1 + i / 2 % 3)) (by rw [hsm2]) (by lia)
    refine ⟨_, rfl, _, rfl, _, _, rfl, rfl, (show CDiv _ 1536 from ⟨by decide, by decide⟩), _, rfl, _, rfl, _, _, rfl, rfl, (show (0 : Int) < 3 by decide), _, _, rfl, rfl, _, _, rfl, rfl, .inl ⟨by lia, by lia⟩, _, _, rfl, rfl, _, rfl, sm, rfl, hsmLine, _, _, rfl, rfl, (by lia), sm, _, d, rfl, rfl, hsmLine, hd, ?_⟩
    have hdo : okSign d = true := by
      rcases hsm with h | h
      · rw [h] at hdm; exact (s26_ok d hdm).2
      · rw [h.2] at hdm; exact s36_ok d hdm
    have hd0 : i / 2 / 24 % (1 + i / 2 / 3 % 8) = 0 → decide (d ∈ Mir.letters.cps.toList) = true := fun h0 => by
      rcases hsm with h | h
      · rw [h] at hdm; exact (s26_ok d hdm).1
      · have := h.1; lia
    have hnm := oneName_ok (c0 := c0) (d := d) (a := i / 2 / 24 % (1 + i / 2 / 3 % 8)) (b := 1 + i / 2 / 3 % 8 - 1 - i / 2 / 24 % (1 + i / 2 / 3 % 8)) hcm a0 (by lia) (by lia) hdo hd0
    have r1 : ∀ n : Int, (reps c0 n).length = n.toNat := fun n => by
      show (List.toArray _).size = _
      rw [List.size_toArray, List.length_replicate]
    refine ⟨_, rfl, .inl ⟨rfl, _, SqL.of hN⟩, _, rfl, _, rfl, c0, _, rfl, rfl, a0, (by lia), _, rfl, _, _, rfl, rfl, ?_, ?_⟩
    · rw [r1]; exact Nat.le_trans (show (i / 2 / 24 % (1 + i / 2 / 3 % 8)).toNat + 1 ≤ 1000 by lia) (by decide)
    refine ⟨_, rfl, _, rfl, _, _, rfl, rfl, _, rfl, _, _, rfl, rfl, c0, _, rfl, rfl, (by lia), (by lia), _, _, rfl, rfl, ?_, ?_⟩
    · have hl : (reps c0 (i / 2 / 24 % (1 + i / 2 / 3 % 8)) ++ (⟨#[d]⟩ : Str)).length = (i / 2 / 24 % (1 + i / 2 / 3 % 8)).toNat + 1 := by
        rw [Str.length_append, r1]; rfl
      rw [hl, r1]
      exact Nat.le_trans (show (i / 2 / 24 % (1 + i / 2 / 3 % 8)).toNat + 1 + (1 + i / 2 / 3 % 8 - 1 - i / 2 / 24 % (1 + i / 2 / 3 % 8)).toNat ≤ 1000 by lia) (by decide)
    refine ⟨nl, _, _, rfl, rfl, hN, ?_, ?_⟩
    · rw [List.length_map, hxl]; exact Nat.lt_of_le_of_lt (show k ≤ 1000 by lia) (by decide)
    refine ⟨same_put hnl e _, xs ++ [oneName c0 d (i / 2 / 24 % (1 + i / 2 / 3 % 8)) (1 + i / 2 / 3 % 8 - 1 - i / 2 / 24 % (1 + i / 2 / 3 % 8))], _, _, ?_, ?_, ?_, rfl⟩
    · rw [upd_same, List.map_append]; rfl
    · rw [List.length_append, List.length_singleton, hxl]
    · intro x hx
      rcases List.mem_append.mp hx with h | h
      · exact hxs x h
      · simp only [List.mem_cons, List.not_mem_nil, or_false] at h; rw [h]; exact hnm
  · rintro σ H' ⟨e, xs, z2, z8, hN, hxl, hxs, rfl⟩
    exact ⟨_, rfl, q nl xs H' e hnl hN hxl hxs⟩
end
end K4
namespace L2
open PySem PySem.Spec PyProof.Rows
section
variable {X : Cx} {pins : List (Addr × Obj)} {σ : St} {H : Hp} {s : Shared} {h' : Heap}
end
section
variable {X : Cx}
end
end L2
namespace L2
open PySem PySem.Spec PyProof.Rows
section
variable {X : Cx}
theorem ps_setcomp {elt iter : Expr} {x yv : Str} {px pos py pos2 : Pos} {iy : Nat} {ifs : List Expr} {sc : Scope} {cl : List (Str × Addr)} {ix : List Nat} {wi : TI} {tc : TT} {te : TE} (N : List Str) (hNd : X.N.Nodup) (hiy : X.N[iy]? = some yv) (hyv : Loc X.env.scope yv) (hsw : swapsWith (.ListComp elt [⟨.Name x px, iter, ifs, 0⟩] sc pos) (some (.Name yv py)) pos2.line X.env = pure true) (hfy : X.fn yv = true ∨ X.env.scope.names.lookup yv = some .local)
    (hc : X.calm = true) (hi : PI X (.Name x px) iter wi) (hif : ∀ s H C ex, PTs (blk X N s H sc cl C ex) ifs tc) (he : ∀ s H C ex, PE (blk X N s H sc cl C ex) elt te)
    (hkind : sc.kind = .function) (hN : N = x :: ix.map fun j => (X.N[j]?).getD "") (hnd : N.Nodup) (hx : sc.names.lookup x = some .local)
    (hcl : closureFor sc X.env = pure cl) (hcell : ∀ y ∈ sc.names, y.2 ≠ .cell) (hnames : ∀ y ∈ sc.names, y.2 = .local → sc.names.lookup y.1 = some .local)
    (hsub : ∀ y c, cl.lookup y = some c → X.env.cells.lookup y = some c) (hhas : ∀ y, ((relabel sc X.env).names.lookup y = some .cell ∨ (relabel sc X.env).names.lookup y = some .free) → ∃ c, cl.lookup y = some c)
    (hix : ∀ j ∈ ix, ∃ y, X.N[j]? = some y ∧ X.env.kindOf y = some .cell ∧ (relabel sc X.env).names.lookup y = some .cell)
    (hs : ∀ x, foldedSetIterable iter X.env x = pure x := by intro _; rfl) :
    PS X (.Assign [.Name yv py] (.ListComp elt [⟨.Name x px, iter, ifs, 0⟩] sc pos) pos2) (tAsg (tComp ix wi tc te) (gName iy)) := by
  intro pins s σ H D0 I h
  rw [exec_Assign_Name_used _ _ _ _ hsw]
  refine wpAny_bind (wpAny_standAt (wpAny_bind ?_))
  show wpAny _ _ (comprehension _ _ _ _ _ _ _ _ >>= _) _ _ _
  refine wpAny_bind (wpAny_mono (Q := fun _ s' => SP X pins D0 .next s') (wpAny_comprehension_free (use := some (assign (.Name yv py) X.env)) rfl hs hcl hkind hnames ?_) (fun _ s' q => wpAny_pure (wpAny_pure q)) fun _ _ y => y)
  refine thn (hi pins s σ H _ I h) fun v s1 h1 => thn h1 fun itv s2 h2 => ?_
  obtain ⟨it, fp, tn, J, H2, e, I2, T, st2, f2, q2⟩ := h2
  subst e
  have fr2 : H2 s2.heap.objs.size = none := I2.hok.fresh (Nat.le_refl _)
  obtain ⟨W, ⟨m0, w0⟩, turn⟩ := q2 s2.heap.objs.size fr2
  refine wpAny_newObj_type ?_
  have I3 : Inv X pins σ (upd H2 s2.heap.objs.size (.lst [])) { s2 with heap := s2.heap.push { cls := .type "list", dict := none, data := .seq ([] : List Value).toArray } } := by
    exact I2.lnew (its := []) (ys := []) (t' := s2.toks) .nil (Nat.zero_le _)
  have lt2 : ∀ b ∈ fp, b < s2.heap.objs.size := fun b hb => by
    obtain ⟨o, ho, _⟩ := T.obj _ _ st2 b hb
    exact Heap.lt_size ho
  have f3 : ∀ b ∈ fp, FpOk X pins (upd H2 s2.heap.objs.size (.lst [])) b := fun b hb => ⟨by rw [upd_ne (Nat.ne_of_lt (lt2 b hb))]; exact (f2 b hb).1, (f2 b hb).2⟩
  generalize hs3 : ({ s2 with heap := s2.heap.push { cls := .type "list", dict := none, data := .seq ([] : List Value).toArray } } : Shared) = s3 at I3
  have hsz3 : s2.heap.objs.size ≤ s3.heap.objs.size := by rw [← hs3]; show _ ≤ (s2.heap.push _).objs.size; rw [Heap.size_push]; exact Nat.le_succ _
  have tn3 : tn 0 s3.heap := T.keep _ _ _ st2 fun b _ o e => by rw [← hs3]; exact Heap.get?_push_of_some _ e
  have lt3 : ∀ b ∈ fp, b < s3.heap.objs.size := fun b hb => Nat.lt_of_lt_of_le (lt2 b hb) hsz3
  refine wpAny_newFunctionEnv hcell (by intro y hy; simp at hy) (fun h4 hns4 hsb4 => ?_) hkind
  have old : ∀ b o, s3.heap.get? b = some o → h4.get? b = some o := fun b o e => hsb4.extBut b o (Nat.ne_of_lt (Heap.lt_size e)) (Heap.get?_push_of_some _ e)
  have I4 := inv_blk (m := _) (tk := s3.toks + ([] : List (Str × Value)).length) (N := N) I3 hkind hN hsub hhas hix f3 lt3 hns4 old
  have tn4 : tn 0 h4 := T.keep _ _ _ tn3 fun b _ o e => old b o e
  have fpB : ∀ {H' : Hp}, (∀ b ∈ fp, H' b = none) → ∀ b ∈ fp, FpOk (blk X N s3 (upd H2 s2.heap.objs.size (.lst [])) sc cl s3.heap.objs.size fp) [] H' b := fun {H'} hn b hb =>
    ⟨hn b hb, Nat.ne_of_lt (lt3 b hb), I4.ok.exfs b hb, .inl hb, fun y c e => (I4.ok.exf b hb).2 y c e, fun p hp => absurd (show p ∈ ([] : List (Addr × Obj)) from hp) (by simp)⟩
  have loop : codeAny (model X.prog X.w) X.A (.compLoop (.ListComp elt [⟨.Name x px, iter, ifs, 0⟩] sc pos) 0 (.ref it) (.ref s2.heap.objs.size) (compEnvC sc cl s3.heap.objs.size X.env))
      (compPost (model X.prog X.w) X.A X.xe (some (assign (.Name yv py) X.env)) (fun _ s' => SP X pins D0 .next s') (.ref s2.heap.objs.size) s3.heap.objs.size) { s3 with heap := h4, toks := s3.toks + ([] : List (Str × Value)).length } := by
    refine compLoop_go (fun n s' => ∃ i v0 H', Inv (blk X N s3 (upd H2 s2.heap.objs.size (.lst [])) sc cl s3.heap.objs.size fp) [] (v0 :: frees σ ix) H' s' ∧ tn i s'.heap ∧ (∀ b ∈ fp, H' b = none) ∧ W i n H') ?_ m0
      ⟨0, none, _, I4, tn4, fun b hb => (f3 b hb).1, w0⟩
    rintro n s5 ⟨i, v0, H5, I5, st5, fr5, w5⟩
    rcases turn i n H5 w5 with ⟨stop, qn⟩ | ⟨go, step⟩
    · refine thn (T.done (blk X N s3 (upd H2 s2.heap.objs.size (.lst [])) sc cl s3.heap.objs.size fp) rfl rfl rfl hc i [] s5 _ H5 _ I5 (fpB fr5) st5 stop) fun r s6 zq => ?_
      obtain ⟨hr, I6⟩ := zq
      subst hr
      obtain ⟨mm, hm, _⟩ := I6.loc
      have I7 : Inv X pins σ H5 s6 := by
        have hC : H5 s3.heap.objs.size = none := I6.free
        have hc3 : s3.heap.get? s3.heap.objs.size = none := Heap.get?_none_of_le (Nat.le_refl _)
        have up : ∀ b o, b ≠ s3.heap.objs.size → s6.heap.get? b = some o → s6.heap.get? b = some o := fun b o hb e => e
        have neC : ∀ b o, s3.heap.get? b = some o → b ≠ s3.heap.objs.size := fun b o e => Nat.ne_of_lt (Heap.lt_size e)
        have u := I6.base
        refine I3.call' (s' := s6) (ch := fp) I6.os ⟨fun b o e n hb hx => ?_, fun b o e n hb hx => ?_, fun b o e n hx => u.free b o e n hx, fun b o e hx => ?_, u.tups, u.frzs, u.tbls⟩ (fun b o e => ?_) I6.bare fun b hb => ⟨(f3 b hb).2.2.2.1, (f3 b hb).2.1, (f3 b hb).2.2.2.2.1, (f3 b hb).2.2.2.2.2⟩
        · exact up b o (neC b o e) (u.keep b o e n hb hx)
        · obtain ⟨sl, e1⟩ := u.slot b o e n hb hx
          exact ⟨sl, up b _ (neC b o e) e1⟩
        · obtain ⟨o', e1⟩ := u.there b o e hx
          exact ⟨o', up b _ (neC b o e) e1⟩
        · refine (I6.hok b o e).stay (fun c v hc' q => up c v ?_ q) (fun _ q => q) fun _ _ q => q
          rintro rfl
          rcases hc' with z | z
          · rw [← z, hC] at e; cases e
          · rw [hC] at z; cases z
      have hCn : H5 s3.heap.objs.size = none := I6.free
      have hCl : s3.heap.objs.size ≠ X.env.locals := Nat.ne_of_gt I3.lt
      have hCc : ∀ z c, X.env.cells.lookup z = some c → c ≠ s3.heap.objs.size := fun z c e e2 => by
        obtain ⟨v', q⟩ := I3.cell z c e
        exact absurd (e2 ▸ q.lt) (Nat.lt_irrefl _)
      refine wpAny_assign_Name (store_ok2 I7 hNd hiy hyv (show RelV (V.ref s2.heap.objs.size) (Value.ref s2.heap.objs.size) from rfl) (fun s8 I8 hsb => ?_) hfy)
      obtain ⟨a8, sb8, ha8⟩ := hsb
      have hna : s3.heap.objs.size ≠ a8 := by
        rcases ha8 with z | z
        · rw [z]; exact hCl
        · exact Ne.symm (hCc _ _ z)
      obtain ⟨oC, esC, epC, hoC, rC⟩ := hm
      refine ⟨mm, ⟨oC, esC, epC, sb8.extBut _ _ hna hoC, rC⟩, fun h9 sb9 => ?_⟩
      refine ⟨_, H5, I8.turned (t' := s8.toks) (it := s3.heap.objs.size) (fun b o hb e => sb9.extBut b o hb e) hCn hCl (.inr I3.sz) hCc (fun p hp e2 => ?_), qn⟩
      exact absurd (e2 ▸ Heap.lt_size (I3.pin p hp).1) (Nat.lt_irrefl _)
    · refine thn (T.item (blk X N s3 (upd H2 s2.heap.objs.size (.lst [])) sc cl s3.heap.objs.size fp) rfl rfl rfl hc i [] s5 _ H5 _ I5 (fpB fr5) st5 go) fun r s6 zq => ?_
      obtain ⟨u, hr, h6⟩ := zq
      subst hr
      refine thn h6 fun _ s7 zq => ?_
      obtain ⟨y, H7, I7, r7, y7, st7, fr7⟩ := zq
      have I7' := I7.pinned (fpB fr7) (T.obj _ _ st7)
      refine wpAny_assign_Name (store_ok (i := 0) I7' hnd (by show N[0]? = some x; rw [hN]; rfl) (.inl (lookup_relabel_local hx)) r7 (fun s8 I8 => ?_) (.inr (lookup_relabel_local hx)))
      have I8' : Inv (blk X N s3 (upd H2 s2.heap.objs.size (.lst [])) sc cl s3.heap.objs.size fp) ([] ++ pinsAt fp s7.heap) (some y :: frees σ ix) H7 s8 := I8
      refine thn (hif _ _ _ _ _ s8 _ H7 _ I8' (step y H7 y7)) fun ok s9 zq => ?_
      obtain ⟨H9, I9, q9⟩ := zq
      have again : ∀ {H' : Hp} {s' : Shared} {m' : Nat}, Inv (blk X N s3 (upd H2 s2.heap.objs.size (.lst [])) sc cl s3.heap.objs.size fp) ([] ++ pinsAt fp s7.heap) (some y :: frees σ ix) H' s' → m' < n → W (i + 1) m' H' →
          ∃ m, m < n ∧ ∃ i v0 H', Inv (blk X N s3 (upd H2 s2.heap.objs.size (.lst [])) sc cl s3.heap.objs.size fp) [] (v0 :: frees σ ix) H' s' ∧ tn i s'.heap ∧ (∀ b ∈ fp, H' b = none) ∧ W i m H' := fun {H' s' m'} Ia hm wa => by
        refine ⟨m', hm, i + 1, some y, H', Ia.unpinned, T.keep _ _ _ st7 fun b hb o e => (Ia.pin (b, o) (List.mem_append_right _ (List.mem_append_right _ (mem_pinsAt hb e)))).1, fun b hb => ?_, wa⟩
        obtain ⟨o, e, d⟩ := T.obj _ _ st7 b hb
        exact (Ia.pin (b, o) (List.mem_append_right _ (List.mem_append_right _ (mem_pinsAt hb e)))).2.1
      cases ok with
      | false =>
        rw [if_neg Bool.false_ne_true] at q9 ⊢
        obtain ⟨m', hm, wa⟩ := q9
        exact again I9 hm wa
      | true =>
        rw [if_pos rfl] at q9 ⊢
        refine thn (he _ _ _ _ _ s9 _ H9 _ I9 q9) fun v10 s10 zq => ?_
        obtain ⟨z, H10, I10, r10, ys, hD, hl, m', hm, wa⟩ := zq
        exact thn (mt_append _ s10 _ H10 (.ref s2.heap.objs.size) [z] (.ref s2.heap.objs.size) [v10] (fun _ H' => H' = upd H10 s2.heap.objs.size (.lst (ys ++ [z]))) I10 rfl (.cons r10 .nil) ⟨_, ys, z, rfl, rfl, hD, hl, rfl⟩)
          fun _ s11 ⟨_, H11, I11, _, e11⟩ => again I11 hm (by rw [e11]; exact wa)
  subst hs3
  exact codeAny_compStart_list loop (T.self _ 0 _ _ _ tn4 loop)
end
theorem qs_setC {X : Cx} {elt iter : Expr} {x yv : Str} {px pos py pos2 : Pos} {i : Nat} {ifs : List Expr} {sc : Scope} {wi : TI} {tc : TT} {te : TE} (hNd : X.N.Nodup) (hiy : X.N[i]? = some yv) (hyv : Loc X.env.scope yv) (hi : QI X (.Name x px) iter wi) (hif : ∀ s H C ex, QTs (blk X [x] s H sc [] C ex) ifs tc) (he : ∀ s H C ex, QE (blk X [x] s H sc [] C ex) elt te)
    (hsw : swapsWith (.ListComp elt [⟨.Name x px, iter, ifs, 0⟩] sc pos) (some (.Name yv py)) pos2.line X.env = pure true := by rfl) (hfy : X.fn yv = true ∨ X.env.scope.names.lookup yv = some .local := by first | exact .inl rfl | exact .inr rfl | assumption)
    (hc : X.calm = true := by rfl) (hkind : sc.kind = .function := by rfl) (hx : sc.names.lookup x = some .local := by decide +kernel) (hfree : ∀ y ∈ sc.names, y.2 ≠ .free := by decide +kernel) (hcell : ∀ y ∈ sc.names, y.2 ≠ .cell := by decide +kernel)
    (hnames : ∀ y ∈ sc.names, y.2 = .local → sc.names.lookup y.1 = some .local := by decide +kernel) (hs : ∀ x, foldedSetIterable iter X.env x = pure x := by intro _; rfl) :
    QS X (.Assign [.Name yv py] (.ListComp elt [⟨.Name x px, iter, ifs, 0⟩] sc pos) pos2) (tAsg (tComp [] wi tc te) (gName i)) :=
  ⟨ps_setcomp [x] hNd hiy hyv hsw hfy hc hi.run (fun s H C ex => (hif s H C ex).run) (fun s H C ex => (he s H C ex).run) hkind rfl (by simp) hx (PySem.closureFor_none hfree) hcell hnames (fun y c e => by simp at e) (fun y h => (relabel_none hfree hcell y h).elim) (fun j hj => by simp at hj) hs⟩
end L2
namespace K4
open PySem PySem.Spec L2 Mir
noncomputable def Ok (x : Str) : Prop := (PyData.str x).canLay0 = true
noncomputable def rowTo (x : Str) (ws : List Str) : Str := ws.foldl (fun a p => a ++ sp1 ++ p) x
theorem rowTo_cps : ∀ (ws : List Str) (x : Str), (rowTo x ws).cps = ws.foldl (fun acc p => acc ++ sp1.cps ++ p.cps) x.cps
  | [], _ => rfl
  | p :: ws, x => rowTo_cps ws (x ++ sp1 ++ p)
theorem rowTo_join (x : Str) (ws : List Str) : Txt.join sp1 (x :: ws) = rowTo x ws := Str.ext' (rowTo_cps ws x).symm
theorem fact_text (k u v : Str) : u ++ sp1 ++ k ++ sp1 ++ v = showFact [k, u, v] := (rowTo_join u [k, v]).symm
section
variable {P : Program} {w : World} {K : PySem.W.Frag} {mg : Str → Option Value} {base : Heap} {f g : Addr} {fd gd : FuncData}
theorem eqOk_strs {l : List Str} (h : ∀ y ∈ l, Ok y) : EqOk (.list (dStrs l)) := by
  constructor
  · simp only [PyData.canLay0]
    unfold dStrs
    induction l with
    | nil => simp only [List.map_nil, PyData.canLayAll0]
    | cons x l ih =>
      simp only [List.map_cons, PyData.canLayAll0, Bool.and_eq_true]
      exact ⟨h x (List.mem_cons_self ..), ih fun y hy => h y (List.mem_cons_of_mem _ hy)⟩
  · have : PyData.depthAll (dStrs l) ≤ 0 := by
      unfold dStrs
      clear h
      induction l with
      | nil => simp only [List.map_nil, PyData.depthAll]; exact Nat.le_refl _
      | cons x l ih => simp only [List.map_cons, PyData.depthAll, PyData.depth]; exact Nat.max_le.mpr ⟨Nat.le_refl _, ih⟩
    simp only [PyData.depth]
    lia
end
end K4
namespace K4
open PySem PySem.Spec L2 Mir
theorem mem_glue {y : List Nat} {c : Nat} : ∀ {ps : List (List Nat)}, c ∈ Spl.glue y ps → c ∈ y ∨ ∃ p ∈ ps, c ∈ p
  | [], h => by simp [Spl.glue] at h
  | [p], h => .inr ⟨p, by simp, h⟩
  | p :: q :: r, h => by
    have h' : c ∈ p ++ (y ++ Spl.glue y (q :: r)) := h
    rcases List.mem_append.mp h' with h1 | h1
    · exact .inr ⟨p, by simp, h1⟩
    · rcases List.mem_append.mp h1 with h2 | h2
      · exact .inl h2
      · rcases mem_glue h2 with h3 | ⟨z, hz, h3⟩
        · exact .inl h3
        · exact .inr ⟨z, List.mem_cons_of_mem _ hz, h3⟩
theorem mem_join {sep : Str} {c : Nat} {ts : List Str} (h : c ∈ (Txt.join sep ts).cps.toList) : c ∈ sep.cps.toList ∨ ∃ t ∈ ts, c ∈ t.cps.toList := by
  have e : Txt.join sep ts = Str.join sep ts := StrLaws.glued_eq_join sep ts
  rw [e, Spl.join_glue] at h
  rcases mem_glue h with h | ⟨p, hp, h⟩
  · exact .inl h
  · obtain ⟨t, ht, rfl⟩ := List.mem_map.mp hp
    exact .inr ⟨t, ht, h⟩
theorem blank_in : ∀ {ts : List Str} {a b : Str}, 32 ∈ (Txt.join sp1 (a :: b :: ts)).cps.toList := fun {ts a b} => by
  have e : Txt.join sp1 (a :: b :: ts) = Str.join sp1 (a :: b :: ts) := StrLaws.glued_eq_join sp1 _
  rw [e, Spl.join_glue]
  show 32 ∈ a.cps.toList ++ (sp1.cps.toList ++ _)
  refine List.mem_append_right _ (List.mem_append_left _ ?_)
  exact (by decide +kernel : 32 ∈ sp1.cps.toList)
theorem head_in : ∀ {ts : List Str} {a : Str} {c : Nat}, c ∈ a.cps.toList → c ∈ (Txt.join sepC (a :: ts)).cps.toList := fun {ts a c} h => by
  have e : Txt.join sepC (a :: ts) = Str.join sepC (a :: ts) := StrLaws.glued_eq_join sepC _
  rw [e, Spl.join_glue]
  cases ts with
  | nil => exact h
  | cons b r => exact List.mem_append_left _ h
noncomputable def Clean (y : Str) : Prop := ¬ 32 ∈ y.cps.toList ∧ ¬ 44 ∈ y.cps.toList
theorem clean_name {y : Str} (h : isName y = true) : Clean y := by
  have hall : y.cps.toList.all okSign = true := by
    unfold isName at h
    split at h
    · cases h
    · exact (Bool.and_eq_true _ _ ▸ h).2
  rw [List.all_eq_true] at hall
  refine ⟨fun z => ?_, fun z => ?_⟩
  · have := hall 32 z; exact absurd this (by decide +kernel)
  · have := hall 44 z; exact absurd this (by decide +kernel)
theorem clean_consts : ∀ y ∈ ([("is" : Str), "not", "cell", "stretch", "tree", "nil", "any"] : List Str), ¬ 32 ∈ y.cps.toList ∧ ¬ 44 ∈ y.cps.toList := by decide +kernel
variable {xs : List Str}
theorem clean_value (hx : ∀ x ∈ xs, isName x = true) {y : Str} (h : ValueOf xs y) : Clean y := by
  rcases h with rfl | h
  · exact clean_consts _ (by simp)
  · exact clean_name (hx y h)
theorem clean_field (hx : ∀ x ∈ xs, isName x = true) {y : Str} (h : FieldOf xs y) : Clean y := by
  rcases h with rfl | h
  · exact clean_consts _ (by simp)
  · exact clean_value hx h
theorem clean_fact (hx : ∀ x ∈ xs, isName x = true) {r : List Str} (h : FactOf xs r) : ∀ y ∈ r, Clean y := by
  obtain ⟨k, u, v, rfl, hk, hu, hv⟩ := h
  intro y hy
  simp only [List.mem_cons, List.not_mem_nil, or_false] at hy
  rcases hy with rfl | rfl | rfl
  · rcases hk with rfl | rfl <;> exact clean_consts _ (by simp)
  · exact clean_value hx hu
  · exact clean_value hx hv
theorem clean_part (hx : ∀ x ∈ xs, isName x = true) {r : List Str} (h : PartOf xs r) : ∀ y ∈ r, Clean y := by
  intro y hy
  rcases h with ⟨a, b, c, rfl, ha, hb, hc⟩ | ⟨a, b, rfl, ha, hb⟩ | ⟨a, rfl, ha⟩ <;> simp only [List.mem_cons, List.not_mem_nil, or_false] at hy
  · rcases hy with rfl | rfl | rfl | rfl
    · exact clean_consts _ (by simp)
    · exact clean_value hx ha
    · exact clean_field hx hb
    · exact clean_field hx hc
  · rcases hy with rfl | rfl | rfl
    · exact clean_consts _ (by simp)
    · exact clean_value hx ha
    · exact clean_value hx hb
  · rcases hy with rfl | rfl
    · exact clean_consts _ (by simp)
    · exact clean_value hx ha
theorem words_join {r : List Str} (hne : r ≠ []) (h : ∀ y ∈ r, Clean y) : wordsOf (Txt.join sp1 r) = r :=
  Spl.split_join sp1 32 [] (by decide +kernel) (by decide +kernel) r hne fun p hp => (h p hp).1
theorem no_comma {r : List Str} (h : ∀ y ∈ r, Clean y) : ¬ 44 ∈ (Txt.join sp1 r).cps.toList := fun z => by
  rcases mem_join z with h1 | ⟨t, ht, h1⟩
  · exact absurd h1 (by decide +kernel)
  · exact (h t ht).2 h1
theorem value_no_is (hx : ∀ x ∈ xs, isName x = true) {y : Str} (h : ValueOf xs y) : ¬ y ∈ [("is" : Str), "not"] := fun z => by
  rcases h with rfl | h
  · exact absurd z (by decide +kernel)
  · have hm : y ∈ Mir.noNames := by
      simp only [List.mem_cons, List.not_mem_nil, or_false] at z
      rcases z with rfl | rfl <;> decide +kernel
    have hn : isName y = false := by unfold isName; rw [if_pos (.inr (.inr hm))]
    rw [hx y h] at hn; cases hn
theorem fact_reads (hx : ∀ x ∈ xs, isName x = true) {r : List Str} (h : FactOf xs r) : writesFact (wordsOf (showFact r)) = true ∧ factRow (wordsOf (showFact r)) = r := by
  have hcl := clean_fact hx h
  obtain ⟨k, u, v, rfl, hk, hu, hv⟩ := h
  have e : wordsOf (showFact [k, u, v]) = [u, k, v] := words_join (r := [u, k, v]) (by simp) fun y hy => hcl y (by simp only [List.mem_cons, List.not_mem_nil, or_false] at hy ⊢; rcases hy with h | h | h <;> simp [h])
  rw [e]
  refine ⟨?_, rfl⟩
  show (decide (3 = 3) && decide (k ∈ [("is" : Str), "not"])) = true
  rw [decide_eq_true (show k ∈ [("is" : Str), "not"] by rcases hk with h | h <;> simp [h])]
  rfl
theorem part_ne {r : List Str} (h : PartOf xs r) : r ≠ [] := by
  rcases h with ⟨a, b, c, rfl, _⟩ | ⟨a, b, rfl, _⟩ | ⟨a, rfl, _⟩ <;> simp
theorem part_reads (hx : ∀ x ∈ xs, isName x = true) {r : List Str} (h : PartOf xs r) : writesFact (wordsOf (Txt.join sp1 r)) = false ∧ wordsOf (Txt.join sp1 r) = r := by
  have e := words_join (part_ne h) (clean_part hx h)
  refine ⟨?_, e⟩
  rw [e]
  rcases h with ⟨a, b, c, rfl, _⟩ | ⟨a, b, rfl, ha, _⟩ | ⟨a, rfl, _⟩
  · rfl
  · show (decide (3 = 3) && decide (a ∈ [("is" : Str), "not"])) = false
    rw [decide_eq_false (value_no_is hx ha)]; rfl
  · rfl
theorem pieces_show (hx : ∀ x ∈ xs, isName x = true) {fs ps : List (List Str)} (hf : ∀ r ∈ fs, FactOf xs r) (hp : ∀ r ∈ ps, PartOf xs r) : pieces (showOf fs ps) = showRows fs ps := by
  unfold showOf
  by_cases he : showRows fs ps = []
  · rw [if_pos he, he]; unfold pieces; rw [if_pos rfl]
  · rw [if_neg he]
    have hrow : ∀ t ∈ showRows fs ps, ¬ 44 ∈ t.cps.toList ∧ 32 ∈ t.cps.toList := fun t ht => by
      rcases List.mem_append.mp ht with h | h
      · obtain ⟨r, hr, rfl⟩ := List.mem_map.mp h
        have hcl := clean_fact hx (hf r hr)
        obtain ⟨k, u, v, rfl, _⟩ := hf r hr
        exact ⟨no_comma (r := [u, k, v]) fun y hy => hcl y (by simp only [List.mem_cons, List.not_mem_nil, or_false] at hy ⊢; rcases hy with h | h | h <;> simp [h]), blank_in⟩
      · obtain ⟨r, hr, rfl⟩ := List.mem_map.mp h
        refine ⟨no_comma (clean_part hx (hp r hr)), ?_⟩
        rcases hp r hr with ⟨a, b, c, rfl, _⟩ | ⟨a, b, rfl, _⟩ | ⟨a, rfl, _⟩ <;> exact blank_in
    have hno : ¬ Txt.join sepC (showRows fs ps) = nothing := fun z => by
      cases hs : showRows fs ps with
      | nil => exact he hs
      | cons t ts =>
        have h1 := head_in (ts := ts) (hrow t (by rw [hs]; simp)).2
        rw [← hs, z] at h1
        exact absurd h1 (by decide +kernel)
    unfold pieces
    rw [if_neg hno]
    exact Spl.split_join sepC 44 [32] (by decide +kernel) (by decide +kernel) _ he fun t ht => (hrow t ht).1
theorem read_show (hx : ∀ x ∈ xs, isName x = true) {fs ps : List (List Str)} (hf : ∀ r ∈ fs, FactOf xs r) (hp : ∀ r ∈ ps, PartOf xs r) : readFacts (showRows fs ps) = fs ∧ readParts (showRows fs ps) = ps := by
  unfold readFacts readParts showRows
  have f1 : (fs.map showFact).filter (fun p => writesFact (wordsOf p)) = fs.map showFact := List.filter_eq_self.mpr fun t ht => by
    obtain ⟨r, hr, rfl⟩ := List.mem_map.mp ht; exact (fact_reads hx (hf r hr)).1
  have f2 : (ps.map (Txt.join sp1)).filter (fun p => writesFact (wordsOf p)) = [] := List.filter_eq_nil_iff.mpr fun t ht => by
    obtain ⟨r, hr, rfl⟩ := List.mem_map.mp ht; rw [(part_reads hx (hp r hr)).1]; simp
  have f3 : (fs.map showFact).filter (fun p => !writesFact (wordsOf p)) = [] := List.filter_eq_nil_iff.mpr fun t ht => by
    obtain ⟨r, hr, rfl⟩ := List.mem_map.mp ht; rw [(fact_reads hx (hf r hr)).1]; simp
  have f4 : (ps.map (Txt.join sp1)).filter (fun p => !writesFact (wordsOf p)) = ps.map (Txt.join sp1) := List.filter_eq_self.mpr fun t ht => by
    obtain ⟨r, hr, rfl⟩ := List.mem_map.mp ht; rw [(part_reads hx (hp r hr)).1]; rfl
  rw [List.filter_append, List.filter_append, f1, f2, f3, f4, List.append_nil, List.nil_append, List.map_map, List.map_map]
  constructor
  · exact (List.map_congr_left (g := fun r => r) fun r hr => (fact_reads hx (hf r hr)).2).trans (List.map_id fs)
  · exact (List.map_congr_left (g := fun r => r) fun r hr => (part_reads hx (hp r hr)).2).trans (List.map_id ps)
end K4
namespace K4
open PySem PySem.Spec L2 Mir
theorem mem_words {rs : List (List Str)} {y : Str} : y ∈ words rs ↔ ∃ r ∈ rs, y ∈ r.drop 1 ∧ ¬ y ∈ Mir.noNames := by
  unfold words rowWords
  simp only [List.mem_flatten, List.mem_map]
  constructor
  · rintro ⟨l, ⟨r, hr, rfl⟩, hy⟩
    rw [List.mem_filter] at hy
    exact ⟨r, hr, hy.1, by simpa using hy.2⟩
  · rintro ⟨r, hr, hy, hn⟩
    exact ⟨_, ⟨r, hr, rfl⟩, List.mem_filter.mpr ⟨hy, by simpa using hn⟩⟩
theorem no_dups : ∀ l : List Str, ∃ zs : List Str, zs.Nodup ∧ (∀ y, y ∈ zs ↔ y ∈ l)
  | [] => ⟨[], List.nodup_nil, fun _ => Iff.rfl⟩
  | x :: l => by
    obtain ⟨zs, h1, h2⟩ := no_dups l
    by_cases h : x ∈ zs
    · refine ⟨zs, h1, fun y => ?_⟩
      rw [h2 y, List.mem_cons]
      constructor
      · exact .inr
      · rintro (rfl | z)
        · exact (h2 _).mp h
        · exact z
    · refine ⟨x :: zs, List.nodup_cons.mpr ⟨h, h1⟩, fun y => ?_⟩
      rw [List.mem_cons, List.mem_cons, h2 y]
variable {xs : List Str}
theorem val_value (hx : ∀ x ∈ xs, isName x = true) {y : Str} (h : ValueOf xs y) : isValue y = true := by
  unfold isValue
  rcases h with rfl | h
  · rw [decide_eq_true rfl]; rfl
  · rw [hx y h, Bool.or_true]
theorem val_field (hx : ∀ x ∈ xs, isName x = true) {y : Str} (h : FieldOf xs y) : (decide (y = "any") || isValue y) = true := by
  rcases h with rfl | h
  · rw [decide_eq_true rfl]; rfl
  · rw [val_value hx h, Bool.or_true]
theorem fact_yes (hx : ∀ x ∈ xs, isName x = true) {r : List Str} (h : FactOf xs r) : isFact r = true := by
  obtain ⟨k, u, v, rfl, hk, hu, hv⟩ := h
  show (decide (3 = 3) && decide (k ∈ [("is" : Str), "not"]) && (isValue u && (isValue v && true))) = true
  rw [decide_eq_true (show k ∈ [("is" : Str), "not"] by rcases hk with h | h <;> simp [h]), val_value hx hu, val_value hx hv]
  rfl
theorem part_yes (hx : ∀ x ∈ xs, isName x = true) {r : List Str} (h : PartOf xs r) : isPart r = true := by
  rcases h with ⟨a, b, c, rfl, ha, hb, hc⟩ | ⟨a, b, rfl, ha, hb⟩ | ⟨a, rfl, ha⟩
  · show (decide (partLen "cell" = some 4) && (if ("cell" : Str) = "cell" then isValue a && ((decide (b = "any") || isValue b) && ((decide (c = "any") || isValue c) && true)) else ([a, b, c] : List Str).all isValue)) = true
    rw [if_pos rfl, val_value hx ha, val_field hx hb, val_field hx hc, decide_eq_true (by decide +kernel : partLen "cell" = some 4)]
    rfl
  · show (decide (partLen "stretch" = some 3) && (if ("stretch" : Str) = "cell" then isValue a && ([b] : List Str).all (fun w => decide (w = "any") || isValue w) else (isValue a && (isValue b && true)))) = true
    rw [if_neg (by decide +kernel), val_value hx ha, val_value hx hb, decide_eq_true (by decide +kernel : partLen "stretch" = some 3)]
    rfl
  · show (decide (partLen "tree" = some 2) && (if ("tree" : Str) = "cell" then isValue a && ([] : List Str).all (fun w => decide (w = "any") || isValue w) else (isValue a && true))) = true
    rw [if_neg (by decide +kernel), val_value hx ha, decide_eq_true (by decide +kernel : partLen "tree" = some 2)]
    rfl
theorem in_names {y : Str} (h : FieldOf xs y) (hn : ¬ y ∈ Mir.noNames) : y ∈ xs := by
  rcases h with rfl | rfl | h
  · exact absurd (by decide +kernel) hn
  · exact absurd (by decide +kernel) hn
  · exact h
theorem row_fields {r : List Str} (h : FactOf xs r ∨ PartOf xs r) : ∀ y ∈ r.drop 1, FieldOf xs y := by
  intro y hy
  rcases h with ⟨k, u, v, rfl, hk, hu, hv⟩ | ⟨a, b, c, rfl, ha, hb, hc⟩ | ⟨a, b, rfl, ha, hb⟩ | ⟨a, rfl, ha⟩
  · have hy' : y ∈ [u, v] := hy
    simp only [List.mem_cons, List.not_mem_nil, or_false] at hy'
    rcases hy' with rfl | rfl
    · exact .inr hu
    · exact .inr hv
  · have hy' : y ∈ [a, b, c] := hy
    simp only [List.mem_cons, List.not_mem_nil, or_false] at hy'
    rcases hy' with rfl | rfl | rfl
    · exact .inr ha
    · exact hb
    · exact hc
  · have hy' : y ∈ [a, b] := hy
    simp only [List.mem_cons, List.not_mem_nil, or_false] at hy'
    rcases hy' with rfl | rfl
    · exact .inr ha
    · exact .inr hb
  · have hy' : y ∈ [a] := hy
    simp only [List.mem_cons, List.not_mem_nil, or_false] at hy'
    rw [hy']; exact .inr ha
theorem tell_yes (hx : ∀ x ∈ xs, isName x = true) (hxl : xs.length ≤ 8) {fs ps : List (List Str)} (lf : fs.length ≤ 8) (lp : ps.length ≤ 6) (hf : ∀ r ∈ fs, FactOf xs r) (hp : ∀ r ∈ ps, PartOf xs r) : isTelling [fs, ps] = true := by
  refine isTelling_yes (rss := [fs, ps]) ⟨lf, lp, List.all_eq_true.mpr fun r hr => fact_yes hx (hf r hr), List.all_eq_true.mpr fun r hr => part_yes hx (hp r hr), ?_⟩
  obtain ⟨zs, h1, h2⟩ := no_dups (words (fs ++ ps))
  refine ⟨zs, h1, h2, Nat.le_trans (List.Nodup.length_le_of_subset h1 fun y hy => ?_) hxl⟩
  obtain ⟨r, hr, hy', hn⟩ := mem_words.mp ((h2 y).mp hy)
  refine in_names (row_fields ?_ y hy') hn
  rcases List.mem_append.mp hr with h | h
  · exact .inl (hf r h)
  · exact .inr (hp r h)
theorem name_short {y : Str} (h : isName y = true) : y.length ≤ 8 := by
  unfold isName at h
  split at h
  · cases h
  · rename_i hn
    simp only [not_or] at hn
    lia
theorem ok_consts : ∀ y ∈ ([("is" : Str), "not", "cell", "stretch", "tree", "nil", "any"] : List Str), y.length ≤ 8 ∧ (PyData.str y).canLay0 = true := by decide +kernel
theorem okSign_small : ∀ c ∈ Mir.letters.cps.toList ++ Mir.figures.cps.toList, c < 128 := by decide +kernel
theorem ok_name {y : Str} (h : isName y = true) : Ok y := by
  have hall : y.cps.toList.all okSign = true := by
    unfold isName at h
    split at h
    · cases h
    · exact (Bool.and_eq_true _ _ ▸ h).2
  rw [List.all_eq_true] at hall
  unfold Ok
  simp only [PyData.canLay0]
  unfold PyData.strOk
  rw [← Array.all_toList, List.all_eq_true]
  intro c hc
  have h1 := hall c hc
  unfold okSign at h1
  rw [Bool.or_eq_true, decide_eq_true_eq, decide_eq_true_eq] at h1
  have := okSign_small c (List.mem_append.mpr h1)
  exact decide_eq_true (by lia)
theorem row_good (hx : ∀ x ∈ xs, isName x = true) {r : List Str} (h : FactOf xs r ∨ PartOf xs r) : r.length ≤ 4 ∧ r ≠ [] ∧ ∀ y ∈ r, y.length ≤ 8 ∧ Ok y := by
  have val : ∀ {y : Str}, FieldOf xs y → y.length ≤ 8 ∧ Ok y := fun {y} h => by
    rcases h with rfl | rfl | h
    · exact ok_consts _ (by simp)
    · exact ok_consts _ (by simp)
    · exact ⟨name_short (hx y h), ok_name (hx y h)⟩
  have rf := row_fields h
  rcases h with ⟨k, u, v, rfl, hk, hu, hv⟩ | ⟨a, b, c, rfl, ha, hb, hc⟩ | ⟨a, b, rfl, ha, hb⟩ | ⟨a, rfl, ha⟩ <;> refine ⟨by simp, by simp, fun y hy => ?_⟩ <;> rcases List.mem_cons.mp hy with rfl | hy'
  · rcases hk with rfl | rfl <;> exact ok_consts _ (by simp)
  · exact val (rf y hy')
  · exact ok_consts _ (by simp)
  · exact val (rf y hy')
  · exact ok_consts _ (by simp)
  · exact val (rf y hy')
  · exact ok_consts _ (by simp)
  · exact val (rf y hy')
end K4
namespace Spl
open PySem PySem.StrLaws PySem.Builtin PySem.Builtin.Str
theorem parts_ne (x : Str) (w : Nat) : ∀ (f : Nat) (cs : List Nat), partsFrom x w f cs ≠ []
  | f, [] => fun h => by cases h
  | f, c :: cs => fun h => by cases h
theorem glue_cons (y p : List Nat) {ps : List (List Nat)} (h : ps ≠ []) : glue y (p :: ps) = p ++ (y ++ glue y ps) := by
  cases ps with
  | nil => exact absurd rfl h
  | cons q r => rfl
theorem cuts_back (x y : Str) (hy : 1 ≤ y.length) : ∀ (n i f : Nat), f ≤ x.length → i + n = x.length + 1 → f ≤ i + n →
    glue y.cps.toList ((partsFrom x y.length f (cuts x y i n f)).map fun p => p.cps.toList) = x.cps.toList.drop f
  | 0, i, f, hf, hn, _ => by
    show (strSub x f x.length).cps.toList = _
    rw [strSub_toList]
    have hl : x.length = x.cps.toList.length := (Array.length_toList ..).symm
    rw [hl, ← List.length_drop, List.take_length]
  | n + 1, i, f, hf, hn, hfi => by
    by_cases hc : f ≤ i ∧ i + y.length ≤ x.length ∧ subAt x y i = true
    · rw [cuts, if_pos hc]
      show glue y.cps.toList ((strSub x f i).cps.toList :: (partsFrom x y.length (i + y.length) (cuts x y (i + 1) n (i + y.length))).map fun p => p.cps.toList) = _
      rw [glue_cons _ _ (fun z => parts_ne _ _ _ _ (List.map_eq_nil_iff.mp z)), cuts_back x y hy n (i + 1) (i + y.length) hc.2.1 (by lia) (by lia), strSub_toList]
      have hs := hc.2.2
      rw [subAt_eq, beq_iff_eq] at hs
      have hl : y.length = y.cps.toList.length := (Array.length_toList ..).symm
      have e1 : y.cps.toList ++ x.cps.toList.drop (i + y.length) = x.cps.toList.drop i := by
        rw [← List.drop_drop]
        conv => rhs; rw [← List.take_append_drop y.length (x.cps.toList.drop i)]
        rw [hs]
      rw [e1]
      have e2 : x.cps.toList.drop i = (x.cps.toList.drop f).drop (i - f) := by rw [List.drop_drop, Nat.add_sub_cancel' hc.1]
      rw [e2, List.take_append_drop]
    · rw [cuts, if_neg hc]
      exact cuts_back x y hy n (i + 1) f hf (by lia) (by lia)
theorem split_back (x y : Str) (c0 : Nat) (y' : List Nat) (hy : y.cps.toList = c0 :: y') (hk : Builtin.Str.strKind y = 1) : glue y.cps.toList ((Txt.split x y).map fun p => p.cps.toList) = x.cps.toList := by
  have hyl : 1 ≤ y.length := by show 1 ≤ y.cps.size; rw [← Array.length_toList, hy]; simp
  have key := cuts_back x y hyl (x.length + 1) 0 0 (Nat.zero_le _) (by lia) (by lia)
  rw [List.drop_zero] at key
  have hkx : 1 ≤ Builtin.Str.strKind x := by unfold Builtin.Str.strKind; split <;> (try split) <;> lia
  unfold Txt.split
  by_cases h1 : x.length < y.length
  · rw [if_pos (by rw [decide_eq_true h1]; rfl)]; rfl
  · have h2 : ¬ Builtin.Str.strKind x < Builtin.Str.strKind y := by rw [hk]; lia
    rw [if_neg (by rw [decide_eq_false h1, decide_eq_false h2]; simp), occ_is x y hyl]
    by_cases he : (cuts x y 0 (x.length + 1) 0).isEmpty = true
    · rw [if_pos he]; rfl
    · rw [if_neg he, partsBetween_eq]
      exact key
theorem split_ne (x y : Str) (c0 : Nat) (y' : List Nat) (hy : y.cps.toList = c0 :: y') (hk : Builtin.Str.strKind y = 1) : Txt.split x y ≠ [] := by
  have hyl : 1 ≤ y.length := by show 1 ≤ y.cps.size; rw [← Array.length_toList, hy]; simp
  unfold Txt.split
  split
  · simp
  · split
    · simp
    · rw [partsBetween_eq]; exact parts_ne _ _ _ _
theorem glue_len (y : List Nat) : ∀ {ps : List (List Nat)} {p : List Nat}, p ∈ ps → p.length ≤ (glue y ps).length
  | [], p, h => by cases h
  | [q], p, h => by rw [List.mem_singleton.mp h]; exact Nat.le_refl _
  | q :: r :: ps, p, h => by
    show _ ≤ (q ++ (y ++ glue y (r :: ps))).length
    rw [List.length_append, List.length_append]
    rcases List.mem_cons.mp h with rfl | h
    · lia
    · have := glue_len y h; lia
end Spl
namespace K4
open PySem PySem.Spec L2 Mir
theorem sp_cps : sp1.cps.toList = [32] := by decide +kernel
theorem sep_cps : sepC.cps.toList = [44, 32] := by decide +kernel
theorem sp_kind : Builtin.Str.strKind sp1 = 1 := by decide +kernel
theorem sep_kind : Builtin.Str.strKind sepC = 1 := by decide +kernel
theorem len_cps (x : Str) : x.cps.toList.length = x.length := Array.length_toList ..
theorem piece_len {x p : Str} (h : p ∈ pieces x) : p.length ≤ x.length := by
  unfold pieces at h
  split at h
  · cases h
  · have := Spl.glue_len sepC.cps.toList (List.mem_map.mpr ⟨p, h, rfl⟩ : p.cps.toList ∈ (Txt.split x sepC).map fun p => p.cps.toList)
    rw [Spl.split_back x sepC 44 [32] sep_cps sep_kind, len_cps, len_cps] at this
    exact this
theorem word_len {p w : Str} (h : w ∈ wordsOf p) : w.length ≤ p.length := by
  have := Spl.glue_len sp1.cps.toList (List.mem_map.mpr ⟨w, h, rfl⟩ : w.cps.toList ∈ (Txt.split p sp1).map fun p => p.cps.toList)
  rw [Spl.split_back p sp1 32 [] sp_cps sp_kind, len_cps, len_cps] at this
  exact this
theorem pieces_few (x : Str) : (pieces x).length ≤ x.length + 2 := by
  unfold pieces
  split
  · simp
  · exact split_len _ _
theorem read_ok {x : Str} (h : x.length ≤ 900) : x.length ≤ 2000 ∧ (∀ p ∈ pieces x, p.length ≤ 900) ∧ (pieces x).length ≤ 1000 ∧ (∀ p ∈ pieces x, (wordsOf p).length ≤ 1000 ∧ ∀ y ∈ wordsOf p, Short y) := by
  have := pieces_few x
  refine ⟨by lia, fun p hp => Nat.le_trans (piece_len hp) h, by lia, fun p hp => ⟨?_, fun y hy => ?_⟩⟩
  · have h1 := split_len p sp1
    have h2 := piece_len hp
    show (Txt.split p sp1).length ≤ 1000
    lia
  · have h1 := word_len hy
    have h2 := piece_len hp
    show y.length ≤ 1000
    lia
noncomputable def gw (w : Str) : Prop := w.cps.toList ≠ [] ∧ ∀ c ∈ w.cps.toList, okSign c = true
theorem gw_name {y : Str} (h : isName y = true) : gw y := by
  unfold isName at h
  split at h
  · cases h
  · rw [Bool.and_eq_true, List.all_eq_true] at h
    refine ⟨fun z => ?_, h.2⟩
    rw [z] at h
    cases h.1
theorem gw_consts : ∀ y ∈ ([("is" : Str), "not", "cell", "stretch", "tree", "nil", "any"] : List Str), y.cps.toList ≠ [] ∧ ∀ c ∈ y.cps.toList, okSign c = true := by decide +kernel
theorem gw_value {y : Str} (h : isValue y = true) : gw y := by
  unfold isValue at h
  rw [Bool.or_eq_true, decide_eq_true_eq] at h
  rcases h with rfl | h
  · exact gw_consts _ (by simp)
  · exact gw_name h
theorem fact_words {r : List Str} (h : isFact r = true) : ∀ y ∈ r, gw y := by
  unfold isFact at h
  simp only [Bool.and_eq_true, decide_eq_true_eq] at h
  obtain ⟨⟨h1, h2⟩, h3⟩ := h
  match r, h1 with
  | [a, b, c], _ =>
    intro y hy
    have h4 := List.all_eq_true.mp h3
    rcases List.mem_cons.mp hy with rfl | hy
    · have h2' : y ∈ [("is" : Str), "not"] := by simpa using h2
      refine gw_consts y ?_
      simp only [List.mem_cons, List.not_mem_nil, or_false] at h2' ⊢
      rcases h2' with h | h <;> simp [h]
    · exact gw_value (h4 y hy)
theorem part_words {r : List Str} (h : isPart r = true) : ∀ y ∈ r, gw y := by
  cases r with
  | nil => cases h
  | cons k r =>
    have hl := isPart_len h
    unfold isPart at h
    simp only [Bool.and_eq_true, decide_eq_true_eq] at h
    obtain ⟨h1, h2⟩ := h
    have hk : k ∈ [("cell" : Str), "stretch", "tree"] := by
      unfold partLen at h1
      split at h1
      · rename_i e; simp [e]
      · split at h1
        · rename_i e; simp [e]
        · split at h1
          · rename_i e; simp [e]
          · cases h1
    intro y hy
    rcases List.mem_cons.mp hy with rfl | hy
    · refine gw_consts y ?_
      simp only [List.mem_cons, List.not_mem_nil, or_false] at hk ⊢
      rcases hk with h | h | h <;> simp [h]
    · split at h2
      · rw [Bool.and_eq_true] at h2
        cases r with
        | nil => cases hy
        | cons z r =>
          rcases List.mem_cons.mp hy with rfl | hy
          · exact gw_value h2.1
          · have h3 := List.all_eq_true.mp h2.2 y hy
            rw [Bool.or_eq_true, decide_eq_true_eq] at h3
            rcases h3 with rfl | h3
            · exact gw_consts _ (by simp)
            · exact gw_value h3
      · exact gw_value (List.all_eq_true.mp h2 y hy)
theorem taken_words {P : List Str} (h : isTelling [readFacts P, readParts P] = true) {p : Str} (hp : p ∈ P) : ∀ w ∈ wordsOf p, gw w := by
  have h' : IsTelling [readFacts P, readParts P] := by
    by_cases z : IsTelling [readFacts P, readParts P]
    · exact z
    · rw [isTelling_no z] at h; cases h
  obtain ⟨_, _, h3, h4, _⟩ := h'
  by_cases hw : writesFact (wordsOf p) = true
  · have hm : factRow (wordsOf p) ∈ readFacts P := List.mem_map.mpr ⟨p, List.mem_filter.mpr ⟨hp, by simpa using hw⟩, rfl⟩
    have hf := fact_words (List.all_eq_true.mp h3 _ hm)
    unfold writesFact at hw
    rw [Bool.and_eq_true, decide_eq_true_eq] at hw
    intro w hwm
    generalize wordsOf p = ws at hw hf hwm
    match ws, hw.1 with
    | [a, b, c], _ =>
      refine hf w ?_
      show w ∈ [b, a, c]
      simp only [List.mem_cons, List.not_mem_nil, or_false] at hwm ⊢
      rcases hwm with h | h | h <;> simp [h]
  · have hm : wordsOf p ∈ readParts P := List.mem_map.mpr ⟨p, List.mem_filter.mpr ⟨hp, by simpa using hw⟩, rfl⟩
    exact part_words (List.all_eq_true.mp h4 _ hm)
noncomputable def dl (s c : Nat) : Nat := if s = 0 then (if okSign c = true then 1 else 3) else if s = 1 then (if okSign c = true then 1 else if c = 32 then 0 else if c = 44 then 2 else 3) else if s = 2 then (if c = 32 then 0 else 3) else 3
theorem run3 : ∀ l : List Nat, l.foldl dl 3 = 3
  | [] => rfl
  | c :: l => run3 l
theorem ok32 : okSign 32 = false := by decide +kernel
theorem dl_ok {c : Nat} (h : okSign c = true) : dl 0 c = 1 ∧ dl 1 c = 1 := by unfold dl; simp [h]
theorem run_ok : ∀ {l : List Nat}, (∀ c ∈ l, okSign c = true) → l.foldl dl 1 = 1
  | [], _ => rfl
  | c :: l, h => by rw [List.foldl_cons, (dl_ok (h c (List.mem_cons_self ..))).2]; exact run_ok fun c' h' => h c' (List.mem_cons_of_mem _ h')
theorem run_word {w : Str} (h : gw w) : w.cps.toList.foldl dl 0 = 1 := by
  obtain ⟨h1, h2⟩ := h
  cases e : w.cps.toList with
  | nil => exact absurd e h1
  | cons c l =>
    rw [e] at h2
    rw [List.foldl_cons, (dl_ok (h2 c (List.mem_cons_self ..))).1]
    exact run_ok fun c' h' => h2 c' (List.mem_cons_of_mem _ h')
theorem run_glue {y : List Nat} (hy : y.foldl dl 1 = 0) : ∀ {ps : List (List Nat)}, ps ≠ [] → (∀ p ∈ ps, p.foldl dl 0 = 1) → (Spl.glue y ps).foldl dl 0 = 1
  | [], h, _ => absurd rfl h
  | [p], _, h => h p (by simp)
  | p :: q :: ps, _, h => by
    show (p ++ (y ++ Spl.glue y (q :: ps))).foldl dl 0 = 1
    rw [List.foldl_append, List.foldl_append, h p (by simp), hy]
    exact run_glue hy (by simp) fun p' h' => h p' (List.mem_cons_of_mem _ h')
theorem run_sp : ([32] : List Nat).foldl dl 1 = 0 := by decide +kernel
theorem run_sep : ([44, 32] : List Nat).foldl dl 1 = 0 := by decide +kernel
theorem run_nothing : nothing.cps.toList.foldl dl 0 = 1 := by decide +kernel
noncomputable def taken (x : Str) : Bool := isTelling [readFacts (pieces x), readParts (pieces x)]
theorem taken_run {x : Str} (h : taken x = true) : x.cps.toList.foldl dl 0 = 1 := by
  unfold taken pieces at h
  by_cases hx : x = nothing
  · rw [hx]; exact run_nothing
  · rw [if_neg hx] at h
    rw [← Spl.split_back x sepC 44 [32] sep_cps sep_kind, sep_cps]
    refine run_glue run_sep (fun z => Spl.split_ne x sepC 44 [32] sep_cps sep_kind (List.map_eq_nil_iff.mp z)) fun l hl => ?_
    obtain ⟨p, hp, rfl⟩ := List.mem_map.mp hl
    have hw := taken_words h hp
    show p.cps.toList.foldl dl 0 = 1
    rw [← Spl.split_back p sp1 32 [] sp_cps sp_kind, sp_cps]
    refine run_glue run_sp (fun z => Spl.split_ne p sp1 32 [] sp_cps sp_kind (List.map_eq_nil_iff.mp z)) fun l hl => ?_
    obtain ⟨w, hwm, rfl⟩ := List.mem_map.mp hl
    exact run_word (hw w hwm)
theorem not_taken {x : Str} (h : x.cps.toList.foldl dl 0 ≠ 1) : taken x = false := by
  cases e : taken x with
  | false => rfl
  | true => exact absurd (taken_run e) h
theorem dl_blank (s : Nat) : dl s 32 = 0 ∨ dl s 32 = 3 := by
  unfold dl
  rw [ok32]
  by_cases h0 : s = 0
  · simp [h0]
  · by_cases h1 : s = 1
    · simp [h1]
    · by_cases h2 : s = 2
      · simp [h2]
      · simp [h0, h1, h2]
theorem dl_bad {c : Nat} (h : okSign c = false) (h1 : c ≠ 32) (h2 : c ≠ 44) (s : Nat) : dl s c = 3 := by
  unfold dl
  simp [h, h1, h2]
theorem bad_in {A B : List Nat} {c : Nat} (h : okSign c = false) (h1 : c ≠ 32) (h2 : c ≠ 44) : (A ++ c :: B).foldl dl 0 ≠ 1 := by
  rw [List.foldl_append, List.foldl_cons, dl_bad h h1 h2, run3]; decide
theorem two_blanks {A B : List Nat} : (A ++ 32 :: 32 :: B).foldl dl 0 ≠ 1 := by
  rw [List.foldl_append, List.foldl_cons, List.foldl_cons]
  rcases dl_blank (A.foldl dl 0) with h | h
  · rw [h, show dl 0 32 = 3 by decide +kernel, run3]; decide
  · rw [h, show dl 3 32 = 3 by decide +kernel, run3]; decide
theorem blank_ahead {B : List Nat} : (32 :: B).foldl dl 0 ≠ 1 := by
  rw [List.foldl_cons, show dl 0 32 = 3 by decide +kernel, run3]; decide
theorem comma_ahead {B : List Nat} : (44 :: B).foldl dl 0 ≠ 1 := by
  rw [List.foldl_cons, show dl 0 44 = 3 by decide +kernel, run3]; decide
theorem blank_behind {A : List Nat} : (A ++ [32]).foldl dl 0 ≠ 1 := by
  rw [List.foldl_append, List.foldl_cons, List.foldl_nil]
  rcases dl_blank (A.foldl dl 0) with h | h <;> rw [h] <;> decide
theorem bare_comma {A : List Nat} (h : A.foldl dl 0 = 1) : (A ++ 44 :: A).foldl dl 0 ≠ 1 := by
  rw [List.foldl_append, List.foldl_cons, h, show dl 1 44 = 2 by decide +kernel]
  cases A with
  | nil => cases h
  | cons c l =>
    have hc : okSign c = true := by
      cases e : okSign c with
      | true => rfl
      | false =>
        rw [List.foldl_cons, show dl 0 c = 3 by unfold dl; simp [e], run3] at h
        cases h
    have hc32 : c ≠ 32 := fun z => by rw [z, ok32] at hc; cases hc
    rw [List.foldl_cons, show dl 2 c = 3 by unfold dl; simp [hc32], run3]; decide
theorem empty_amid {A B : List Nat} : (A ++ 44 :: 32 :: 44 :: B).foldl dl 0 ≠ 1 := by
  rw [List.foldl_append, List.foldl_cons, List.foldl_cons, List.foldl_cons]
  rcases dl_blank (dl (A.foldl dl 0) 44) with h | h
  · rw [h, show dl 0 44 = 3 by decide +kernel, run3]; decide
  · rw [h, show dl 3 44 = 3 by decide +kernel, run3]; decide
end K4
namespace K4
open PySem PySem.Spec L2 Mir
noncomputable def spTell2 (K : PySem.W.Frag) : Sp := fun vs H Q _ => ∃ (c a : Addr) (ns : List Int) (xs : List Str), vs = [.ref c, .ref a] ∧ SqL K H c (ns.map V.int) ∧ SqL K H a (xs.map V.str) ∧ Few8 xs ∧
  ∀ t fa pa fs ps H', NewTell K H H' t fs ps fa pa → 1 ≤ fs.length → 1 ≤ ps.length → fs.length ≤ 7 → ps.length ≤ 5 → (∀ r ∈ fs, FactOf xs r) → (∀ r ∈ ps, PartOf xs r) → Q (.ref t) H'
noncomputable def tCond : TT := fun σ H Q => ∃ (n : Int) (fa : Addr) (ys : List V), σ[4]? = some (some (.int n)) ∧ σ[2]? = some (some (.ref fa)) ∧ H fa = some (.lst ys) ∧ ∀ b : Bool, (b = true → ys.length < 7) → Q b H
theorem cond_weak {K : PySem.W.Frag} (σ : St) (H : Hp) (Q : Bool → Hp → Prop) (h : tCond σ H Q) : tAnd (tTest (tOp rEq (tOp (rI (fun _ j => 0 < j) fun i j => .int (i % j)) (tVar 4) (tC (.int 2))) (tC (.int 0))))
    (tTest (tOp (rI0 fun i j => .bl (decide (i < j))) (tCB (fun xs H Q => ∃ p ys, xs = [.ref p] ∧ (SqL K H p ys ∨ SqT K H p ys) ∧ Q (.int ys.length) H) (tCons (tVar 2) tNil)) (tC (.int 7)))) σ H Q := by
  obtain ⟨n, fa, ys, h4, h2, hF, q⟩ := h
  refine ⟨_, h4, _, _, rfl, rfl, (show (0 : Int) < 2 by decide), rfl, _, rfl, iteB (fun c => ?_) (fun c => q false (fun z => by cases z))⟩
  refine ⟨_, h2, fa, ys, rfl, .inl (SqL.of hF), _, _, rfl, rfl, _, rfl, q _ fun z => ?_⟩
  have := of_decide_eq_true z
  lia
section
variable {P : Program} {w : World} {K : PySem.W.Frag} {mg : Str → Option Value} {base : Heap} {f g g2 : Addr} {fd gd gd2 : FuncData}
theorem scTell2 : FnScope ["_law_cells", "_law_names_here", "_law_facts", "_law_parts", "_law_cell", "_law_mixed"] ["_law_cells", "_law_names_here"] (defScope sTell2) := ⟨rfl, rfl, rfl, by decide +kernel, rfl, by decide +kernel, by decide +kernel⟩
theorem ok_tell2 (C : Con K mg w) (F : Fun K "_law_telling" "_law_telling" sTell2 f fd) (G : FnOk P w K mg base CX0 2 g gd ["_law_cell", "_law_names_here"] (spRowOf K FactOf)) (cG : Cal K mg "_law_fact" g gd ["_law_cell", "_law_names_here"])
    (G2 : FnOk P w K mg base CX0 3 g2 gd2 ["_law_cell", "_law_names_here"] (spRowOf K PartOf)) (cG2 : Cal K mg "_law_part" g2 gd2 ["_law_cell", "_law_names_here"]) : FnOk P w K mg base CX0 4 f fd ["_law_cells", "_law_names_here"] (spTell2 K) := by
  refine F.okQ scTell2 (fun vs H Q E h => ?_) (fun cdv A outer s H vs Q E hr h => ?_)
  · obtain ⟨c, a, ns, xs, rfl, _⟩ := h; rfl
  obtain ⟨c, a, ns, xs, rfl, hS, hA, hf, q⟩ := h
  have nd := scTell2.nd
  have hr2 := hr.mono (j := 2) (by lia)
  refine ⟨_, qb_cons (qs_set (i := 2) nd rfl (Or.inl rfl) (qe_lst (qa_tp (qa_str (qa_sub (qe_ix ix_list (qv 1) qe_int (fun _ _ => rfl)) (qa_str qa_nil))) qa_nil))) (qb_cons (qs_set (i := 3) nd rfl (Or.inl rfl) (qe_lst (qa_tp (qa_str (qa_sub (qe_ix ix_list (qv 1) qe_int (fun _ _ => rfl)) qa_nil)) qa_nil)))
    (qb_cons (qs_for PassesOwn.never rfl (qi_list (qv 0)) (qg_name (i := 4) nd rfl (Or.inl rfl))
      (qb_cons (qs_set (i := 5) nd rfl (Or.inl rfl) (qe_op op_mod (qe_op op_mul (qv 4) qe_int) qe_int))
      (qb_one (qs_if (qt_weak (QW.qt (qw_and (qt_cmpR op_eq (qe_op op_mod (qv 4) qe_int) qe_int (nomark _)) (qw_and1 (qt_cmpR op_lt (qe_callB call_len_seq rfl C.len PySem.boot_len (qa_nm (qv 2) qa_nil)) qe_int (nomark _))))) (cond_weak (K := K)))
        (qb_one (qs_expr (qe_bmK (K := K) rfl PySem.F.plainAttrs_list PySem.F.slot_list_append PySem.F.type_list_append mt_append (qv 2) (qa_call (qe_call G hr2 rfl cG.name cG.keep cG.bind .nil pass0 (qa_nm (qv 5) (qa_nm (qv 1) qa_nil))) qa_nil))))
        (qb_one (qs_if (qt_cmpR op_lt (qe_callB call_len_seq rfl C.len PySem.boot_len (qa_nm (qv 3) qa_nil)) qe_int (nomark _))
          (qb_one (qs_expr (qe_bmK (K := K) rfl PySem.F.plainAttrs_list PySem.F.slot_list_append PySem.F.type_list_append mt_append (qv 3) (qa_call (qe_call G2 hr rfl cG2.name cG2.keep cG2.bind .nil pass0 (qa_nm (qv 5) (qa_nm (qv 1) qa_nil))) qa_nil)))) qb_nil))))))
    (qb_one (qs_ret (qe_tup (qa_nm (qv 2) (qa_nm (qv 3) qa_nil))))))), ?_⟩
  obtain ⟨x0, xr, rfl⟩ : ∃ x0 xr, xs = x0 :: xr := by
    cases xs with
    | nil => exact absurd rfl hf.1
    | cons x l => exact ⟨x, l, rfl⟩
  have h0 : atI ((x0 :: xr).map V.str) 0 = some (.str x0) := atI_nat (j := 0) rfl
  refine ⟨_, rfl, a, _, 0, .str x0, rfl, rfl, hA, h0, (show 3 ≤ sizeLine by decide), fun t1 ht1 => ⟨(show 1 ≤ sizeLine by decide), fun fa hfa => ?_⟩⟩
  have s01 := same_new ht1 (.tup [.str "not", .str x0, .str "nil"])
  have s02 := same_new hfa (.lst [.ref t1])
  have s1 := s01.trans s02
  refine ⟨_, rfl, a, _, 0, .str x0, rfl, rfl, s1.seq hA, h0, (show 2 ≤ sizeLine by decide), fun t2 ht2 => ⟨(show 1 ≤ sizeLine by decide), fun pa hpa => ?_⟩⟩
  have s03 := same_new ht2 (.tup [.str "tree", .str x0])
  have s04 := same_new hpa (.lst [.ref t2])
  have s2 := s03.trans s04
  have hfa0 : H fa = none := s01.free hfa
  have hfp : fa ≠ pa := ne_of_none (s03 _ _ (show (upd (upd H t1 (.tup [.str "not", .str x0, .str "nil"])) fa (.lst [.ref t1])) fa = _ from upd_same)) hpa
  have hpa0 : H pa = none := s1.free (s03.free hpa)
  have hFa := s2 _ _ (show (upd (upd H t1 (.tup [.str "not", .str x0, .str "nil"])) fa (.lst [.ref t1])) fa = _ from upd_same)
  have hr01 : RowAt K (upd (upd (upd (upd H t1 (.tup [.str "not", .str x0, .str "nil"])) fa (.lst [.ref t1])) t2 (.tup [.str "tree", .str x0])) pa (.lst [.ref t2])) t1 [("not" : Str), x0, "nil"] := (s02.trans s2).seqT (SqT.of upd_same)
  have hr02 : RowAt K (upd (upd (upd (upd H t1 (.tup [.str "not", .str x0, .str "nil"])) fa (.lst [.ref t1])) t2 (.tup [.str "tree", .str x0])) pa (.lst [.ref t2])) t2 [("tree" : Str), x0] := s04.seqT (SqT.of upd_same)
  have f0 : FactOf (x0 :: xr) [("not" : Str), x0, "nil"] := ⟨_, _, _, rfl, .inr rfl, .inr (List.mem_cons_self ..), .inl rfl⟩
  have p0 : PartOf (x0 :: xr) [("tree" : Str), x0] := .inr (.inr ⟨_, rfl, .inr (List.mem_cons_self ..)⟩)
  refine ⟨_, rfl, c, rfl, ⟨_, s2.seq (s1.seq hS)⟩, ?_⟩
  refine for_list (xs := ns.map V.int) (fun i σ H' => Same H H' ∧ ∃ fas pas fs ps z4 z5, H' fa = some (.lst (fas.map V.ref)) ∧ H' pa = some (.lst (pas.map V.ref)) ∧ Paired (fun b r => RowAt K H' b r) fas fs ∧ Paired (fun b r => RowAt K H' b r) pas ps ∧
      1 ≤ fs.length ∧ 1 ≤ ps.length ∧ fs.length ≤ 7 ∧ ps.length ≤ 5 ∧ (∀ r ∈ fs, FactOf (x0 :: xr) r) ∧ (∀ r ∈ ps, PartOf (x0 :: xr) r) ∧ σ = [some (.ref c), some (.ref a), some (.ref fa), some (.ref pa), z4, z5])
    ⟨s1.trans s2, [t1], [t2], [_], [_], none, none, hFa, upd_same, .cons hr01 .nil, .cons hr02 .nil, by simp, by simp, by simp, by simp, (fun r hr => by rw [List.mem_singleton.mp hr]; exact f0), (fun r hr => by rw [List.mem_singleton.mp hr]; exact p0), rfl⟩ (fun i σ H' _ p => p.1.seq hS) ?_ ?_
  · rintro i v σ H' hi ⟨e, fas, pas, fs, ps, z4, z5, hF, hP, pF, pP, gF, gP, lF, lP, oF, oP, rfl⟩
    obtain ⟨n, hn, rfl⟩ := List.mem_map.mp (List.mem_of_getElem? hi)
    have fl : fas.length = fs.length := Paired.length pF
    have pl : pas.length = ps.length := Paired.length pP
    refine ⟨_, rfl, _, _, rfl, rfl, .inr ⟨by decide, by decide⟩, _, _, rfl, rfl, (show (0 : Int) < 2147483647 by decide), ?_⟩
    refine ⟨n, fa, _, rfl, rfl, hF, fun b hb => iteB (fun c => ?_) (fun c => ?_)⟩
    · have hlt : fs.length < 7 := by have := hb c; rw [List.length_map] at this; lia
      refine ⟨_, rfl, .inl ⟨rfl, _, SqL.of hF⟩, _, rfl, _, rfl, _, a, x0 :: xr, rfl, e.seq hA, hf, fun t r H2 e2 ht hr' => ?_⟩
      have hF2 := e2 _ _ hF
      refine ⟨fa, _, .ref t, rfl, rfl, hF2, by rw [List.length_map]; exact Nat.lt_of_le_of_lt (show fas.length ≤ 8 by lia) (by decide), ?_⟩
      refine ⟨same_put hfa0 (e.trans e2) _, fas ++ [t], pas, fs ++ [r], ps, _, _, ?_, ?_, ?_, ?_, (by rw [List.length_append]; lia), gP, ?_, lP, ?_, oP, rfl⟩
      · rw [upd_same, List.map_append]; rfl
      · rw [upd_ne (Ne.symm hfp)]; exact e2 _ _ hP
      · exact snocR pF (fun b r z => row_put hF2 (z.same e2)) (row_put hF2 (SqT.of ht))
      · exact Paired.mapP pP fun b r z => row_put hF2 (z.same e2)
      · rw [List.length_append, List.length_singleton]; lia
      · intro r' hr2
        rcases List.mem_append.mp hr2 with h | h
        · exact oF r' h
        · simp only [List.mem_cons, List.not_mem_nil, or_false] at h; rw [h]; exact hr'
    · refine ⟨_, rfl, pa, _, rfl, .inl (SqL.of hP), _, _, rfl, rfl, _, rfl, iteB (fun c2 => ?_) (fun c2 => ?_)⟩
      · have hlt : ps.length < 5 := by have := of_decide_eq_true c2; rw [List.length_map] at this; lia
        refine ⟨_, rfl, .inl ⟨rfl, _, SqL.of hP⟩, _, rfl, _, rfl, _, a, x0 :: xr, rfl, e.seq hA, hf, fun t r H2 e2 ht hr' => ?_⟩
        have hP2 := e2 _ _ hP
        refine ⟨pa, _, .ref t, rfl, rfl, hP2, by rw [List.length_map]; exact Nat.lt_of_le_of_lt (show pas.length ≤ 6 by lia) (by decide), ?_⟩
        refine ⟨same_put hpa0 (e.trans e2) _, fas, pas ++ [t], fs, ps ++ [r], _, _, ?_, ?_, ?_, ?_, gF, (by rw [List.length_append]; lia), lF, ?_, oF, ?_, rfl⟩
        · rw [upd_ne hfp]; exact e2 _ _ hF
        · rw [upd_same, List.map_append]; rfl
        · exact Paired.mapP pF fun b r z => row_put hP2 (z.same e2)
        · exact snocR pP (fun b r z => row_put hP2 (z.same e2)) (row_put hP2 (SqT.of ht))
        · rw [List.length_append, List.length_singleton]; lia
        · intro r' hr2
          rcases List.mem_append.mp hr2 with h | h
          · exact oP r' h
          · simp only [List.mem_cons, List.not_mem_nil, or_false] at h; rw [h]; exact hr'
      · exact ⟨e, fas, pas, fs, ps, _, _, hF, hP, pF, pP, gF, gP, lF, lP, oF, oP, rfl⟩
  · rintro σ H' ⟨e, fas, pas, fs, ps, z4, z5, hF, hP, pF, pP, gF, gP, lF, lP, oF, oP, rfl⟩
    refine ⟨_, rfl, _, rfl, (show 2 ≤ sizeLine by decide), fun t ht => ?_⟩
    have s6 := same_new ht (.tup [.ref fa, .ref pa])
    exact q t fa pa fs ps _ ⟨e.trans s6, SqT.of upd_same, ⟨fas, s6 _ _ hF, Paired.mapP pF fun b r z => z.same s6⟩, ⟨pas, s6 _ _ hP, Paired.mapP pP fun b r z => z.same s6⟩, hfa0, hpa0, hfp⟩ gF gP lF lP oF oP
end
end K4
namespace K4
open PySem PySem.Spec L2 Mir
noncomputable abbrev sRefused : Stmt := top 48
structure Errs (K : PySem.W.Frag) (mg : Str → Option Value) (AE NT NV NP NR NN NX : Addr) : Prop where
  ae : mg "ApartError" = some (.ref AE)
  nt : ErrC K mg "NoTelling" NT
  nv : mg "NoValue" = some (.ref NV)
  np : mg "NoProgram" = some (.ref NP)
  nr : mg "NoRow" = some (.ref NR)
  nn : mg "NoName" = some (.ref NN)
  nx : mg "NoText" = some (.ref NX)
  exc : ExcK K NT
  catches : PySem.W.exmOne K (.ref NT) (.ref AE) = some true
  isNT : PySem.W.kitOne K (.ref NT) (.ref NT) = some true
  isVE : PySem.W.kitOne K (.ref NT) (.type "ValueError") = some true
  others : PySem.W.kitAny K (.ref NT) (([NV, NP, NR, NN, NX] : List Addr).map Value.ref) = some false
  ve : mg "ValueError" = none
theorem bootVE : bootBuiltins "ValueError" = some (.type "ValueError") := by decide +kernel
noncomputable def spRefused (K : PySem.W.Frag) : Sp := fun vs H Q _ => ∃ (v : V) (b acc : Bool), vs = [v, .bl b] ∧ ((b = false ∧ ∃ a rss, v = .ref a ∧ TellAt K H a rss ∧ ShortTell rss ∧ acc = isTelling rss) ∨ (b = true ∧ ∃ x, v = .str x ∧ x.length ≤ 900 ∧ acc = taken x)) ∧ ∀ H', Same H H' → Q (.bl (!acc)) H'
noncomputable def rIsiE (K : PySem.W.Frag) : List V → Hp → VK → Prop := fun xs H Q => ∃ (a C : Addr) (c : V) (u : Value) (b : Bool), xs = [.ref a, c] ∧ (∀ v, RelV c v → v = u) ∧ H a = some (ExcO a (.ref C)) ∧ ExcK K C ∧ PySem.W.kitOne K (.ref C) u = some b ∧ Q (.bl b) H
noncomputable def rIsiT (K : PySem.W.Frag) : List V → Hp → VK → Prop := fun xs H Q => ∃ (a C p : Addr) (cs : List Addr) (b : Bool), xs = [.ref a, .ref p] ∧ H p = some (.tup (cs.map V.ref)) ∧ H a = some (ExcO a (.ref C)) ∧ ExcK K C ∧ PySem.W.kitAny K (.ref C) (cs.map Value.ref) = some b ∧ Q (.bl b) H
theorem isiE {X : Cx} {K : PySem.W.Frag} (h : X.K = K) : CallR X (.builtin "isinstance") (rIsiE K) := by subst h; exact call_isi_exc
theorem isiT {X : Cx} {K : PySem.W.Frag} (h : X.K = K) : CallR X (.builtin "isinstance") (rIsiT K) := by subst h; exact call_isi_excT
section
variable {P : Program} {w : World} {K : PySem.W.Frag} {mg : Str → Option Value} {base : Heap} {f gK gR : Addr} {fd dK dR : FuncData} {AE NT NV NP NR NN NX : Addr}
theorem scRefused : FnScope ["_law_thing", "_law_as_text", "_law_told", "e"] ["_law_thing", "_law_as_text"] (defScope sRefused) := ⟨rfl, rfl, rfl, by decide +kernel, rfl, by decide +kernel, by decide +kernel⟩
theorem ok_refused (C : Con K mg w) (Er : Errs K mg AE NT NV NP NR NN NX) (F : Fun K "_law_refused" "_law_refused" sRefused f fd) (GK : FnOk P w K mg base (CXE P w base) 5 gK dK ["telling"] (spCheck K NT)) (cK : Cal K mg "check_telling" gK dK ["telling"])
    (GR : FnOk P w K mg base (CXE P w base) 6 gR dR ["text"] (spRead K NT)) (cR : Cal K mg "read_telling" gR dR ["text"]) :
    FnOk P w K mg base CX0 7 f fd ["_law_thing", "_law_as_text"] (spRefused K) := by
  refine F.okQ scRefused (fun vs H Q E h => ?_) (fun cdv A outer s H vs Q E hr h => ?_)
  · obtain ⟨v, b, acc, rfl, _⟩ := h; rfl
  obtain ⟨v, b, acc, rfl, hv, q⟩ := h
  have nd := scRefused.nd
  have hr5 := hr.mono (j := 5) (by lia)
  refine ⟨_, qb_cons (qs_set (i := 2) nd rfl (Or.inl rfl) qe_bl)
    (qb_cons (qs_try (E := fun cls _ H' => cls = .ref NT ∧ Same H H' ∧ acc = false) (i := 3) rfl rfl rfl
      (fun _ => qb_one (qs_if (qt_val (qv 1)) (qb_one (qs_expr (qe_call GR hr rfl cR.name cR.keep cR.bind .nil pass_try (qa_nm (qv 0) qa_nil)))) (qb_one (qs_expr (qe_call GK hr5 rfl cK.name cK.keep cK.bind .nil pass_try (qa_nm (qv 0) qa_nil))))))
      (fun _ _ => qb_cons (qs_set (i := 2) nd rfl (Or.inl rfl) (qe_and (qe_callB (isiE (K := K) rfl) rfl C.isi PyProof.Rows.boot_isinstance (qa_nm (qv 3) (qa_nm ⟨pe_g ⟨_, Er.nt.name, rfl⟩ (v := .ref NT)⟩ qa_nil)))
          (qe_one (qe_callB (isiE (K := K) rfl) rfl C.isi PyProof.Rows.boot_isinstance (qa_nm (qv 3) (qa_nm ⟨gty Er.ve bootVE⟩ qa_nil))))))
        (qb_one (qs_if (qt_val (qe_callB (isiT (K := K) rfl) rfl C.isi PyProof.Rows.boot_isinstance (qa_nm (qv 3) (qa_tp (qa_nm ⟨pe_g ⟨_, Er.nv, rfl⟩ (v := .ref NV)⟩ (qa_nm ⟨pe_g ⟨_, Er.np, rfl⟩ (v := .ref NP)⟩ (qa_nm ⟨pe_g ⟨_, Er.nr, rfl⟩ (v := .ref NR)⟩ (qa_nm ⟨pe_g ⟨_, Er.nn, rfl⟩ (v := .ref NN)⟩ (qa_nm ⟨pe_g ⟨_, Er.nx, rfl⟩ (v := .ref NX)⟩ qa_nil))))) qa_nil))))
          (qb_one (qs_set (i := 2) nd rfl (Or.inl rfl) qe_bl)) qb_nil)))
      rfl Er.ae nd rfl rfl rfl)
    (qb_one (qs_ret (qv 2)))), ?_⟩
  refine ⟨?_, ?_⟩
  · refine ⟨_, rfl, _, rfl, ?_⟩
    rcases hv with ⟨rfl, a, rss, rfl, hT, hs, hacc⟩ | ⟨rfl, x, rfl, hx, hacc⟩
    · refine iteF ⟨_, rfl, a, rss, rfl, hT, hs, fun H' e => iteB (fun c => ?_) (fun c => ⟨rfl, e, hacc.trans c⟩)⟩
      have := q H' e
      rw [hacc, c] at this
      exact ⟨_, rfl, this⟩
    · obtain ⟨r1, r2, r3, r4⟩ := read_ok hx
      refine iteT ⟨_, rfl, x, rfl, r1, r2, r3, r4, fun c t fa pa H' N => ?_, fun c H' e => ⟨rfl, e, hacc.trans c⟩⟩
      have := q H' N.same
      rw [hacc, show taken x = true from c] at this
      exact ⟨_, rfl, this⟩
  · rintro ea cls H' ⟨rfl, e, c⟩ hna
    refine ⟨Er.catches, ?_⟩
    refine ⟨_, rfl, ea, NT, .ref NT, .ref NT, true, rfl, fun v hv => hv, upd_same, Er.exc, Er.isNT, _, rfl, iteT ?_⟩
    refine ⟨_, rfl, ea, NT, .ty "ValueError", .type "ValueError", true, rfl, fun v hv => hv, upd_same, Er.exc, Er.isVE, ?_⟩
    have s2 := same_new hna (ExcO ea (.ref NT))
    refine ⟨_, rfl, (show 5 ≤ sizeLine by decide), fun t ht2 => ?_⟩
    have s4 := same_new ht2 (.tup (([NV, NP, NR, NN, NX] : List Addr).map V.ref))
    refine ⟨ea, NT, t, [NV, NP, NR, NN, NX], false, rfl, upd_same, s4 _ _ upd_same, Er.exc, Er.others, _, rfl, iteF ⟨_, rfl, ?_⟩⟩
    have := q _ (e.trans (s2.trans s4))
    rw [c] at this
    exact this
end
end K4
namespace K4
open PySem PySem.Spec L2 Mir
noncomputable abbrev sMany : Stmt := top 43
theorem cut_V (xs : List V) (n : Nat) : cutV xs none (some (n : Int)) = xs.take n := by
  unfold cutV
  rw [HT.sIx_nat, HT.sIx_none, List.drop_zero, Nat.sub_zero]
  by_cases h : n ≤ xs.length
  · rw [Nat.min_eq_left h]
  · rw [Nat.min_eq_right (by lia), List.take_length, List.take_of_length_le (by lia)]
theorem rep_one {α : Type} {xs : List α} {ys : List (List Str)} {R : α → List Str → Prop} (h : Paired R xs ys) (k : Nat) : Paired R (List.replicate k (xs.take 1)).flatten (List.replicate k (ys.take 1)).flatten := by
  induction k with
  | zero => exact .nil
  | succ k ih =>
    rw [List.replicate_succ, List.replicate_succ, List.flatten_cons, List.flatten_cons]
    refine Paired.app ?_ ih
    cases h with
    | nil => exact .nil
    | cons h t => exact .cons h .nil
theorem rep_mem {k : Nat} {ys : List (List Str)} : ∀ r ∈ (List.replicate k (ys.take 1)).flatten, r ∈ ys := fun r hr => by
  obtain ⟨l, h1, h2⟩ := List.mem_flatten.mp hr
  rw [List.eq_of_mem_replicate h1] at h2
  exact List.mem_of_mem_take h2
theorem rep_len {α : Type} {k : Nat} {ys : List α} (h : 1 ≤ ys.length) : (List.replicate k (ys.take 1)).flatten.length = k := by
  rw [len_rep, List.length_take]
  rw [Nat.min_eq_left h, Nat.mul_one]
theorem rep_map {α β : Type} (g : α → β) (k : Nat) (l : List α) : (List.replicate k ((l.map g).take 1)).flatten = ((List.replicate k (l.take 1)).flatten).map g := by
  rw [List.map_flatten, List.map_replicate, List.map_take]
noncomputable def nine : List (List Str) := [[("cell" : Str), "n0", "n1", "n2"], [("cell" : Str), "n3", "n4", "n5"], [("cell" : Str), "n6", "n7", "n8"]]
noncomputable def ManyOf (fs ps fs' ps' : List (List Str)) : Prop := (9 ≤ fs'.length ∧ fs'.length ≤ 17 ∧ (∀ r ∈ fs', r ∈ fs) ∧ ps' = ps) ∨ (7 ≤ ps'.length ∧ ps'.length ≤ 15 ∧ (∀ r ∈ ps', r ∈ ps) ∧ fs' = fs) ∨ (fs' = fs ∧ ps' = nine ++ ps)
noncomputable def spMany (K : PySem.W.Frag) : Sp := fun vs H Q _ => ∃ (t : Addr) (way cell : Int) (fs ps : List (List Str)), vs = [.ref t, .int way, .int cell] ∧ TellAt K H t [fs, ps] ∧ 1 ≤ fs.length ∧ fs.length ≤ 7 ∧ 1 ≤ ps.length ∧ ps.length ≤ 5 ∧ ∀ t' fs' ps' H', Same H H' → TellAt K H' t' [fs', ps'] → ManyOf fs ps fs' ps' → Q (.ref t') H'
noncomputable def tManyS (K : PySem.W.Frag) : TS := fun D σ H => ∃ (t : Addr) (way cell : Int) (fl pl : Addr) (fs ps : List (List Str)), σ = [some (.ref t), some (.int way), some (.int cell), some (.ref fl), some (.ref pl)] ∧ RowsAt K H fl fs ∧ RowsAt K H pl ps ∧ 1 ≤ fs.length ∧ fs.length ≤ 7 ∧ 1 ≤ ps.length ∧ ps.length ≤ 5 ∧
  ∀ fl' pl' fs' ps' H', Same H H' → RowsAt K H' fl' fs' → RowsAt K H' pl' ps' → ManyOf fs ps fs' ps' → D.nx [some (.ref t), some (.int way), some (.int cell), some (.ref fl'), some (.ref pl')] H'
section
variable {P : Program} {w : World} {K : PySem.W.Frag} {mg : Str → Option Value} {base : Heap} {f : Addr} {fd : FuncData}
theorem scMany : FnScope ["_law_telling_here", "_law_way", "_law_cell", "_law_facts", "_law_parts"] ["_law_telling_here", "_law_way", "_law_cell"] (defScope sMany) := ⟨rfl, rfl, rfl, by decide +kernel, rfl, by decide +kernel, by decide +kernel⟩
theorem ok_many (C : Con K mg w) (F : Fun K "_law_many" "_law_many" sMany f fd) : FnOk P w K mg base CX0 1 f fd ["_law_telling_here", "_law_way", "_law_cell"] (spMany K) := by
  refine F.okQ scMany (fun vs H Q E h => ?_) (fun cdv A outer s0 H vs Q E hr h => ?_)
  · obtain ⟨t, way, cell, fs, ps, rfl, _⟩ := h; rfl
  obtain ⟨t, way, cell, fs, ps, rfl, hT, f1, f7, p1, p5, q⟩ := h
  have nd := scMany.nd
  refine ⟨_, qb_cons (qs_set (i := 3) nd rfl (Or.inl rfl) (qe_callTy call_list_of rfl C.list PyProof.Rows.boot_list (qa_sub (qe_ix ix_tup (qv 0) qe_int (fun _ _ => rfl)) qa_nil)))
    (qb_cons (qs_set (i := 4) nd rfl (Or.inl rfl) (qe_callTy call_list_of rfl C.list PyProof.Rows.boot_list (qa_sub (qe_ix ix_tup (qv 0) qe_int (fun _ _ => rfl)) qa_nil)))
    (qb_cons (qs_weak (t' := tManyS K) (qs_if (qt_cmpR op_eq (qv 1) qe_int (nomark _)) (qb_one (qs_set (i := 3) nd rfl (Or.inl rfl) (qe_op op_cat (qv 3) (qe_op op_rep (qe_slice sl_list (qv 3) qo_none (qo_some qe_int)) (qe_op op_add (qe_op op_sub qe_int (qe_callB call_len_seq rfl C.len PySem.boot_len (qa_nm (qv 3) qa_nil))) (qe_op op_mod (qv 2) qe_int)))))) (qb_one (qs_if (qt_cmpR op_eq (qv 1) qe_int (nomark _)) (qb_one (qs_set (i := 4) nd rfl (Or.inl rfl) (qe_op op_cat (qv 4) (qe_op op_rep (qe_slice sl_list (qv 4) qo_none (qo_some qe_int)) (qe_op op_add (qe_op op_sub qe_int (qe_callB call_len_seq rfl C.len PySem.boot_len (qa_nm (qv 4) qa_nil))) (qe_op op_mod (qv 2) qe_int)))))) (qb_one (qs_set (i := 4) nd rfl (Or.inl rfl) (qe_op op_cat (qe_lst (qa_tp (qa_str (qa_str (qa_str (qa_str qa_nil)))) (qa_tp (qa_str (qa_str (qa_str (qa_str qa_nil)))) (qa_tp (qa_str (qa_str (qa_str (qa_str qa_nil)))) qa_nil)))) (qv 4))))))) (fun D σ H h => by
      obtain ⟨t, way, cell, fl, pl, fs, ps, rfl, hF, hP, f1, f7, p1, p5, q⟩ := h
      obtain ⟨fas, hfl, hfp⟩ := hF
      obtain ⟨pas, hpl, hpp⟩ := hP
      have hfal := Paired.length hfp
      have hpal := Paired.length hpp
      have g0 := Int.emod_nonneg cell (show (9 : Int) ≠ 0 by decide)
      have g9 := Int.emod_lt_of_pos cell (show (0 : Int) < 9 by decide)
      refine ⟨_, rfl, rfl, _, rfl, iteB (fun _ => ?_) (fun _ => ?_)⟩
      · refine ⟨_, rfl, _, rfl, _, rfl, fl, _, rfl, SqL.of hfl, fun c1 hc1 => ?_⟩
        have s1 := same_new hc1 (.lst ((fas.map V.ref).take 1))
        rw [show cutV (fas.map V.ref) none (some 1) = (fas.map V.ref).take 1 from cut_V _ 1]
        refine ⟨_, rfl, fl, _, rfl, .inl (SqL.of (s1 _ _ hfl)), _, _, rfl, rfl, _, rfl, _, _, rfl, rfl, (show (0 : Int) < 9 by decide), _, _, rfl, rfl, c1, _, _, rfl, rfl, upd_same, ?_, ?_, ?_, fun c2 hc2 => ?_⟩
        · rw [List.length_map]; lia
        · rw [List.length_map]; lia
        · rw [List.length_map, List.length_take, List.length_map]; exact Nat.le_trans (Nat.mul_le_mul (show min 1 fas.length ≤ 1 by lia) (show _ ≤ 20 by lia)) (by decide)
        have s2 := same_new hc2 (.lst (List.replicate (9 - (((fas.map V.ref).length : Nat) : Int) + cell % 9).toNat ((fas.map V.ref).take 1)).flatten)
        have s12 := s1.trans s2
        have hkk : (9 - (((fas.map V.ref).length : Nat) : Int) + cell % 9).toNat + fs.length ≤ 17 ∧ 9 ≤ (9 - (((fas.map V.ref).length : Nat) : Int) + cell % 9).toNat + fs.length := by rw [List.length_map]; lia
        generalize (9 - (((fas.map V.ref).length : Nat) : Int) + cell % 9).toNat = kk at s2 s12 hkk ⊢
        rw [rep_map] at s2 s12 ⊢
        refine ⟨fl, c2, _, _, rfl, rfl, s12 _ _ hfl, upd_same, ?_, fun c3 hc3 => ?_⟩
        · rw [List.length_map, List.length_map, rep_len (by lia)]; exact Nat.le_trans (show _ ≤ 1000 by lia) (by decide)
        rw [← List.map_append]
        have s3 := same_new hc3 (.lst ((fas ++ (List.replicate kk (fas.take 1)).flatten).map V.ref))
        have s13 := s12.trans s3
        refine q c3 pl (fs ++ (List.replicate kk (fs.take 1)).flatten) ps _ s13 ⟨_, upd_same, Paired.app (Paired.mapP hfp fun _ _ z => s13.seqT z) (rep_one (Paired.mapP hfp fun _ _ z => s13.seqT z) kk)⟩ ⟨pas, s13 _ _ hpl, Paired.mapP hpp fun _ _ z => s13.seqT z⟩ (.inl ⟨?_, ?_, fun r hr => ?_, rfl⟩)
        · rw [List.length_append, rep_len f1]; lia
        · rw [List.length_append, rep_len f1]; lia
        · rcases List.mem_append.mp hr with h | h
          · exact h
          · exact rep_mem r h
      · refine ⟨_, rfl, rfl, _, rfl, iteB (fun _ => ?_) (fun _ => ?_)⟩
        · refine ⟨_, rfl, _, rfl, _, rfl, pl, _, rfl, SqL.of hpl, fun c1 hc1 => ?_⟩
          have s1 := same_new hc1 (.lst ((pas.map V.ref).take 1))
          rw [show cutV (pas.map V.ref) none (some 1) = (pas.map V.ref).take 1 from cut_V _ 1]
          refine ⟨_, rfl, pl, _, rfl, .inl (SqL.of (s1 _ _ hpl)), _, _, rfl, rfl, _, rfl, _, _, rfl, rfl, (show (0 : Int) < 9 by decide), _, _, rfl, rfl, c1, _, _, rfl, rfl, upd_same, ?_, ?_, ?_, fun c2 hc2 => ?_⟩
          · rw [List.length_map]; lia
          · rw [List.length_map]; lia
          · rw [List.length_map, List.length_take, List.length_map]; exact Nat.le_trans (Nat.mul_le_mul (show min 1 pas.length ≤ 1 by lia) (show _ ≤ 20 by lia)) (by decide)
          have s2 := same_new hc2 (.lst (List.replicate (7 - (((pas.map V.ref).length : Nat) : Int) + cell % 9).toNat ((pas.map V.ref).take 1)).flatten)
          have s12 := s1.trans s2
          have hkk : (7 - (((pas.map V.ref).length : Nat) : Int) + cell % 9).toNat + ps.length ≤ 15 ∧ 7 ≤ (7 - (((pas.map V.ref).length : Nat) : Int) + cell % 9).toNat + ps.length := by rw [List.length_map]; lia
          generalize (7 - (((pas.map V.ref).length : Nat) : Int) + cell % 9).toNat = kk at s2 s12 hkk ⊢
          rw [rep_map] at s2 s12 ⊢
          refine ⟨pl, c2, _, _, rfl, rfl, s12 _ _ hpl, upd_same, ?_, fun c3 hc3 => ?_⟩
          · rw [List.length_map, List.length_map, rep_len (by lia)]; exact Nat.le_trans (show _ ≤ 1000 by lia) (by decide)
          rw [← List.map_append]
          have s3 := same_new hc3 (.lst ((pas ++ (List.replicate kk (pas.take 1)).flatten).map V.ref))
          have s13 := s12.trans s3
          refine q fl c3 fs (ps ++ (List.replicate kk (ps.take 1)).flatten) _ s13 ⟨fas, s13 _ _ hfl, Paired.mapP hfp fun _ _ z => s13.seqT z⟩ ⟨_, upd_same, Paired.app (Paired.mapP hpp fun _ _ z => s13.seqT z) (rep_one (Paired.mapP hpp fun _ _ z => s13.seqT z) kk)⟩ (.inr (.inl ⟨?_, ?_, fun r hr => ?_, rfl⟩))
          · rw [List.length_append, rep_len p1]; lia
          · rw [List.length_append, rep_len p1]; lia
          · rcases List.mem_append.mp hr with h | h
            · exact h
            · exact rep_mem r h
        · refine ⟨(show 4 ≤ sizeLine by decide), fun t1 ht1 => ⟨(show 4 ≤ sizeLine by decide), fun t2 ht2 => ⟨(show 4 ≤ sizeLine by decide), fun t3 ht3 => ⟨(show 3 ≤ sizeLine by decide), fun l ht4 => ?_⟩⟩⟩⟩
          have s1 := same_new ht1 (.tup [.str "cell", .str "n0", .str "n1", .str "n2"])
          have s2 := same_new ht2 (.tup [.str "cell", .str "n3", .str "n4", .str "n5"])
          have s3 := same_new ht3 (.tup [.str "cell", .str "n6", .str "n7", .str "n8"])
          have s4 := same_new ht4 (.lst [.ref t1, .ref t2, .ref t3])
          have s14 := s1.trans (s2.trans (s3.trans s4))
          refine ⟨_, rfl, l, pl, _, _, rfl, rfl, upd_same, s14 _ _ hpl, ?_, fun l2 hl2 => ?_⟩
          · rw [List.length_map]; exact Nat.le_trans (show 3 + pas.length ≤ 1000 by lia) (by decide)
          have s5 := same_new hl2 (.lst (([t1, t2, t3] ++ pas).map V.ref))
          have s15 := s14.trans s5
          refine q fl l2 fs (nine ++ ps) _ s15 ⟨fas, s15 _ _ hfl, Paired.mapP hfp fun _ _ z => s15.seqT z⟩ ⟨_, upd_same, Paired.app (.cons ?_ (.cons ?_ (.cons ?_ .nil))) (Paired.mapP hpp fun _ _ z => s15.seqT z)⟩ (.inr (.inr ⟨rfl, rfl⟩))
          · exact (s2.trans (s3.trans (s4.trans s5))).seqT (SqT.of upd_same)
          · exact (s3.trans (s4.trans s5)).seqT (SqT.of upd_same)
          · exact (s4.trans s5).seqT (SqT.of upd_same)))
    (qb_one (qs_ret (qe_tup (qa_nm (qv 3) (qa_nm (qv 4) qa_nil))))))), ?_⟩
  obtain ⟨as, t1, t2⟩ := id hT
  cases t2 with
  | @cons fa _ _ _ t3 t4 =>
  cases t4 with
  | @cons pa _ _ _ t5 t6 =>
  cases t6
  obtain ⟨fas, hfl, hfp⟩ := t3
  obtain ⟨pas, hpl, hpp⟩ := t5
  refine ⟨_, rfl, t, _, 0, .ref fa, rfl, rfl, t1, rfl, fa, _, rfl, .inl (SqL.of hfl), fun l1 hl1 => ?_⟩
  have s1 := same_new hl1 (.lst (fas.map V.ref))
  refine ⟨_, rfl, t, _, 1, .ref pa, rfl, rfl, s1.seqT t1, rfl, pa, _, rfl, .inl (SqL.of (s1 _ _ hpl)), fun l2 hl2 => ?_⟩
  have s2 := same_new hl2 (.lst (pas.map V.ref))
  have s12 := s1.trans s2
  refine ⟨t, way, cell, l1, l2, fs, ps, rfl, ⟨fas, s2 _ _ upd_same, Paired.mapP hfp fun _ _ z => s12.seqT z⟩, ⟨pas, upd_same, Paired.mapP hpp fun _ _ z => s12.seqT z⟩, f1, f7, p1, p5, fun fl' pl' fs' ps' H' e hF hP hM => ?_⟩
  refine ⟨_, rfl, _, rfl, (show 2 ≤ sizeLine by decide), fun t' ht' => ?_⟩
  have s3 := same_new ht' (.tup [.ref fl', .ref pl'])
  exact q t' fs' ps' _ (s12.trans (e.trans s3)) ⟨[fl', pl'], SqT.of upd_same, .cons (hF.same s3) (.cons (hP.same s3) .nil)⟩ hM
end
end K4
namespace HT
open PySem PySem.Spec PyProof.Rows L2
variable {prog : Program} {w : World} {A : Around} {E : Value → Shared → Prop} {s : Shared}
theorem getItem_tuple_whole {t sl : Addr} {items : Array Value} {vl vu : Value} {lo hi : Option Int} {Q : Value → Shared → Prop} (ht : IsTup s.heap t items) (hs : s.heap.IsSliceOf sl vl vu .none) (pl : IsPart vl lo) (pu : IsPart vu hi)
    (h1 : sIx items.size 0 lo = 0) (h2 : sIx items.size items.size hi = items.size)
    (h : Q (.ref t) s) : wpAny (model prog w) A (getItem (.ref t) (.ref sl)) Q E s := by
  obtain ⟨os, hos, hcs, hds⟩ := id hs
  have hTs : s.TypeIs (.ref sl) "slice" := ⟨os, hos, hcs⟩
  unfold getItem
  try with_reducible refine wpAny_holding ?_
  first | refine wpAny_bind (wpAny_pure ?_) | skip
  refine wpAny_bind (wpAny_sequenceKey ht.typeIs (by decide) ?_)
  refine wpAny_bind (wpAny_callSpecial?_slot (name := Str.ofString "__getitem__") ht.typeIs PyProof.Rows.slot_tuple_getitem
    (wpAny_call_entry PyProof.Rows.slot_tuple_getitem ht.typeIs entry_tuple_getitem ?_ (args_tuple_getitem _ _)))
  show wpAny _ _ (Builtin.Tuple.tupleItemsOf (.ref t) >>= _) _ _ s
  refine wpAny_bind (tupleItemsOf_ ht ?_)
  refine wpAny_bind (wpAny_typeOf hTs ?_)
  rw [if_pos (by decide)]
  refine wpAny_bind (sliceApplied_gen hs pl pu ?_)
  have hyes : ((((sIx items.size 0 lo : Nat) : Int) == 0 && (1 : Int) == 1 && (sIx items.size items.size hi - sIx items.size 0 lo) == items.size) = true) := by
    rw [h1, h2]; simp
  show wpAny _ _ (if (((sIx items.size 0 lo : Nat) : Int) == 0 && (1 : Int) == 1 && (sIx items.size items.size hi - sIx items.size 0 lo) == items.size) = true then _ else _) _ _ s
  rw [if_pos hyes]
  unfold Builtin.Tuple.tupleIsExact
  refine wpAny_bind (wpAny_bind (wpAny_typeOf ht.typeIs (wpAny_pure ?_)))
  rw [if_pos (by decide)]
  refine wpAny_bind (wpAny_rule ?_)
  exact wpAny_pure ⟨_, rfl, wpAny_pure h⟩
theorem cat_tup0 {t b : Addr} {vs ws : List Value} {Q : Value → Shared → Prop} (ht : IsTup s.heap t vs.toArray) (hb : IsTup s.heap b ws.toArray) (hv : vs = [])
    (h1 : Q (.ref b) s) : wpAny (model prog w) A (binaryOp .Add (.ref t) (.ref b)) Q E s := by
  obtain ⟨⟨cls, dd, data, sl⟩, ho, hc, n, hd⟩ := id ht
  obtain ⟨⟨cls2, dd2, data2, sl2⟩, ho2, hc2, n2, hd2⟩ := id hb
  simp only at hc hd hc2 hd2
  subst hc hd hc2 hd2
  exact concat_meets ⟨_, ho, rfl⟩ ⟨_, ho2, rfl⟩ noFill_tuple_add seq_tuple_add PySem.F.slot_tuple_add PySem.F.entry_tuple_add (PySem.F.args_tuple_add_2 _ _)
      (tuple_addW0 t b vs.toArray ws.toArray n n2 dd dd2 sl sl2 (by simp [hv])) ⟨ho, ho2, h1⟩
end HT
namespace L2
open PySem PySem.Spec PyProof.Rows
section
variable {X : Cx}
theorem cutV_whole {xs : List V} {lo hi : Option Int} (h1 : HT.sIx xs.length 0 lo = 0) (h2 : HT.sIx xs.length xs.length hi = xs.length) : cutV xs lo hi = xs := by
  unfold cutV
  rw [h1, h2, List.drop_zero, Nat.sub_zero, List.take_length]
noncomputable def rSlTU (K : PySem.W.Frag) : V → Option Int → Option Int → Hp → VK → Prop := fun x lo hi H Q => ∃ a xs, x = .ref a ∧ SqT K H a xs ∧ ∀ p H', Same H H' → SqT K H' p (cutV xs lo hi) → Q (.ref p) H'
theorem sl_tupU : SlR X (rSlTU X.K) := by
  intro pins s σ H x v vl vu lo hi sl Q I rx hs pl pu h
  obtain ⟨a, xs, rfl, hx, q⟩ := h
  by_cases hw : HT.sIx xs.length 0 lo = 0 ∧ HT.sIx xs.length xs.length hi = xs.length
  · cases rx
    obtain ⟨its, r, ht, hz⟩ := I.tuple hx
    have hlen : its.toArray.size = xs.length := by rw [List.size_toArray]; exact r.length.symm
    refine ⟨"tuple", _, PyProof.Rows.slot_tuple_getitem.lookup, ht.typeIs, ?_⟩
    refine HT.getItem_tuple_whole ht hs pl pu (by rw [hlen]; exact hw.1) (by rw [hlen]; exact hw.2) ?_
    refine ⟨.ref a, H, I, rfl, q a H (Same.refl _) ?_⟩
    rw [cutV_whole hw.1 hw.2]; exact hx
  · exact sl_tup pins s σ H (.ref a) v vl vu lo hi sl Q I rx hs pl pu ⟨a, xs, rfl, hx, hw, fun p hp => q p _ (same_new hp _) (SqT.of upd_same)⟩
noncomputable def rCatTU (K : PySem.W.Frag) : R2 := fun x y H Q => ∃ a b xs ys, x = .ref a ∧ y = .ref b ∧ SqT K H a xs ∧ SqT K H b ys ∧ xs.length + ys.length ≤ sizeLine ∧ ∀ p H', Same H H' → SqT K H' p (xs ++ ys) → Q (.ref p) H'
theorem op_catTU : OpR X (binaryOp .Add) (rCatTU X.K) := by
  intro pins s σ H x y v u Q I rx ry h
  obtain ⟨a, b, xs, ys, rfl, rfl, ha, hb, hz, q⟩ := h
  by_cases hx : xs = []
  · cases rx
    cases ry
    obtain ⟨its, r1, p1, _⟩ := I.tuple ha
    obtain ⟨its2, r2, p2, _⟩ := I.tuple hb
    refine HT.cat_tup0 p1 p2 (r1.nil_iff.mpr hx) ⟨.ref b, H, I, rfl, q b H (Same.refl _) ?_⟩
    rw [hx]; exact hb
  · exact op_catT pins s σ H (.ref a) (.ref b) v u Q I rx ry ⟨a, b, xs, ys, rfl, rfl, ha, hb, hx, hz, fun z => q a H (Same.refl _) (by rw [z, List.append_nil]; exact ha), fun _ p hp => q p _ (same_new hp _) (SqT.of upd_same)⟩
end
end L2
namespace K4
open PySem PySem.Spec L2 Mir
noncomputable abbrev sRowL : Stmt := top 44
noncomputable abbrev sBent : Stmt := top 45
noncomputable def strange : List Str := ["are", "", "IS", "cells", "list", "nil", "isnt", "any"]
noncomputable def BentRow (r : List Str) (nm : Str) (r' : List Str) : Prop := (∃ w ∈ strange, r' = w :: r.drop 1) ∨ (∃ j, j < r.length ∧ r' = r.take (j + 1) ++ [nm] ++ r.drop (j + 1)) ∨ (∃ j, j < r.length ∧ r' = r.take j ++ r.drop (j + 1)) ∨ r' = r.take 1 ++ [("any" : Str)] ++ r.drop 2 ∨ r' = []
noncomputable def spRowL (K : PySem.W.Frag) : Sp := fun vs H Q _ => ∃ (b : Addr) (r : List Str) (way cell : Int) (nm : Str), vs = [.ref b, .int way, .int cell, .str nm] ∧ RowAt K H b r ∧ 1 ≤ r.length ∧ r.length ≤ 4 ∧ ∀ t r' H', Same H H' → RowAt K H' t r' → BentRow r nm r' → Q (.ref t) H'
theorem cut_take (xs : List Str) (n : Nat) (hn : n ≤ xs.length) : cutV (xs.map V.str) none (some (n : Int)) = (xs.take n).map V.str := by
  unfold cutV
  rw [HT.sIx_nat, HT.sIx_none, List.length_map, Nat.min_eq_left hn, List.drop_zero, Nat.sub_zero, List.map_take]
theorem cut_rowT (r : List Str) (n : Nat) (h : n ≤ r.length) : cutV (r.map V.str) none (some (n : Int)) = (r.take n).map V.str := cut_take r n h
theorem cut_rowD (r : List Str) (n : Nat) : cutV (r.map V.str) (some (n : Int)) none = (r.drop n).map V.str := cut_row
theorem slTUk {X : Cx} {K : PySem.W.Frag} (h : X.K = K) : SlR X (rSlTU K) := by subst h; exact sl_tupU
theorem catTk {X : Cx} {K : PySem.W.Frag} (h : X.K = K) : OpR X (binaryOp .Add) (rCatTU K) := by subst h; exact op_catTU
noncomputable def BentTell (fs ps : List (List Str)) (nm : Str) (fs' ps' : List (List Str)) : Prop := (∃ j, ∃ hj : j < fs.length, ∃ r', BentRow fs[j] nm r' ∧ fs' = fs.set j r' ∧ ps' = ps) ∨ (∃ j, ∃ hj : j < ps.length, ∃ r', BentRow ps[j] nm r' ∧ ps' = ps.set j r' ∧ fs' = fs)
inductive spBentS (K : PySem.W.Frag) (vs : List V) (H : Hp) (Q : VK) : Prop
  | mk (t : Addr) (way cell : Int) (nm : Str) (fs ps : List (List Str)) (h0 : vs = [.ref t, .int way, .int cell, .str nm]) (h1 : TellAt K H t [fs, ps]) (h2 : 1 ≤ fs.length) (h3 : fs.length ≤ 7) (h4 : 1 ≤ ps.length) (h5 : ps.length ≤ 5) (h6 : (∀ r ∈ fs ++ ps, 1 ≤ r.length ∧ r.length ≤ 4)) (h7 : ∀ t' fs' ps' H', Same H H' → TellAt K H' t' [fs', ps'] → BentTell fs ps nm fs' ps' → Q (.ref t') H') : spBentS K vs H Q
noncomputable def spBent (K : PySem.W.Frag) : Sp := fun vs H Q _ => spBentS K vs H Q
theorem sq_put {K : PySem.W.Frag} {H : Hp} {l b : Addr} {xs ys zs : List V} (hl : H l = some (.lst xs)) (h : SqT K H b zs) : SqT K (upd H l (.lst ys)) b zs := by
  rcases h with (h | ⟨o, h⟩) | h
  · have hne : b ≠ l := fun e => by rw [e, hl] at h; cases h
    exact .inl (.inl (by show upd H l _ b = _; rw [upd_ne hne]; exact h))
  · have hne : b ≠ l := fun e => by rw [e, hl] at h; cases h
    exact .inl (.inr ⟨o, by show upd H l _ b = _; rw [upd_ne hne]; exact h⟩)
  · exact .inr h
theorem paired_set {α β : Type} {R : α → β → Prop} {x : α} {y : β} : ∀ {xs : List α} {ys : List β} (j : Nat), Paired R xs ys → R x y → Paired R (xs.set j x) (ys.set j y)
  | _, _, _, .nil, _ => .nil
  | _, _, 0, .cons _ t, h => .cons h t
  | _, _, j + 1, .cons h0 t, h => .cons h0 (paired_set j t h)
section
variable {P : Program} {w : World} {K : PySem.W.Frag} {mg : Str → Option Value} {base : Heap} {f gR : Addr} {fd dR : FuncData}
theorem scRowL : FnScope ["_law_row_here", "_law_way", "_law_cell", "_law_name", "_law_at"] ["_law_row_here", "_law_way", "_law_cell", "_law_name"] (defScope sRowL) := ⟨rfl, rfl, rfl, by decide +kernel, rfl, by decide +kernel, by decide +kernel⟩
theorem ok_rowL (C : Con K mg w) (F : Fun K "_law_row" "_law_row" sRowL f fd) : FnOk P w K mg base CX0 1 f fd ["_law_row_here", "_law_way", "_law_cell", "_law_name"] (spRowL K) := by
  refine F.okQ scRowL (fun vs H Q E h => ?_) (fun cdv A outer s0 H vs Q E hr h => ?_)
  · obtain ⟨b, r, way, cell, nm, rfl, _⟩ := h; rfl
  obtain ⟨b, r, way, cell, nm, rfl, hR, r1, r4, q⟩ := h
  have nd := scRowL.nd
  refine ⟨_, qb_cons (qs_set (i := 4) nd rfl (Or.inl rfl) (qe_op op_mod (qv 2) (qe_callB call_len_seq rfl C.len PySem.boot_len (qa_nm (qv 0) qa_nil))))
    (qb_cons (qs_if (qt_cmpR op_eq (qv 1) qe_int (nomark _)) (qb_one (qs_ret (qe_op (catTk (K := K) rfl) (qe_tup (qa_sub (qe_ix ix_list (qe_lst (qa_str (qa_str (qa_str (qa_str (qa_str (qa_str (qa_str (qa_str qa_nil))))))))) (qe_op op_mod (qv 2) qe_int) (fun _ _ => rfl)) qa_nil)) (qe_slice (slTUk (K := K) rfl) (qv 0) (qo_some qe_int) qo_none)))) qb_nil)
    (qb_cons (qs_if (qt_cmpR op_eq (qv 1) qe_int (nomark _)) (qb_one (qs_ret (qe_op (catTk (K := K) rfl) (qe_op (catTk (K := K) rfl) (qe_slice (slTUk (K := K) rfl) (qv 0) qo_none (qo_some (qe_op op_add (qv 4) qe_int))) (qe_tup (qa_nm (qv 3) qa_nil))) (qe_slice (slTUk (K := K) rfl) (qv 0) (qo_some (qe_op op_add (qv 4) qe_int)) qo_none)))) qb_nil)
    (qb_cons (qs_if (qt_cmpR op_eq (qv 1) qe_int (nomark _)) (qb_one (qs_ret (qe_op (catTk (K := K) rfl) (qe_slice (slTUk (K := K) rfl) (qv 0) qo_none (qo_some (qv 4))) (qe_slice (slTUk (K := K) rfl) (qv 0) (qo_some (qe_op op_add (qv 4) qe_int)) qo_none)))) qb_nil)
    (qb_cons (qs_if (qt_cmpR op_eq (qv 1) qe_int (nomark _)) (qb_one (qs_ret (qe_op (catTk (K := K) rfl) (qe_op (catTk (K := K) rfl) (qe_slice (slTUk (K := K) rfl) (qv 0) qo_none (qo_some qe_int)) (qe_tup (qa_str qa_nil))) (qe_slice (slTUk (K := K) rfl) (qv 0) (qo_some qe_int) qo_none)))) qb_nil)
    (qb_one (qs_ret (qe_tup qa_nil))))))), ?_⟩
  have hpos : (0 : Int) < (((r.map V.str).length : Nat) : Int) := by rw [List.length_map]; lia
  refine ⟨_, rfl, _, rfl, b, _, rfl, .inr hR, _, _, rfl, rfl, hpos, ?_⟩
  have j0 := Int.emod_nonneg cell (Int.ne_of_gt hpos)
  have j1 := Int.emod_lt_of_pos cell hpos
  rw [List.length_map] at hpos j0 j1
  rw [List.length_map]
  obtain ⟨j, hj⟩ := Int.eq_ofNat_of_zero_le j0
  have hjr : j < r.length := by lia
  have hj1 : cell % (r.length : Int) + 1 = ((j + 1 : Nat) : Int) := by lia
  have hsz : ∀ {n : Nat}, n ≤ 1000 → n ≤ sizeLine := fun h => Nat.le_trans h (by decide)
  refine ⟨_, rfl, rfl, _, rfl, iteB (fun _ => ?_) (fun _ => ?_)⟩
  · refine ⟨(show 8 ≤ sizeLine by decide), fun l hl => ?_⟩
    have s1 := same_new hl (.lst (strange.map V.str))
    obtain ⟨v, hv, hm⟩ := at_mod (xs := strange.map V.str) (m := 8) (i := cell) rfl (by decide)
    obtain ⟨y, hy, rfl⟩ := List.mem_map.mp hm
    refine ⟨_, rfl, _, _, rfl, rfl, (show (0 : Int) < 8 by decide), l, _, _, .str y, rfl, rfl, SqL.of upd_same, hv, (show 1 ≤ sizeLine by decide), fun t1 ht1 => ?_⟩
    have s2 := same_new ht1 (.tup [.str y])
    have s12 := s1.trans s2
    refine ⟨_, rfl, _, rfl, b, _, rfl, s12.seqT hR, fun p H3 e3 hp => ?_⟩
    rw [show cutV (r.map V.str) (some 1) none = (r.drop 1).map V.str from cut_rowD r 1] at hp
    refine ⟨t1, p, [.str y], _, rfl, rfl, e3.seqT (SqT.of upd_same), hp, hsz (by rw [List.length_map, List.length_drop]; simp; lia), fun t H4 e4 ht => ?_⟩
    exact q t (y :: r.drop 1) H4 (s12.trans (e3.trans e4)) ht (.inl ⟨y, hy, rfl⟩)
  refine ⟨_, rfl, rfl, _, rfl, iteB (fun _ => ?_) (fun _ => ?_)⟩
  · refine ⟨_, rfl, _, rfl, _, _, rfl, rfl, _, rfl, b, _, rfl, hR, fun p1 H1 e1 hp1 => ?_⟩
    rw [hj1, cut_rowT r (j + 1) (by lia)] at hp1
    refine ⟨_, rfl, (show 1 ≤ sizeLine by decide), fun t1 ht1 => ?_⟩
    have s2 := same_new ht1 (.tup [.str nm])
    refine ⟨p1, t1, _, [.str nm], rfl, rfl, s2.seqT hp1, SqT.of upd_same, hsz (by rw [List.length_map, List.length_take]; simp; lia), fun p2 H2 e2 hp2 => ?_⟩
    have e12 := e1.trans (s2.trans e2)
    refine ⟨_, rfl, _, rfl, _, _, rfl, rfl, _, rfl, b, _, rfl, e12.seqT hR, fun p3 H3 e3 hp3 => ?_⟩
    rw [hj1, cut_rowD r (j + 1)] at hp3
    refine ⟨p2, p3, _, _, rfl, rfl, e3.seqT hp2, hp3, hsz (by rw [List.length_append, List.length_map, List.length_map, List.length_take, List.length_drop]; simp; lia), fun t H4 e4 ht => ?_⟩
    refine q t (r.take (j + 1) ++ [nm] ++ r.drop (j + 1)) H4 (e12.trans (e3.trans e4)) ?_ (.inr (.inl ⟨j, hjr, rfl⟩))
    show SqT K H4 t ((r.take (j + 1) ++ [nm] ++ r.drop (j + 1)).map V.str)
    rw [List.map_append, List.map_append]; exact ht
  refine ⟨_, rfl, rfl, _, rfl, iteB (fun _ => ?_) (fun _ => ?_)⟩
  · refine ⟨_, rfl, _, rfl, _, rfl, b, _, rfl, hR, fun p1 H1 e1 hp1 => ?_⟩
    rw [hj, cut_rowT r j (by lia)] at hp1
    refine ⟨_, rfl, _, rfl, _, _, rfl, rfl, _, rfl, b, _, rfl, e1.seqT hR, fun p3 H3 e3 hp3 => ?_⟩
    rw [hj1, cut_rowD r (j + 1)] at hp3
    refine ⟨p1, p3, _, _, rfl, rfl, e3.seqT hp1, hp3, hsz (by rw [List.length_map, List.length_map, List.length_take, List.length_drop]; lia), fun t H4 e4 ht => ?_⟩
    refine q t (r.take j ++ r.drop (j + 1)) H4 (e1.trans (e3.trans e4)) ?_ (.inr (.inr (.inl ⟨j, hjr, rfl⟩)))
    show SqT K H4 t ((r.take j ++ r.drop (j + 1)).map V.str)
    rw [List.map_append]; exact ht
  refine ⟨_, rfl, rfl, _, rfl, iteB (fun _ => ?_) (fun _ => ?_)⟩
  · refine ⟨_, rfl, _, rfl, b, _, rfl, hR, fun p1 H1 e1 hp1 => ?_⟩
    rw [show cutV (r.map V.str) none (some 1) = (r.take 1).map V.str from cut_rowT r 1 r1] at hp1
    refine ⟨(show 1 ≤ sizeLine by decide), fun t1 ht1 => ?_⟩
    have s2 := same_new ht1 (.tup [.str "any"])
    refine ⟨p1, t1, _, [.str "any"], rfl, rfl, s2.seqT hp1, SqT.of upd_same, hsz (by rw [List.length_map, List.length_take]; simp; lia), fun p2 H2 e2 hp2 => ?_⟩
    have e12 := e1.trans (s2.trans e2)
    refine ⟨_, rfl, _, rfl, b, _, rfl, e12.seqT hR, fun p3 H3 e3 hp3 => ?_⟩
    rw [show cutV (r.map V.str) (some 2) none = (r.drop 2).map V.str from cut_rowD r 2] at hp3
    refine ⟨p2, p3, _, _, rfl, rfl, e3.seqT hp2, hp3, hsz (by rw [List.length_append, List.length_map, List.length_map, List.length_take, List.length_drop]; simp; lia), fun t H4 e4 ht => ?_⟩
    refine q t (r.take 1 ++ [("any" : Str)] ++ r.drop 2) H4 (e12.trans (e3.trans e4)) ?_ (.inr (.inr (.inr (.inl rfl))))
    show SqT K H4 t ((r.take 1 ++ [("any" : Str)] ++ r.drop 2).map V.str)
    rw [List.map_append, List.map_append]; exact ht
  refine ⟨Nat.zero_le _, fun t ht => ?_⟩
  exact q t [] _ (same_new ht _) (SqT.of upd_same) (.inr (.inr (.inr (.inr rfl))))
theorem scBent : FnScope ["_law_telling_here", "_law_way", "_law_cell", "_law_name", "_law_facts", "_law_parts", "_law_rows", "_law_at"] ["_law_telling_here", "_law_way", "_law_cell", "_law_name"] (defScope sBent) := ⟨rfl, rfl, rfl, by decide +kernel, rfl, by decide +kernel, by decide +kernel⟩
theorem ok_bent (C : Con K mg w) (F : Fun K "_law_bent" "_law_bent" sBent f fd) (GR : FnOk P w K mg base CX0 1 gR dR ["_law_row_here", "_law_way", "_law_cell", "_law_name"] (spRowL K)) (cR : Cal K mg "_law_row" gR dR ["_law_row_here", "_law_way", "_law_cell", "_law_name"]) : FnOk P w K mg base CX0 2 f fd ["_law_telling_here", "_law_way", "_law_cell", "_law_name"] (spBent K) := by
  refine F.okQ scBent (fun vs H Q E h => ?_) (fun cdv A outer s0 H vs Q E hr h => ?_)
  · obtain ⟨t, way, cell, nm, fs, ps, rfl, _⟩ := h; rfl
  obtain ⟨t, way, cell, nm, fs, ps, rfl, hT, f1, f7, p1, p5, hrow, q⟩ := h
  have nd := scBent.nd
  refine ⟨_, qb_cons (qs_set (i := 4) nd rfl (Or.inl rfl) (qe_callTy call_list_of rfl C.list PyProof.Rows.boot_list (qa_sub (qe_ix ix_tup (qv 0) qe_int (fun _ _ => rfl)) qa_nil)))
    (qb_cons (qs_set (i := 5) nd rfl (Or.inl rfl) (qe_callTy call_list_of rfl C.list PyProof.Rows.boot_list (qa_sub (qe_ix ix_tup (qv 0) qe_int (fun _ _ => rfl)) qa_nil)))
    (qb_cons (qs_set (i := 6) nd rfl (Or.inl rfl) (qe_ix ix_list (qe_lst (qa_nm (qv 4) (qa_nm (qv 5) qa_nil))) (qe_op op_mod (qv 2) qe_int) (fun _ _ => rfl)))
    (qb_cons (qs_set (i := 7) nd rfl (Or.inl rfl) (qe_op op_mod (qe_op op_fdiv (qv 2) qe_int) (qe_callB call_len_seq rfl C.len PySem.boot_len (qa_nm (qv 6) qa_nil))))
    (qb_cons (qs_asg (qe_call GR hr rfl cR.name cR.keep cR.bind .nil pass0 (qa_sub (qe_ix ix_list (qv 6) (qv 7) (fun _ _ => rfl)) (qa_nm (qv 1) (qa_bop (qe_op op_fdiv (qv 2) qe_int) (qa_nm (qv 3) qa_nil))))) (qg_sub (qv 6) (qv 7) set_list))
    (qb_one (qs_ret (qe_tup (qa_nm (qv 4) (qa_nm (qv 5) qa_nil))))))))), ?_⟩
  obtain ⟨as, t1, t2⟩ := id hT
  cases t2 with
  | @cons fa _ _ _ t3 t4 =>
  cases t4 with
  | @cons pa _ _ _ t5 t6 =>
  cases t6
  obtain ⟨fas, hfl, hfp⟩ := t3
  obtain ⟨pas, hpl, hpp⟩ := t5
  have hfal := Paired.length hfp
  have hpal := Paired.length hpp
  refine ⟨_, rfl, t, _, 0, .ref fa, rfl, rfl, t1, rfl, fa, _, rfl, .inl (SqL.of hfl), fun l1 hl1 => ?_⟩
  have s1 := same_new hl1 (.lst (fas.map V.ref))
  refine ⟨_, rfl, t, _, 1, .ref pa, rfl, rfl, s1.seqT t1, rfl, pa, _, rfl, .inl (SqL.of (s1 _ _ hpl)), fun l2 hl2 => ?_⟩
  have s2 := same_new hl2 (.lst (pas.map V.ref))
  have s12 := s1.trans s2
  have hl12 : l1 ≠ l2 := ne_of_none (show (upd H l1 (.lst (fas.map V.ref))) l1 = _ from upd_same) hl2
  refine ⟨_, rfl, _, rfl, (show 2 ≤ sizeLine by decide), fun l3 hl3 => ?_⟩
  have s3 := same_new hl3 (.lst [.ref l1, .ref l2])
  have s13 := s12.trans s3
  have hL1 := s3 _ _ (s2 _ _ (show (upd H l1 (.lst (fas.map V.ref))) l1 = _ from upd_same))
  have hL2 := s3 _ _ (show (upd (upd H l1 (.lst (fas.map V.ref))) l2 (.lst (pas.map V.ref))) l2 = _ from upd_same)
  have hl10 : H l1 = none := hl1
  have hl20 : H l2 = none := s1.free hl2
  have hF3 : Paired (fun b r => RowAt K (upd (upd (upd H l1 (.lst (fas.map V.ref))) l2 (.lst (pas.map V.ref))) l3 (.lst [.ref l1, .ref l2])) b r) fas fs := Paired.mapP hfp fun _ _ z => s13.seqT z
  have hP3 : Paired (fun b r => RowAt K (upd (upd (upd H l1 (.lst (fas.map V.ref))) l2 (.lst (pas.map V.ref))) l3 (.lst [.ref l1, .ref l2])) b r) pas ps := Paired.mapP hpp fun _ _ z => s13.seqT z
  have hL3 : (upd (upd (upd H l1 (.lst (fas.map V.ref))) l2 (.lst (pas.map V.ref))) l3 (.lst [.ref l1, .ref l2])) l3 = some (.lst [.ref l1, .ref l2]) := upd_same
  generalize upd (upd (upd H l1 (.lst (fas.map V.ref))) l2 (.lst (pas.map V.ref))) l3 (.lst [.ref l1, .ref l2]) = H3 at s13 hL1 hL2 hF3 hP3 hL3 ⊢
  have hc : cell % 2 = 0 ∨ cell % 2 = 1 := by lia
  rcases hc with hc | hc
  · refine ⟨_, rfl, _, _, rfl, rfl, (show (0 : Int) < 2 by decide), l3, _, _, .ref l1, rfl, rfl, SqL.of hL3, (by rw [hc]; exact atI_nat (j := 0) rfl), ?_⟩
    have hpos : (0 : Int) < (((fas.map V.ref).length : Nat) : Int) := by rw [List.length_map]; lia
    refine ⟨_, rfl, _, _, rfl, rfl, (show CDiv _ 2 from ⟨by decide, by decide⟩), _, rfl, l1, _, rfl, .inl (SqL.of hL1), _, _, rfl, rfl, hpos, ?_⟩
    have j0 := Int.emod_nonneg (cell / 2) (Int.ne_of_gt hpos)
    have j1 := Int.emod_lt_of_pos (cell / 2) hpos
    obtain ⟨j, hj⟩ := Int.eq_ofNat_of_zero_le j0
    have hjl : j < fas.length := by rw [List.length_map] at j1 hj; lia
    have hjr : j < fs.length := by lia
    obtain ⟨y, hy1, hy2⟩ := Paired.nth hF3 (List.getElem?_eq_getElem hjl)
    rw [List.getElem?_eq_getElem hjr] at hy1
    obtain rfl := Option.some.inj hy1
    have hat : atI (fas.map V.ref) (cell / 2 % (((fas.map V.ref).length : Nat) : Int)) = some (.ref fas[j]) := by rw [hj]; exact atI_nat (by rw [List.getElem?_map, List.getElem?_eq_getElem hjl]; rfl)
    have hlen := hrow fs[j] (List.mem_append.mpr (.inl (List.getElem_mem hjr)))
    refine ⟨_, rfl, _, rfl, l1, _, _, .ref fas[j], rfl, rfl, SqL.of hL1, hat, _, rfl, _, rfl, _, _, rfl, rfl, (show CDiv _ 30 from ⟨by decide, by decide⟩), _, rfl, fas[j], fs[j], way, cell / 30, nm, rfl, hy2, hlen.1, hlen.2, fun t5 r' H4 e4 ht5 hb => ?_⟩
    have hL4 := e4 _ _ hL1
    refine ⟨_, rfl, _, rfl, l1, _, _, j, rfl, rfl, hL4, ?_, ?_⟩
    · rw [hj]
      unfold ixN
      rw [if_pos (by lia), if_pos (by rw [List.length_map]; lia), Int.toNat_natCast]
    have e5 : (fas.map V.ref).set j (.ref t5) = (fas.set j t5).map V.ref := List.map_set.symm
    rw [e5]
    have hO4 := e4 _ _ hL2
    have eH := same_put hl10 (s13.trans e4) (.lst ((fas.set j t5).map V.ref))
    have hset : Paired (fun b r => RowAt K (upd H4 l1 (.lst ((fas.set j t5).map V.ref))) b r) (fas.set j t5) (fs.set j r') := paired_set j (Paired.mapP hF3 fun _ _ z => sq_put hL4 (e4.seqT z)) (sq_put hL4 ht5)
    refine ⟨_, rfl, _, rfl, (show 2 ≤ sizeLine by decide), fun t9 ht9 => ?_⟩
    have s9 := same_new ht9 (.tup [.ref l1, .ref l2])
    refine q t9 (fs.set j r') ps _ (eH.trans s9) ⟨[l1, l2], SqT.of upd_same, .cons ⟨_, s9 _ _ upd_same, Paired.mapP hset fun _ _ z => s9.seqT z⟩ (.cons ⟨pas, s9 _ _ (by rw [upd_ne (Ne.symm hl12)]; exact hO4), Paired.mapP hP3 fun _ _ z => s9.seqT (sq_put hL4 (e4.seqT z))⟩ .nil)⟩ (.inl ⟨j, hjr, r', hb, rfl, rfl⟩)
  · refine ⟨_, rfl, _, _, rfl, rfl, (show (0 : Int) < 2 by decide), l3, _, _, .ref l2, rfl, rfl, SqL.of hL3, (by rw [hc]; exact atI_nat (j := 1) rfl), ?_⟩
    have hpos : (0 : Int) < (((pas.map V.ref).length : Nat) : Int) := by rw [List.length_map]; lia
    refine ⟨_, rfl, _, _, rfl, rfl, (show CDiv _ 2 from ⟨by decide, by decide⟩), _, rfl, l2, _, rfl, .inl (SqL.of hL2), _, _, rfl, rfl, hpos, ?_⟩
    have j0 := Int.emod_nonneg (cell / 2) (Int.ne_of_gt hpos)
    have j1 := Int.emod_lt_of_pos (cell / 2) hpos
    obtain ⟨j, hj⟩ := Int.eq_ofNat_of_zero_le j0
    have hjl : j < pas.length := by rw [List.length_map] at j1 hj; lia
    have hjr : j < ps.length := by lia
    obtain ⟨y, hy1, hy2⟩ := Paired.nth hP3 (List.getElem?_eq_getElem hjl)
    rw [List.getElem?_eq_getElem hjr] at hy1
    obtain rfl := Option.some.inj hy1
    have hat : atI (pas.map V.ref) (cell / 2 % (((pas.map V.ref).length : Nat) : Int)) = some (.ref pas[j]) := by rw [hj]; exact atI_nat (by rw [List.getElem?_map, List.getElem?_eq_getElem hjl]; rfl)
    have hlen := hrow ps[j] (List.mem_append.mpr (.inr (List.getElem_mem hjr)))
    refine ⟨_, rfl, _, rfl, l2, _, _, .ref pas[j], rfl, rfl, SqL.of hL2, hat, _, rfl, _, rfl, _, _, rfl, rfl, (show CDiv _ 30 from ⟨by decide, by decide⟩), _, rfl, pas[j], ps[j], way, cell / 30, nm, rfl, hy2, hlen.1, hlen.2, fun t5 r' H4 e4 ht5 hb => ?_⟩
    have hL4 := e4 _ _ hL2
    refine ⟨_, rfl, _, rfl, l2, _, _, j, rfl, rfl, hL4, ?_, ?_⟩
    · rw [hj]
      unfold ixN
      rw [if_pos (by lia), if_pos (by rw [List.length_map]; lia), Int.toNat_natCast]
    have e5 : (pas.map V.ref).set j (.ref t5) = (pas.set j t5).map V.ref := List.map_set.symm
    rw [e5]
    have hO4 := e4 _ _ hL1
    have eH := same_put hl20 (s13.trans e4) (.lst ((pas.set j t5).map V.ref))
    have hset : Paired (fun b r => RowAt K (upd H4 l2 (.lst ((pas.set j t5).map V.ref))) b r) (pas.set j t5) (ps.set j r') := paired_set j (Paired.mapP hP3 fun _ _ z => sq_put hL4 (e4.seqT z)) (sq_put hL4 ht5)
    refine ⟨_, rfl, _, rfl, (show 2 ≤ sizeLine by decide), fun t9 ht9 => ?_⟩
    have s9 := same_new ht9 (.tup [.ref l1, .ref l2])
    refine q t9 fs (ps.set j r') _ (eH.trans s9) ⟨[l1, l2], SqT.of upd_same, .cons ⟨fas, s9 _ _ (by rw [upd_ne hl12]; exact hO4), Paired.mapP hF3 fun _ _ z => s9.seqT (sq_put hL4 (e4.seqT z))⟩ (.cons ⟨_, s9 _ _ upd_same, Paired.mapP hset fun _ _ z => s9.seqT z⟩ .nil)⟩ (.inr ⟨j, hjr, r', hb, rfl, rfl⟩)
end
end K4
namespace L2
open PySem PySem.Spec PyProof.Rows
section
variable {κ : Type} [DecidableEq κ]
end
section
variable {P : Program} {w : World} {H : Hp} {h : Heap} {a : Addr}
end
section
variable {X : Cx} {pins : List (Addr × Obj)} {σ : St} {H : Hp} {s : Shared} {a : Addr} {y v : V} {u r : Value} {o : Option V} {A : Around} {E : Value → Shared → Prop}
end
section
variable {X : Cx} {pins : List (Addr × Obj)} {σ : St} {H : Hp} {s : Shared} {a : Addr} {kvs : List (Key × V)} {k : Key} {u : Value} {A : Around} {E : Value → Shared → Prop}
end
section
variable {X : Cx} {o i e value : Expr} {pos pos' tpos : Pos} {td ty tv : TE}
end
section
variable {X : Cx} {pos : Pos}
end
section
variable {X : Cx} {pins : List (Addr × Obj)} {σ : St} {H : Hp} {s : Shared} {a : Addr} {y d : V} {u r : Value} {o : Option V} {A : Around} {E : Value → Shared → Prop}
end
section
variable {X : Cx} {o e f : Expr} {apos cpos : Pos} {td ty tx : TE}
end
section
variable {X : Cx} {pins : List (Addr × Obj)} {σ : St} {H : Hp} {s : Shared} {a : Addr} {kvs : List (Key × V)} {A : Around} {E : Value → Shared → Prop}
end
section
variable {X : Cx} {pins : List (Addr × Obj)} {σ : St} {H : Hp} {s : Shared} {a : Addr} {y : V} {u : Value} {A : Around} {E : Value → Shared → Prop}
end
section
variable {X : Cx}
end
section
variable {κ : Type} [DecidableEq κ]
end
end L2
namespace L2
open PySem PySem.Spec PyProof.Rows
section
variable {X : Cx}
end
section
variable {X : Cx}
end
theorem cl_has {L : List (Str × NameKind)} {cl : List (Str × Addr)} {ks : List Str} (hkm : cl.map (·.1) = ks) (hkB : (L.all fun y => (match y.2 with | .cell => false | .free => false | _ => true) || decide (y.1 ∈ ks)) = true) (z : Str) (h : L.lookup z = some .cell ∨ L.lookup z = some .free) : ∃ c, cl.lookup z = some c := by
  have hm : z ∈ cl.map (·.1) := by
    rw [hkm]
    rcases h with h | h
    · have := List.all_eq_true.mp hkB _ (PySem.mem_of_lookup h)
      simpa using this
    · have := List.all_eq_true.mp hkB _ (PySem.mem_of_lookup h)
      simpa using this
  clear hkm hkB
  induction cl with
  | nil => simp at hm
  | cons p r ih =>
    rw [List.lookup_cons]
    cases hb : z == p.1 with
    | true => exact ⟨_, rfl⟩
    | false =>
      rw [List.map_cons, List.mem_cons] at hm
      rcases hm with h1 | h1
      · rw [h1] at hb; simp at hb
      · exact ih h1
end L2
namespace L2
open PySem PySem.Spec PyProof.Rows
section
variable {X : Cx}
end
theorem cl_sub {cl cells : List (Str × Addr)} (h : ∀ p ∈ cl, cells.lookup p.1 = some p.2) (y : Str) (c : Addr) (e : cl.lookup y = some c) : cells.lookup y = some c := h (y, c) (PySem.mem_of_lookup e)
theorem qe_compG {X : Cx} {elt iter : Expr} {x : Str} {px pos : Pos} {ifs : List Expr} {sc : Scope} {cl : List (Str × Addr)} {wi : TI} {tc : TT} {te : TE} (N : List Str) (ix : List Nat) (hi : QI X (.Name x px) iter wi)
    (hif : ∀ s H C ex, QTs (blk X N s H sc cl C ex) ifs tc) (he : ∀ s H C ex, QE (blk X N s H sc cl C ex) elt te)
    (hcl : closureFor sc X.env = pure cl := by rfl) (hcs : ∀ p ∈ cl, X.env.cells.lookup p.1 = some p.2 := by intro p hp; simp only [List.mem_cons, List.not_mem_nil, or_false] at hp; first | (subst hp; with_unfolding_all rfl) | (rcases hp with rfl | rfl <;> with_unfolding_all rfl)) (hN : N = x :: ix.map (fun j => (X.N[j]?).getD "") := by rfl) (hnd : N.Nodup := by decide +kernel)
    (hkm : cl.map (·.1) = N.tail := by rfl) (hkB : ((relabel sc X.env).names.all fun y => (match y.2 with | .cell => false | .free => false | _ => true) || decide (y.1 ∈ N.tail)) = true := by with_unfolding_all rfl)
    (hix : ∀ j ∈ ix, ∃ y, X.N[j]? = some y ∧ X.env.kindOf y = some .cell ∧ (relabel sc X.env).names.lookup y = some .cell := by first | (intro j hj; simp only [List.mem_cons, List.not_mem_nil, or_false] at hj; subst hj; exact ⟨_, rfl, rfl, by with_unfolding_all rfl⟩) | (intro j hj; simp only [List.mem_cons, List.not_mem_nil, or_false] at hj; rcases hj with rfl | rfl <;> exact ⟨_, rfl, rfl, by with_unfolding_all rfl⟩))
    (hx : sc.names.lookup x = some .local := by decide +kernel) (hcell : ∀ z ∈ sc.names, z.2 ≠ .cell := by decide +kernel)
    (hnames : ∀ z ∈ sc.names, z.2 = .local → sc.names.lookup z.1 = some .local := by decide +kernel)
    (hc : X.calm = true := by rfl) (hkind : sc.kind = .function := by rfl) (hs : ∀ x, foldedSetIterable iter X.env x = pure x := by intro _; rfl) :
    QE X (.ListComp elt [⟨.Name x px, iter, ifs, 0⟩] sc pos) (tComp ix wi tc te) :=
  ⟨pe_comp N hc hi.run (fun s H C ex => (hif s H C ex).run) (fun s H C ex => (he s H C ex).run) hkind hN hnd hx hcl hcell hnames (cl_sub hcs) (cl_has hkm hkB) hix hs⟩
theorem qs_setCG {X : Cx} {elt iter : Expr} {x yv : Str} {px pos py pos2 : Pos} {i : Nat} {ifs : List Expr} {sc : Scope} {cl : List (Str × Addr)} {wi : TI} {tc : TT} {te : TE} (N : List Str) (ix : List Nat) (hNd : X.N.Nodup) (hiy : X.N[i]? = some yv) (hyv : Loc X.env.scope yv) (hi : QI X (.Name x px) iter wi)
    (hif : ∀ s H C ex, QTs (blk X N s H sc cl C ex) ifs tc) (he : ∀ s H C ex, QE (blk X N s H sc cl C ex) elt te)
    (hsw : swapsWith (.ListComp elt [⟨.Name x px, iter, ifs, 0⟩] sc pos) (some (.Name yv py)) pos2.line X.env = pure true := by rfl) (hfy : X.fn yv = true ∨ X.env.scope.names.lookup yv = some .local := by first | exact .inl rfl | exact .inr rfl | assumption)
    (hcl : closureFor sc X.env = pure cl := by rfl) (hcs : ∀ p ∈ cl, X.env.cells.lookup p.1 = some p.2 := by intro p hp; simp only [List.mem_cons, List.not_mem_nil, or_false] at hp; first | (subst hp; with_unfolding_all rfl) | (rcases hp with rfl | rfl <;> with_unfolding_all rfl)) (hN : N = x :: ix.map (fun j => (X.N[j]?).getD "") := by rfl) (hnd : N.Nodup := by decide +kernel)
    (hkm : cl.map (·.1) = N.tail := by rfl) (hkB : ((relabel sc X.env).names.all fun y => (match y.2 with | .cell => false | .free => false | _ => true) || decide (y.1 ∈ N.tail)) = true := by with_unfolding_all rfl)
    (hix : ∀ j ∈ ix, ∃ y, X.N[j]? = some y ∧ X.env.kindOf y = some .cell ∧ (relabel sc X.env).names.lookup y = some .cell := by first | (intro j hj; simp only [List.mem_cons, List.not_mem_nil, or_false] at hj; subst hj; exact ⟨_, rfl, rfl, by with_unfolding_all rfl⟩) | (intro j hj; simp only [List.mem_cons, List.not_mem_nil, or_false] at hj; rcases hj with rfl | rfl <;> exact ⟨_, rfl, rfl, by with_unfolding_all rfl⟩))
    (hx : sc.names.lookup x = some .local := by decide +kernel) (hcell : ∀ z ∈ sc.names, z.2 ≠ .cell := by decide +kernel)
    (hnames : ∀ z ∈ sc.names, z.2 = .local → sc.names.lookup z.1 = some .local := by decide +kernel)
    (hc : X.calm = true := by rfl) (hkind : sc.kind = .function := by rfl) (hs : ∀ x, foldedSetIterable iter X.env x = pure x := by intro _; rfl) :
    QS X (.Assign [.Name yv py] (.ListComp elt [⟨.Name x px, iter, ifs, 0⟩] sc pos) pos2) (tAsg (tComp ix wi tc te) (gName i)) :=
  ⟨ps_setcomp N hNd hiy hyv hsw hfy hc hi.run (fun s H C ex => (hif s H C ex).run) (fun s H C ex => (he s H C ex).run) hkind hN hnd hx hcl hcell hnames (cl_sub hcs) (cl_has hkm hkB) hix hs⟩
end L2
namespace K4
open PySem PySem.Spec L2 Mir
noncomputable abbrev sText : Stmt := top 46
noncomputable def signs8 : Str := "ABCDXYZ."
noncomputable def comma : Str := ","
inductive BentText (x nm : Str) : Str → Prop
  | two (A B : List Nat) {y : Str} (h : x.cps.toList = A ++ 32 :: B) (e : y.cps.toList = A ++ 32 :: 32 :: B) : BentText x nm y
  | ahead : BentText x nm (sp1 ++ x)
  | behind : BentText x nm (x ++ sp1)
  | comma : BentText x nm (x ++ comma ++ x)
  | none1 : BentText x nm (sepC ++ x)
  | none2 : BentText x nm (x ++ sepC)
  | none3 : BentText x nm (x ++ ", , tree " ++ nm)
  | sign (A B : List Nat) (c : Nat) {y : Str} (hc : c ∈ signs8.cps.toList) (e : y.cps.toList = A ++ c :: B) : BentText x nm y
  | nth1 : BentText x nm (x ++ ", nothing")
  | nth2 : BentText x nm ("nothing, " ++ x)
  | line (A B : List Nat) {y : Str} (e : y.cps.toList = A ++ 10 :: B) : BentText x nm y
  | fig (c : Nat) (hc : c ∈ figures.cps.toList) : BentText x nm (x ++ sepC ++ ⟨#[c]⟩ ++ nm ++ " is nil")
noncomputable def spText : Sp := fun vs H Q _ => ∃ (x : Str) (way cell : Int) (nm : Str), vs = [.str x, .int way, .int cell, .str nm] ∧ x.length ≤ 440 ∧ nm.length ≤ 8 ∧ 32 ∈ x.cps.toList ∧ ∀ y H', Same H H' → y.length ≤ 900 → BentText x nm y → Q (.str y) H'
noncomputable def isBl (x : Str) : V → Bool
  | .int i => decide (x.cps.toList[i.toNat]? = some 32)
  | _ => false
theorem bl_mem {x : Str} {v : V} (h : v ∈ (nums 0 x.length).filter (isBl x)) : ∃ k : Nat, v = .int (k : Int) ∧ ∃ A B, x.cps.toList = A ++ 32 :: B ∧ A.length = k := by
  obtain ⟨h1, h2⟩ := List.mem_filter.mp h
  unfold nums at h1
  obtain ⟨k, hk, rfl⟩ := List.mem_map.mp h1
  have hk' := List.mem_range.mp hk
  refine ⟨k, by rw [Int.zero_add], ?_⟩
  have h3 : x.cps.toList[((0 : Int) + (k : Int)).toNat]? = some 32 := of_decide_eq_true h2
  rw [Int.zero_add, Int.toNat_natCast] at h3
  have hl : k < x.cps.toList.length := (List.getElem?_eq_some_iff.mp h3).1
  refine ⟨x.cps.toList.take k, x.cps.toList.drop (k + 1), ?_, by rw [List.length_take]; lia⟩
  rw [← (List.getElem?_eq_some_iff.mp h3).2, ← List.drop_eq_getElem_cons, List.take_append_drop]
theorem bl_ne {x : Str} (h : 32 ∈ x.cps.toList) : (nums 0 x.length).filter (isBl x) ≠ [] := fun z => by
  obtain ⟨k, hk, e⟩ := List.getElem_of_mem h
  have : V.int (0 + (k : Int)) ∈ (nums 0 x.length).filter (isBl x) := by
    refine List.mem_filter.mpr ⟨?_, ?_⟩
    · unfold nums
      refine List.mem_map.mpr ⟨k, List.mem_range.mpr ?_, rfl⟩
      rw [len_cps] at hk; exact hk
    · show decide (x.cps.toList[((0 : Int) + (k : Int)).toNat]? = some 32) = true
      rw [Int.zero_add, Int.toNat_natCast, List.getElem?_eq_getElem hk, e]; exact decide_eq_true rfl
  rw [z] at this; cases this
theorem cutS_take (x : Str) (k : Nat) (h : k ≤ x.length) : (cutS x none (some (k : Int))).cps.toList = x.cps.toList.take k := by
  unfold cutS
  rw [HT.sIx_nat, HT.sIx_none, List.drop_zero, Nat.sub_zero, Nat.min_eq_left h]
theorem cutS_drop (x : Str) (k : Nat) (h : k ≤ x.length) : (cutS x (some (k : Int)) none).cps.toList = x.cps.toList.drop k := by
  unfold cutS
  rw [HT.sIx_nat, HT.sIx_none, Nat.min_eq_left h]
  show (x.cps.toList.drop k).take (x.length - k) = _
  rw [← len_cps, ← List.length_drop, List.take_length]
theorem app_cps (x y : Str) : (x ++ y).cps.toList = x.cps.toList ++ y.cps.toList := by rw [Str.cps_append, Array.toList_append]
theorem app_len (x y : Str) : (x ++ y).length = x.length + y.length := by rw [← len_cps, app_cps, List.length_append, len_cps, len_cps]
section
variable {P : Program} {w : World} {K : PySem.W.Frag} {mg : Str → Option Value} {base : Heap} {f gR : Addr} {fd dR : FuncData}
theorem scText : FnScope ["_law_text_here", "_law_way", "_law_cell", "_law_name", "_law_at", "_law_blanks", "_law_spot"] ["_law_text_here", "_law_way", "_law_cell", "_law_name"] (defScope sText) := ⟨rfl, rfl, rfl, by decide +kernel, rfl, by decide +kernel, by decide +kernel⟩
theorem ok_text (C : Con K mg w) (hrg : mg "range" = none) (F : Fun K "_law_text" "_law_text" sText f fd) : FnOk P w K mg base CX0 1 f fd ["_law_text_here", "_law_way", "_law_cell", "_law_name"] spText := by
  refine F.okQ scText (fun vs H Q E h => ?_) (fun cdv A outer s0 H vs Q E hr h => ?_)
  · obtain ⟨x, way, cell, nm, rfl, _⟩ := h; rfl
  obtain ⟨x, way, cell, nm, rfl, hx, hn, hb, q⟩ := h
  have nd := scText.nd
  refine ⟨_, qb_cons (qs_set (i := 4) nd rfl (Or.inl rfl) (qe_op op_mod (qv 2) (qe_op op_add (qe_callB call_len_str rfl C.len PySem.boot_len (qa_nm (qv 0) qa_nil)) qe_int)))
    (qb_cons (qs_setCG ["_law_k", "_law_text_here"] [0] (i := 5) nd rfl (Or.inl rfl) (qi_range1 rfl hrg (qa_call (qe_callB call_len_str rfl C.len PySem.boot_len (qa_nm (qv 0) qa_nil)) qa_nil)) (fun _ _ _ _ => (qts_one (qt_cmpR op_eq (qe_ix ix_str (qv 1) (qv 0) (fun _ _ => rfl)) qe_str (nomark _)))) (fun _ _ _ _ => (qv 0)))
    (qb_cons (qs_set (i := 6) nd rfl (Or.inl rfl) (qe_ix ix_list (qv 5) (qe_op op_mod (qv 2) (qe_callB call_len_seq rfl C.len PySem.boot_len (qa_nm (qv 5) qa_nil))) (fun _ _ => rfl)))
    (qb_cons (qs_if (qt_cmpR op_eq (qv 1) qe_int (nomark _)) (qb_one (qs_ret (qe_op op_add_str (qe_op op_add_str (qe_slice sl_str (qv 0) qo_none (qo_some (qv 6))) qe_str) (qe_slice sl_str (qv 0) (qo_some (qv 6)) qo_none)))) qb_nil)
    (qb_cons (qs_if (qt_cmpR op_eq (qv 1) qe_int (nomark _)) (qb_one (qs_ret (qe_ix ix_list (qe_lst (qa_bop (qe_op op_add_str qe_str (qv 0)) (qa_bop (qe_op op_add_str (qv 0) qe_str) qa_nil))) (qe_op op_mod (qv 2) qe_int) (fun _ _ => rfl)))) qb_nil)
    (qb_cons (qs_if (qt_cmpR op_eq (qv 1) qe_int (nomark _)) (qb_one (qs_ret (qe_op op_add_str (qe_op op_add_str (qv 0) qe_str) (qv 0)))) qb_nil)
    (qb_cons (qs_if (qt_cmpR op_eq (qv 1) qe_int (nomark _)) (qb_one (qs_ret (qe_ix ix_list (qe_lst (qa_bop (qe_op op_add_str qe_str (qv 0)) (qa_bop (qe_op op_add_str (qv 0) qe_str) (qa_bop (qe_op op_add_str (qe_op op_add_str (qv 0) qe_str) (qv 3)) qa_nil)))) (qe_op op_mod (qv 2) qe_int) (fun _ _ => rfl)))) qb_nil)
    (qb_cons (qs_if (qt_cmpR op_eq (qv 1) qe_int (nomark _)) (qb_one (qs_ret (qe_op op_add_str (qe_op op_add_str (qe_slice sl_str (qv 0) qo_none (qo_some (qv 4))) (qe_ix ix_str qe_str (qe_op op_mod (qv 2) qe_int) (fun _ _ => rfl))) (qe_slice sl_str (qv 0) (qo_some (qv 4)) qo_none)))) qb_nil)
    (qb_cons (qs_if (qt_cmpR op_eq (qv 1) qe_int (nomark _)) (qb_one (qs_ret (qe_ix ix_list (qe_lst (qa_bop (qe_op op_add_str (qv 0) qe_str) (qa_bop (qe_op op_add_str qe_str (qv 0)) qa_nil))) (qe_op op_mod (qv 2) qe_int) (fun _ _ => rfl)))) qb_nil)
    (qb_cons (qs_if (qt_cmpR op_eq (qv 1) qe_int (nomark _)) (qb_one (qs_ret (qe_op op_add_str (qe_op op_add_str (qe_slice sl_str (qv 0) qo_none (qo_some (qv 6))) qe_str) (qe_slice sl_str (qv 0) (qo_some (qe_op op_add (qv 6) qe_int)) qo_none)))) qb_nil)
    (qb_one (qs_ret (qe_op op_add_str (qe_op op_add_str (qe_op op_add_str (qe_op op_add_str (qv 0) qe_str) (qe_ix ix_str qe_str (qe_op op_mod (qv 2) qe_int) (fun _ _ => rfl))) (qv 3)) qe_str)))))))))))), ?_⟩
  have hxl : x.length ≤ sizeLine := Nat.le_trans (show x.length ≤ 1000 by lia) (by decide)
  have hpos : (0 : Int) < ((x.length : Nat) : Int) + 1 := by lia
  refine ⟨_, rfl, _, rfl, x, rfl, hxl, _, _, rfl, rfl, _, _, rfl, rfl, hpos, ?_⟩
  have a0 := Int.emod_nonneg cell (Int.ne_of_gt hpos)
  have a1 := Int.emod_lt_of_pos cell hpos
  obtain ⟨at', hat⟩ := Int.eq_ofNat_of_zero_le a0
  have hatl : at' ≤ x.length := by lia
  refine ⟨_, rfl, x, rfl, hxl, _, rfl, (by lia), (by lia), ?_⟩
  refine comp_map (nums 0 ((x.length : Nat) : Int).toNat) (isBl x) id jseq_rng trivial ?_ ?_ ?_ fun D H1 hD e1 hd1 => ?_
  · unfold nums; rw [List.length_map, List.length_range, Int.toNat_natCast]; exact hxl
  · intro v hv H2 e2 Q' q'
    unfold nums at hv
    rw [Int.toNat_natCast] at hv
    obtain ⟨k, hk, rfl⟩ := List.mem_map.mp hv
    have hk' : k < x.cps.toList.length := by rw [len_cps]; exact List.mem_range.mp hk
    refine ⟨_, rfl, _, rfl, x, _, x.cps.toList[k], rfl, rfl, hxl, (by rw [Int.zero_add]; exact atI_nat (List.getElem?_eq_getElem hk')), rfl, _, rfl, ?_⟩
    have := q' H2 (Same.refl _)
    have e : isBl x (.int (0 + (k : Int))) = decide (V.str ⟨#[x.cps.toList[k]]⟩ = V.str sp1) := by
      show decide (x.cps.toList[((0 : Int) + (k : Int)).toNat]? = some 32) = _
      rw [Int.zero_add, Int.toNat_natCast, List.getElem?_eq_getElem hk']
      by_cases h : x.cps.toList[k] = 32
      · rw [h]; rfl
      · rw [decide_eq_false (fun z => h (Option.some.inj z)), decide_eq_false]
        intro z
        have z1 : (⟨#[x.cps.toList[k]]⟩ : Str) = sp1 := by injection z
        have z2 := congrArg (fun s : Str => s.cps.toList) z1
        rw [sp_cps] at z2
        exact h (by simpa using z2)
    rw [e] at this
    exact this
  · intro v hv _ H2 e2 Q' q'
    exact ⟨_, rfl, q' H2 (Same.refl _)⟩
  rw [List.map_id, Int.toNat_natCast] at hd1
  generalize hbs : (nums 0 x.length).filter (isBl x) = bs at hd1
  have hbne : bs ≠ [] := hbs ▸ bl_ne hb
  have hbl : (0 : Int) < ((bs.length : Nat) : Int) := by
    have := List.length_pos_iff.mpr hbne; lia
  obtain ⟨v, hv1, hv2⟩ := at_mod (xs := bs) (m := ((bs.length : Nat) : Int)) (i := cell) rfl hbl
  obtain ⟨sp, rfl, A', B', hAB, hAl⟩ := bl_mem (x := x) (by rw [hbs]; exact hv2)
  have hspl : sp < x.length := by rw [← len_cps, hAB, List.length_append, List.length_cons]; lia
  refine ⟨_, rfl, _, rfl, _, rfl, D, _, rfl, .inl (SqL.of hd1), _, _, rfl, rfl, hbl, D, _, _, .int (sp : Int), rfl, rfl, SqL.of hd1, hv1, ?_⟩
  have hsz : ∀ {n : Nat}, n ≤ 1000 → n ≤ sizeLine := fun h => Nat.le_trans h (by decide)
  have hT : x.cps.toList.take sp = A' := by rw [hAB, ← hAl, List.take_left]
  have hDr : x.cps.toList.drop sp = 32 :: B' := by rw [hAB, ← hAl, List.drop_left]
  have hDr1 : x.cps.toList.drop (sp + 1) = B' := by rw [← List.drop_drop, hDr]; rfl
  have lT : ∀ k, k ≤ x.length → (cutS x none (some (k : Int))).length = k := fun k hk => by rw [← len_cps, cutS_take x k hk, List.length_take, len_cps]; lia
  have lD : ∀ k, k ≤ x.length → (cutS x (some (k : Int)) none).length = x.length - k := fun k hk => by rw [← len_cps, cutS_drop x k hk, List.length_drop, len_cps]
  have l1 : sp1.length = 1 := sp1_len
  have l2 : sepC.length = 2 := sepC_len
  have lc : comma.length = 1 := by decide +kernel
  have lt : (", , tree " : Str).length = 9 := by decide +kernel
  have ln1 : (", nothing" : Str).length = 9 := by decide +kernel
  have ln2 : ("nothing, " : Str).length = 9 := by decide +kernel
  have li : (" is nil" : Str).length = 7 := by decide +kernel
  have lle : (Str.ofString "\n").length = 1 := by decide +kernel
  have l1c : ∀ c : Nat, (⟨#[c]⟩ : Str).length = 1 := fun c => rfl
  refine ⟨_, rfl, rfl, _, rfl, iteB (fun _ => ?_) (fun _ => ?_)⟩
  · refine ⟨_, rfl, _, rfl, _, rfl, x, rfl, hxl, _, sp1, rfl, rfl, hsz ?_, _, rfl, _, rfl, _, rfl, x, rfl, hxl, _, _, rfl, rfl, hsz ?_, ?_⟩
    · rw [lT sp (by lia)]; lia
    · rw [app_len, lT sp (by lia), lD sp (by lia)]; lia
    · refine q _ H1 e1 ?_ (.two A' B' hAB ?_)
      · rw [app_len, app_len, lT sp (by lia), lD sp (by lia)]; lia
      · rw [app_cps, app_cps, cutS_take x sp (by lia), cutS_drop x sp (by lia), hT, hDr, sp_cps, List.append_assoc]; rfl
  refine ⟨_, rfl, rfl, _, rfl, iteB (fun _ => ?_) (fun _ => ?_)⟩
  · obtain ⟨v, hv1, hv2⟩ := at_mod (xs := [V.str (sp1 ++ x), V.str (x ++ sp1)]) (m := 2) (i := cell) rfl (by decide)
    refine ⟨_, rfl, sp1, x, rfl, rfl, hsz (by lia), _, rfl, x, sp1, rfl, rfl, hsz (by lia), (show 2 ≤ sizeLine by decide), fun l hl => ⟨_, rfl, _, _, rfl, rfl, (show (0 : Int) < 2 by decide), l, _, _, v, rfl, rfl, SqL.of upd_same, hv1, ?_⟩⟩
    have e2 := e1.trans (same_new hl (.lst [V.str (sp1 ++ x), V.str (x ++ sp1)]))
    simp only [List.mem_cons, List.not_mem_nil, or_false] at hv2
    rcases hv2 with rfl | rfl
    · exact q _ _ e2 (by rw [app_len]; lia) .ahead
    · exact q _ _ e2 (by rw [app_len]; lia) .behind
  refine ⟨_, rfl, rfl, _, rfl, iteB (fun _ => ?_) (fun _ => ?_)⟩
  · refine ⟨_, rfl, x, comma, rfl, rfl, hsz (by lia), _, rfl, _, x, rfl, rfl, hsz (by rw [app_len]; lia), ?_⟩
    exact q _ H1 e1 (by rw [app_len, app_len]; lia) .comma
  refine ⟨_, rfl, rfl, _, rfl, iteB (fun _ => ?_) (fun _ => ?_)⟩
  · obtain ⟨v, hv1, hv2⟩ := at_mod (xs := [V.str (sepC ++ x), V.str (x ++ sepC), V.str (x ++ ", , tree " ++ nm)]) (m := 3) (i := cell) rfl (by decide)
    refine ⟨_, rfl, sepC, x, rfl, rfl, hsz (by lia), _, rfl, x, sepC, rfl, rfl, hsz (by lia), _, rfl, x, _, rfl, rfl, hsz (by rw [lt]; lia), _, rfl, _, nm, rfl, rfl, hsz (by rw [app_len, lt]; lia), (show 3 ≤ sizeLine by decide), fun l hl => ⟨_, rfl, _, _, rfl, rfl, (show (0 : Int) < 3 by decide), l, _, _, v, rfl, rfl, SqL.of upd_same, hv1, ?_⟩⟩
    have e2 := e1.trans (same_new hl (.lst [V.str (sepC ++ x), V.str (x ++ sepC), V.str (x ++ ", , tree " ++ nm)]))
    simp only [List.mem_cons, List.not_mem_nil, or_false] at hv2
    rcases hv2 with rfl | rfl | rfl
    · exact q _ _ e2 (by rw [app_len]; lia) .none1
    · exact q _ _ e2 (by rw [app_len]; lia) .none2
    · exact q _ _ e2 (by rw [app_len, app_len, lt]; lia) .none3
  refine ⟨_, rfl, rfl, _, rfl, iteB (fun _ => ?_) (fun _ => ?_)⟩
  · obtain ⟨c, hc1, hc2⟩ := at_mod (xs := signs8.cps.toList) (m := 8) (i := cell) (by decide +kernel) (by decide)
    refine ⟨_, rfl, _, rfl, _, rfl, x, rfl, hxl, _, rfl, _, _, rfl, rfl, (show (0 : Int) < 8 by decide), signs8, _, c, rfl, rfl, (by decide +kernel), hc1, _, _, rfl, rfl, hsz ?_, _, rfl, _, rfl, _, rfl, x, rfl, hxl, _, _, rfl, rfl, hsz ?_, ?_⟩
    · rw [hat, lT at' hatl, l1c]; lia
    · rw [app_len, hat, lT at' hatl, lD at' hatl, l1c]; lia
    · refine q _ H1 e1 ?_ (.sign (x.cps.toList.take at') (x.cps.toList.drop at') c hc2 ?_)
      · rw [app_len, app_len, hat, lT at' hatl, lD at' hatl, l1c]; lia
      · rw [app_cps, app_cps, hat, cutS_take x at' hatl, cutS_drop x at' hatl, List.append_assoc]; rfl
  refine ⟨_, rfl, rfl, _, rfl, iteB (fun _ => ?_) (fun _ => ?_)⟩
  · obtain ⟨v, hv1, hv2⟩ := at_mod (xs := [V.str (x ++ ", nothing"), V.str ("nothing, " ++ x)]) (m := 2) (i := cell) rfl (by decide)
    refine ⟨_, rfl, x, _, rfl, rfl, hsz (by rw [ln1]; lia), _, rfl, _, x, rfl, rfl, hsz (by rw [ln2]; lia), (show 2 ≤ sizeLine by decide), fun l hl => ⟨_, rfl, _, _, rfl, rfl, (show (0 : Int) < 2 by decide), l, _, _, v, rfl, rfl, SqL.of upd_same, hv1, ?_⟩⟩
    have e2 := e1.trans (same_new hl (.lst [V.str (x ++ ", nothing"), V.str ("nothing, " ++ x)]))
    simp only [List.mem_cons, List.not_mem_nil, or_false] at hv2
    rcases hv2 with rfl | rfl
    · exact q _ _ e2 (by rw [app_len, ln1]; lia) .nth1
    · exact q _ _ e2 (by rw [app_len, ln2]; lia) .nth2
  refine ⟨_, rfl, rfl, _, rfl, iteB (fun _ => ?_) (fun _ => ?_)⟩
  · refine ⟨_, rfl, _, rfl, _, rfl, x, rfl, hxl, _, _, rfl, rfl, hsz ?_, _, rfl, _, rfl, _, _, rfl, rfl, _, rfl, x, rfl, hxl, _, _, rfl, rfl, hsz ?_, ?_⟩
    · rw [lT sp (by lia), lle]; lia
    · rw [app_len, lT sp (by lia), show ((sp : Int) + 1) = ((sp + 1 : Nat) : Int) by lia, lD (sp + 1) (by lia), lle]; lia
    · rw [show ((sp : Int) + 1) = ((sp + 1 : Nat) : Int) by lia]
      refine q _ H1 e1 ?_ (.line A' B' ?_)
      · rw [app_len, app_len, lT sp (by lia), lD (sp + 1) (by lia), lle]; lia
      · rw [app_cps, app_cps, cutS_take x sp (by lia), cutS_drop x (sp + 1) (by lia), hT, hDr1, List.append_assoc]; rfl
  obtain ⟨c, hc1, hc2⟩ := at_mod (xs := figures.cps.toList) (m := 10) (i := cell) (by decide +kernel) (by decide)
  refine ⟨_, rfl, x, sepC, rfl, rfl, hsz (by lia), _, rfl, _, _, rfl, rfl, (show (0 : Int) < 10 by decide), figures, _, c, rfl, rfl, (by decide +kernel), hc1, _, _, rfl, rfl, hsz (by rw [app_len, l1c]; lia), _, rfl, _, nm, rfl, rfl, hsz (by rw [app_len, app_len, l1c]; lia), _, _, rfl, rfl, hsz (by rw [app_len, app_len, app_len, l1c, li]; lia), ?_⟩
  exact q _ H1 e1 (by rw [app_len, app_len, app_len, app_len, l1c, li]; lia) (.fig c hc2)
end
end K4
namespace K4
open PySem PySem.Spec L2 Mir
noncomputable abbrev sWritten : Stmt := top 47
noncomputable def spWritten (K : PySem.W.Frag) : Sp := fun vs H Q _ => ∃ a fs ps, vs = [.ref a] ∧ TellAt K H a [fs, ps] ∧ ShortRows fs ∧ ShortRows ps ∧ (∀ r ∈ fs, r.length = 3) ∧ ∀ H', Same H H' → Q (.str (Txt.join sepC (showRows fs ps))) H'
theorem qg_tup2 {X : Cx} {i j : Nat} {x y : Str} {px py pos : Pos} {k : Nat} (h1 : QG X (.Name x px) (gName i)) (h2 : QG X (.Name y py) (gName j)) (hc : X.calm = true := by rfl)
    (a1 : (assignEach [.Name x px, .Name y py] X.env).map (·.2) = assign (.Name x px) X.env :: (assignEach [.Name y py] X.env).map (·.2) := by rfl) (a2 : (assignEach [.Name y py] X.env).map (·.2) = assign (.Name y py) X.env :: (assignEach [] X.env).map (·.2) := by rfl)
    (hn : (assignEach [.Name x px, .Name y py] X.env).length = 2 := by rfl) (hst : (assignEach [.Name x px, .Name y py] X.env).findIdx? (·.1) = none := by rfl) : QG X (.Tuple [.Name x px, .Name y py] k pos) (gTup X.K 2 (gCons (gName i) (gCons (gName j) gNil))) :=
  ⟨pg_tup hc (pgs_cons h1.run (pgs_cons h2.run pgs_nil a2) a1) hn hst⟩
theorem ixTK {X : Cx} {K : PySem.W.Frag} (h : X.K = K) : IxR X (rIxT K) := by subst h; exact ix_tup
section
variable {P : Program} {w : World} {K : PySem.W.Frag} {mg : Str → Option Value} {base : Heap} {f : Addr} {fd : FuncData}
theorem scWritten : FnScope ["_law_telling_here", "_law_facts", "_law_parts", "_law_rows"] ["_law_telling_here"] (defScope sWritten) := ⟨rfl, rfl, rfl, by decide +kernel, rfl, by decide +kernel, by decide +kernel⟩
theorem ok_written (C : Con K mg w) (F : Fun K "_law_written" "_law_written" sWritten f fd) : FnOk P w K mg base CX0 1 f fd ["_law_telling_here"] (spWritten K) := by
  refine F.okQ scWritten (fun vs H Q E h => ?_) (fun cdv A outer s H vs Q E hr h => ?_)
  · obtain ⟨a, fs, ps, rfl, _⟩ := h; rfl
  obtain ⟨a, fs, ps, rfl, ht, hf, hp, h3, q⟩ := h
  have nd := scWritten.nd
  obtain ⟨as, t1, t2⟩ := ht
  cases t2 with
  | @cons fa _ _ _ t3 t4 =>
  cases t4 with
  | @cons pa _ _ _ t5 t6 =>
  cases t6
  obtain ⟨fas, f1, f2⟩ := t3
  obtain ⟨pas, p1, p2⟩ := t5
  have fl : fas.length = fs.length := Paired.length f2
  have pl : pas.length = ps.length := Paired.length p2
  have b1 := hf.1
  have b2 := hp.1
  refine ⟨_, qb_cons (qs_asg (qv 0) (qg_tup2 (qg_name (i := 1) nd rfl (Or.inl rfl)) (qg_name (i := 2) nd rfl (Or.inl rfl))))
    (qb_cons (qs_setC (i := 3) nd rfl (Or.inl rfl) (qi_list (qv 1)) (fun _ _ _ _ => qts_nil) (fun _ _ _ _ => (qe_op op_add_str (qe_op op_add_str (qe_op op_add_str (qe_op op_add_str (qe_ix (ixTK (K := K) rfl) (qv 0) qe_int (fun _ _ => rfl)) qe_str) (qe_ix (ixTK (K := K) rfl) (qv 0) qe_int (fun _ _ => rfl))) qe_str) (qe_ix (ixTK (K := K) rfl) (qv 0) qe_int (fun _ _ => rfl)))))
    (qb_one (qs_ret (qe_bm PySem.F.plainAttrs_str PySem.F.slot_str_join PySem.F.type_str_join (mtJoin (K := K) rfl) qe_str (qa_bop (qe_op op_cat (qv 3) (qe_comp0 (qi_list (qv 2)) (fun _ _ _ _ => qts_nil) (fun _ _ _ _ => qe_bmK (K := K) rfl PySem.F.plainAttrs_str PySem.F.slot_str_join PySem.F.type_str_join (mtJoin (K := K) rfl) qe_str (qa_nm (qv 0) qa_nil)))) qa_nil))))), ?_⟩
  have rowLen : ∀ r ∈ ps, (r.map (·.length)).sum + r.length * sp1.length ≤ 5005 := fun r hr => by
    have h1 := (hp.2 r hr).1
    have h2 := sum_le (B := 1000) (hp.2 r hr).2
    have h3 : r.length * 1000 ≤ 5 * 1000 := Nat.mul_le_mul_right _ h1
    rw [sp1_len]; lia
  have hsz : ∀ {n : Nat}, n ≤ 10000 → n ≤ sizeLine := fun h => Nat.le_trans h (by decide)
  refine ⟨_, rfl, a, _, rfl, t1, rfl, _, _, rfl, _, _, rfl, rfl, ?_⟩
  refine ⟨_, rfl, fa, rfl, ⟨_, SqL.of f1⟩, ?_⟩
  refine comp_str (fas.map V.ref) fs showFact jseq_list (SqL.of f1) (by rw [List.length_map]; lia) (by rw [List.length_map]; lia) (fun i x r hx hr' H2 e2 Q' q' => ?_) fun D1 H1 hD1 e1 hd1 => ?_
  · obtain ⟨b, hb, rfl⟩ := ref_at hx
    have hrs : RowAt K H b r := Paired.at2 f2 hb hr'
    have hm := List.mem_of_getElem? hr'
    obtain ⟨x0, x1, x2, rfl⟩ := row3 (h3 r hm)
    have hh := (hf.2 _ hm).2
    have g0 : x0.length ≤ 1000 := hh x0 (by simp)
    have g1 : x1.length ≤ 1000 := hh x1 (by simp)
    have g2 : x2.length ≤ 1000 := hh x2 (by simp)
    have hr2 := hrs.same e2
    have l1 := sp1_len
    have := q' H2 (Same.refl _)
    rw [← fact_text] at this
    refine ⟨_, rfl, b, _, 1, .str x1, rfl, rfl, hr2, rfl, x1, sp1, rfl, rfl, hsz (by lia), _, rfl, b, _, 0, .str x0, rfl, rfl, hr2, rfl, _, x0, rfl, rfl, hsz (by rw [app_len]; lia), _, sp1, rfl, rfl, hsz (by rw [app_len, app_len]; lia), _, rfl, b, _, 2, .str x2, rfl, rfl, hr2, rfl, _, x2, rfl, rfl, hsz (by rw [app_len, app_len, app_len]; lia), this⟩
  refine ⟨rfl, _, rfl, _, rfl, pa, rfl, ⟨_, SqL.of (e1 _ _ p1)⟩, ?_⟩
  refine comp_str (pas.map V.ref) ps (Txt.join sp1) jseq_list (SqL.of (e1 _ _ p1)) (by rw [List.length_map]; lia) (by rw [List.length_map]; lia) (fun i x r hx hr' H2 e2 Q' q' => ?_) fun D2 H2 hD2 e2 hd2 => ?_
  · obtain ⟨b, hb, rfl⟩ := ref_at hx
    have hrs : RowAt K H b r := Paired.at2 p2 hb hr'
    have hm := List.mem_of_getElem? hr'
    exact ⟨rfl, _, rfl, sp1, b, r, rfl, rfl, .inr (hrs.same (e1.trans e2)), Nat.le_trans (rowLen r hm) (by decide), q' H2 (Same.refl _)⟩
  refine ⟨D1, D2, _, _, rfl, rfl, e2 _ _ hd1, hd2, ?_, fun c hc => ?_⟩
  · rw [List.length_map, List.length_map, List.length_map, List.length_map]; exact Nat.le_of_lt (small1000 (by lia))
  rw [← List.map_append]
  have s3 := same_new hc (.lst ((showRows fs ps).map V.str))
  have e3 := (e1.trans e2).trans s3
  have hlen : (showRows fs ps).length ≤ 400 := by unfold showRows; rw [List.length_append, List.length_map, List.length_map]; lia
  have hall : ∀ t ∈ showRows fs ps, t.length ≤ 5005 := fun t ht => by
    rcases List.mem_append.mp ht with h | h
    · obtain ⟨r, hr, rfl⟩ := List.mem_map.mp h
      obtain ⟨x0, x1, x2, rfl⟩ := row3 (h3 r hr)
      have hh := (hf.2 _ hr).2
      have := join_len sp1 (B := 1000) (ts := [x1, x0, x2]) (fun y hy => hh y (by simp only [List.mem_cons, List.not_mem_nil, or_false] at hy ⊢; rcases hy with h | h | h <;> simp [h]))
      rw [sp1_len] at this
      exact Nat.le_trans this (show 3 * 1000 + 3 * 1 ≤ 5005 by decide)
    · obtain ⟨r, hr, rfl⟩ := List.mem_map.mp h
      have h2 := join_len sp1 (B := 1000) (ts := r) (hp.2 r hr).2
      have h1 := (hp.2 r hr).1
      rw [sp1_len] at h2
      have h4 : r.length * 1000 ≤ 5 * 1000 := Nat.mul_le_mul_right _ h1
      lia
  refine ⟨sepC, c, showRows fs ps, rfl, rfl, .inl (SqL.of upd_same), ?_, q _ e3⟩
  have h1 := sum_le hall
  rw [sepC_len]
  have h2 : (showRows fs ps).length * 5005 ≤ 400 * 5005 := Nat.mul_le_mul_right _ hlen
  lia
end
end K4
namespace K4
open PySem PySem.Spec L2 Mir
section
variable {xs : List Str}
theorem isValue_any : isValue "any" = false := by decide +kernel
theorem strange_fact : ∀ w ∈ strange, ¬ w ∈ [("is" : Str), "not"] := by decide +kernel
theorem strange_part : ∀ w ∈ strange, partLen w = none := by decide +kernel
theorem value_part (hx : ∀ x ∈ xs, isName x = true) {y : Str} (h : ValueOf xs y) : partLen y = none := by
  have key : ∀ z : Str, z ∈ Mir.noNames → ¬ isName z = true := fun z hz h => by
    unfold isName at h
    rw [if_pos (.inr (.inr hz))] at h
    cases h
  unfold partLen
  have no : ∀ z : Str, z ∈ [("cell" : Str), "stretch", "tree"] → ¬ y = z := fun z hz e => by
    subst e
    rcases h with h | h
    · subst h; revert hz; decide +kernel
    · refine key y ?_ (hx y h)
      simp only [List.mem_cons, List.not_mem_nil, or_false] at hz
      rcases hz with h | h | h <;> rw [h] <;> decide +kernel
  rw [if_neg (no _ (by simp)), if_neg (no _ (by simp)), if_neg (no _ (by simp))]
theorem isFact_no {r : List Str} (h : r.length ≠ 3 ∨ ¬ r.headD "" ∈ [("is" : Str), "not"] ∨ (r.drop 1).all isValue = false) : isFact r = false := by
  unfold isFact
  rcases h with h | h | h
  · rw [decide_eq_false h]; rfl
  · rw [decide_eq_false h, Bool.and_false]; rfl
  · rw [h, Bool.and_false]
theorem isPart_no {k : Str} {r : List Str} (h : partLen k ≠ some (r.length + 1)) : isPart (k :: r) = false := by
  show (decide (partLen k = some (r.length + 1)) && _) = false
  rw [decide_eq_false h]; rfl
theorem partLen_c : partLen "cell" = some 4 ∧ partLen "stretch" = some 3 ∧ partLen "tree" = some 2 := by decide +kernel
theorem bent_fact {r r' : List Str} {nm : Str} (h : FactOf xs r) (hb : BentRow r nm r') : isFact r' = false := by
  obtain ⟨k, u, v, rfl, _⟩ := h
  rcases hb with ⟨w, hw, rfl⟩ | ⟨j, hj, rfl⟩ | ⟨j, hj, rfl⟩ | rfl | rfl
  · exact isFact_no (.inr (.inl (strange_fact w hw)))
  · exact isFact_no (.inl (by simp; lia))
  · exact isFact_no (.inl (by simp at hj ⊢; lia))
  · refine isFact_no (.inr (.inr ?_))
    show (isValue "any" && (isValue v && true)) = false
    rw [isValue_any]; rfl
  · exact isFact_no (.inl (by simp))
theorem bent_part (hx : ∀ x ∈ xs, isName x = true) {r r' : List Str} {nm : Str} (h : PartOf xs r) (hb : BentRow r nm r') : isPart r' = false := by
  obtain ⟨k, l, rfl, hk, hl, ⟨a, l', rfl, ha⟩⟩ : ∃ k l, r = k :: l ∧ partLen k = some (l.length + 1) ∧ (k = "cell" ∨ k = "stretch" ∨ k = "tree") ∧ ∃ a l', l = a :: l' ∧ ValueOf xs a := by
    rcases h with ⟨a, b, c, rfl, h1, _⟩ | ⟨a, b, rfl, h1, _⟩ | ⟨a, rfl, h1⟩
    · exact ⟨_, _, rfl, partLen_c.1, .inl rfl, _, _, rfl, h1⟩
    · exact ⟨_, _, rfl, partLen_c.2.1, .inr (.inl rfl), _, _, rfl, h1⟩
    · exact ⟨_, _, rfl, partLen_c.2.2, .inr (.inr rfl), _, _, rfl, h1⟩
  rcases hb with ⟨w, hw, rfl⟩ | ⟨j, hj, rfl⟩ | ⟨j, hj, rfl⟩ | rfl | rfl
  · exact isPart_no (by rw [strange_part w hw]; simp)
  · have e : (k :: a :: l').take (j + 1) ++ [nm] ++ (k :: a :: l').drop (j + 1) = k :: ((a :: l').take j ++ [nm] ++ (a :: l').drop j) := rfl
    rw [e]
    refine isPart_no ?_
    rw [hk]
    intro z
    have := Option.some.inj z
    rw [List.length_append, List.length_append, List.length_take, List.length_drop] at this
    simp at this hj
    lia
  · cases j with
    | zero =>
      show isPart (a :: l') = false
      exact isPart_no (by rw [value_part hx ha]; simp)
    | succ j =>
      have e : (k :: a :: l').take (j + 1) ++ (k :: a :: l').drop (j + 1 + 1) = k :: ((a :: l').take j ++ (a :: l').drop (j + 1)) := rfl
      rw [e]
      refine isPart_no ?_
      rw [hk]
      intro z
      have := Option.some.inj z
      rw [List.length_append, List.length_take, List.length_drop] at this
      simp at this hj
      lia
  · show (decide (partLen k = some ((("any" : Str) :: l').length + 1)) && (if k = "cell" then isValue "any" && l'.all (fun w => decide (w = "any") || isValue w) else (isValue "any" && l'.all isValue))) = false
    rw [Bool.and_eq_false_iff]
    right
    split
    · rw [isValue_any]; rfl
    · rw [isValue_any]; rfl
  · rfl
theorem tell_bad_fact {fs ps : List (List Str)} {r : List Str} (hr : r ∈ fs) (h : isFact r = false) : isTelling [fs, ps] = false := isTelling_no fun z => by
  have := List.all_eq_true.mp z.2.2.1 r hr
  rw [h] at this; cases this
theorem tell_bad_part {fs ps : List (List Str)} {r : List Str} (hr : r ∈ ps) (h : isPart r = false) : isTelling [fs, ps] = false := isTelling_no fun z => by
  have := List.all_eq_true.mp z.2.2.2.1 r hr
  rw [h] at this; cases this
theorem bent_tell (hx : ∀ x ∈ xs, isName x = true) {fs ps fs' ps' : List (List Str)} {nm : Str} (hf : ∀ r ∈ fs, FactOf xs r) (hp : ∀ r ∈ ps, PartOf xs r) (hb : BentTell fs ps nm fs' ps') : isTelling [fs', ps'] = false := by
  rcases hb with ⟨j, hj, r', hr, rfl, rfl⟩ | ⟨j, hj, r', hr, rfl, rfl⟩
  · exact tell_bad_fact (List.mem_set hj r') (bent_fact (hf _ (List.getElem_mem hj)) hr)
  · exact tell_bad_part (List.mem_set hj r') (bent_part hx (hp _ (List.getElem_mem hj)) hr)
noncomputable def nineN : List Str := ["n0", "n1", "n2", "n3", "n4", "n5", "n6", "n7", "n8"]
theorem nineN_facts : nineN.Nodup ∧ (∀ x ∈ nineN, isName x = true) ∧ ∀ x ∈ nineN, ¬ x ∈ Mir.noNames := by decide +kernel
theorem nineN_in : ∀ x ∈ nineN, ∃ r ∈ nine, x ∈ r.drop 1 := by decide +kernel
theorem many_tell {fs ps fs' ps' : List (List Str)} (h : ManyOf fs ps fs' ps') : isTelling [fs', ps'] = false := isTelling_no fun z => by
  rcases h with ⟨h1, _⟩ | ⟨h1, _⟩ | ⟨rfl, rfl⟩
  · have : fs'.length ≤ 8 := z.1
    lia
  · have : ps'.length ≤ 6 := z.2.1
    lia
  · obtain ⟨zs, h1, h2, h3⟩ : Few (fs' ++ (nine ++ ps)) := z.2.2.2.2
    have := List.Nodup.length_le_of_subset nineN_facts.1 (l₂ := zs) fun x hx => by
      refine (h2 x).mpr (mem_words.mpr ?_)
      obtain ⟨r, hr, hm⟩ := nineN_in x hx
      exact ⟨r, by simp [hr], hm, nineN_facts.2.2 x hx⟩
    have e : nineN.length = 9 := rfl
    lia
theorem factOf_mono {ys : List Str} (h : ∀ x ∈ xs, x ∈ ys) {r : List Str} (hf : FactOf xs r) : FactOf ys r := by
  have hv : ∀ {y}, ValueOf xs y → ValueOf ys y := fun h1 => h1.imp id (h _)
  obtain ⟨k, u, v, e, hk, h1, h2⟩ := hf
  exact ⟨k, u, v, e, hk, hv h1, hv h2⟩
theorem partOf_mono {ys : List Str} (h : ∀ x ∈ xs, x ∈ ys) {r : List Str} (hf : PartOf xs r) : PartOf ys r := by
  have hv : ∀ {y}, ValueOf xs y → ValueOf ys y := fun h1 => h1.imp id (h _)
  have hw : ∀ {y}, FieldOf xs y → FieldOf ys y := fun h1 => h1.imp id hv
  rcases hf with ⟨a, b, c, e, h1, h2, h3⟩ | ⟨a, b, e, h1, h2⟩ | ⟨a, e, h1⟩
  · exact .inl ⟨a, b, c, e, hv h1, hw h2, hw h3⟩
  · exact .inr (.inl ⟨a, b, e, hv h1, hv h2⟩)
  · exact .inr (.inr ⟨a, e, hv h1⟩)
theorem nine_parts : ∀ r ∈ nine, ∃ a b c : Str, r = [("cell" : Str), a, b, c] ∧ a ∈ nineN ∧ b ∈ nineN ∧ c ∈ nineN := fun r hr => by
  unfold nine at hr
  simp only [List.mem_cons, List.not_mem_nil, or_false] at hr
  rcases hr with rfl | rfl | rfl
  · exact ⟨_, _, _, rfl, by decide +kernel, by decide +kernel, by decide +kernel⟩
  · exact ⟨_, _, _, rfl, by decide +kernel, by decide +kernel, by decide +kernel⟩
  · exact ⟨_, _, _, rfl, by decide +kernel, by decide +kernel, by decide +kernel⟩
theorem many_rows (hx : ∀ x ∈ xs, isName x = true) {fs ps fs' ps' : List (List Str)} (hf : ∀ r ∈ fs, FactOf xs r) (hp : ∀ r ∈ ps, PartOf xs r) (f7 : fs.length ≤ 7) (p5 : ps.length ≤ 5) (h : ManyOf fs ps fs' ps') : ∃ ys : List Str, (∀ x ∈ ys, isName x = true) ∧ (∀ r ∈ fs', FactOf ys r) ∧ (∀ r ∈ ps', PartOf ys r) ∧ 27 * fs'.length + 36 * ps'.length + 2 * (fs'.length + ps'.length) ≤ 900 := by
  refine ⟨nineN ++ xs, fun x hx' => ?_, ?_⟩
  · rcases List.mem_append.mp hx' with h | h
    · exact nineN_facts.2.1 x h
    · exact hx x h
  have m1 : ∀ x ∈ xs, x ∈ nineN ++ xs := fun x h => List.mem_append.mpr (.inr h)
  rcases h with ⟨h1, h2, h3, rfl⟩ | ⟨h1, h2, h3, rfl⟩ | ⟨rfl, rfl⟩
  · exact ⟨fun r hr => factOf_mono m1 (hf r (h3 r hr)), fun r hr => partOf_mono m1 (hp r hr), by lia⟩
  · exact ⟨fun r hr => factOf_mono m1 (hf r hr), fun r hr => partOf_mono m1 (hp r (h3 r hr)), by lia⟩
  · refine ⟨fun r hr => factOf_mono m1 (hf r hr), fun r hr => ?_, by rw [List.length_append]; have : nine.length = 3 := rfl; lia⟩
    rcases List.mem_append.mp hr with h | h
    · obtain ⟨a, b, c, rfl, h1, h2, h3⟩ := nine_parts r h
      have m2 : ∀ {x}, x ∈ nineN → ValueOf (nineN ++ xs) x := fun h => .inr (List.mem_append.mpr (.inl h))
      exact .inl ⟨a, b, c, rfl, m2 h1, .inr (m2 h2), .inr (m2 h3)⟩
    · exact partOf_mono m1 (hp r h)
theorem showRows_len (hx : ∀ x ∈ xs, isName x = true) {fs ps : List (List Str)} (hf : ∀ r ∈ fs, FactOf xs r) (hp : ∀ r ∈ ps, PartOf xs r) : (Txt.join sepC (showRows fs ps)).length ≤ 27 * fs.length + 36 * ps.length + 2 * (fs.length + ps.length) := by
  have e : Txt.join sepC (showRows fs ps) = Str.join sepC (showRows fs ps) := StrLaws.glued_eq_join sepC _
  rw [e]
  have h1 := StrLaws.join_length_le sepC (showRows fs ps)
  have h2 : ((fs.map showFact).map (·.length)).sum ≤ fs.length * 27 := by
    have := sum_le (B := 27) (ts := fs.map showFact) fun t ht => by
      obtain ⟨r, hr, rfl⟩ := List.mem_map.mp ht
      have hg := row_good hx (.inl (hf r hr) : FactOf xs r ∨ PartOf xs r)
      obtain ⟨k, u, v, rfl, _⟩ := hf r hr
      have := join_len sp1 (B := 8) (ts := [u, k, v]) fun y hy => (hg.2.2 y (by simp only [List.mem_cons, List.not_mem_nil, or_false] at hy ⊢; rcases hy with h | h | h <;> simp [h])).1
      rw [sp1_len] at this
      exact this
    rw [List.length_map] at this
    exact this
  have h3 : ((ps.map (Txt.join sp1)).map (·.length)).sum ≤ ps.length * 36 := by
    have := sum_le (B := 36) (ts := ps.map (Txt.join sp1)) fun t ht => by
      obtain ⟨r, hr, rfl⟩ := List.mem_map.mp ht
      have hg := row_good hx (.inr (hp r hr) : FactOf xs r ∨ PartOf xs r)
      have := join_len sp1 (B := 8) (ts := r) fun y hy => (hg.2.2 y hy).1
      rw [sp1_len] at this
      have := hg.1
      lia
    rw [List.length_map] at this
    exact this
  rw [sepC_len] at h1
  unfold showRows at h1 ⊢
  rw [List.map_append, List.sum_append, List.length_append, List.length_map, List.length_map] at h1
  lia
theorem taken_show (hx : ∀ x ∈ xs, isName x = true) {fs ps : List (List Str)} (hf : ∀ r ∈ fs, FactOf xs r) (hp : ∀ r ∈ ps, PartOf xs r) : taken (showOf fs ps) = isTelling [fs, ps] := by
  unfold taken
  rw [pieces_show hx hf hp, (read_show hx hf hp).1, (read_show hx hf hp).2]
end
end K4
namespace K4
open PySem PySem.Spec L2 Mir
theorem glue_snoc (y : List Nat) : ∀ {ps : List (List Nat)} (p : List Nat), ps ≠ [] → Spl.glue y (ps ++ [p]) = Spl.glue y ps ++ (y ++ p)
  | [], p, h => absurd rfl h
  | [q], p, _ => rfl
  | q :: r :: ps, p, _ => by
    show q ++ (y ++ Spl.glue y ((r :: ps) ++ [p])) = (q ++ (y ++ Spl.glue y (r :: ps))) ++ (y ++ p)
    rw [glue_snoc y p (by simp)]; simp only [List.append_assoc]
theorem nothing_no : ¬ 44 ∈ nothing.cps.toList := by decide +kernel
theorem pieces_of {y : Str} {L : List Str} (hne : L ≠ []) (hc : ∀ p ∈ L, ¬ 44 ∈ p.cps.toList) (hy : y.cps.toList = Spl.glue sepC.cps.toList (L.map fun p => p.cps.toList)) (h44 : 44 ∈ y.cps.toList) : pieces y = L := by
  unfold pieces
  have hne0 : ¬ y = nothing := fun z => nothing_no (by rw [← z]; exact h44)
  rw [if_neg hne0, Spl.split_glue y sepC 44 [32] sep_cps (L.map fun p => p.cps.toList) (by simpa using hne) (fun p hp => ?_) hy sep_kind]
  · rw [List.map_map]
    exact Eq.trans (List.map_congr_left (g := fun p => p) fun p _ => Spl.str_back p) (List.map_id L)
  · obtain ⟨q, hq, rfl⟩ := List.mem_map.mp hp
    exact hc q hq
theorem bad_piece {y p : Str} (hp : p ∈ pieces y) (h : (writesFact (wordsOf p) = false ∧ isPart (wordsOf p) = false) ∨ (writesFact (wordsOf p) = true ∧ isFact (factRow (wordsOf p)) = false)) : taken y = false := by
  unfold taken
  rcases h with ⟨h1, h2⟩ | ⟨h1, h2⟩
  · exact tell_bad_part (List.mem_map.mpr ⟨p, List.mem_filter.mpr ⟨hp, by simp [h1]⟩, rfl⟩) h2
  · exact tell_bad_fact (List.mem_map.mpr ⟨p, List.mem_filter.mpr ⟨hp, by simpa using h1⟩, rfl⟩) h2
theorem words_nothing : wordsOf nothing = [nothing] := by
  have h := words_join (r := [nothing]) (by simp) fun y hy => by
    rw [List.mem_singleton.mp hy]
    exact (by decide +kernel : ¬ 32 ∈ nothing.cps.toList ∧ ¬ 44 ∈ nothing.cps.toList)
  have e : Txt.join sp1 [nothing] = nothing := (by decide +kernel : Txt.join sp1 [nothing] = nothing)
  rw [e] at h
  exact h
theorem bad_nothing {y : Str} (hp : nothing ∈ pieces y) : taken y = false := by
  refine bad_piece hp (.inl ?_)
  rw [words_nothing]
  exact ⟨by decide +kernel, by decide +kernel⟩
theorem fig_facts : ∀ c ∈ figures.cps.toList, c ≠ 32 ∧ c ≠ 44 ∧ ¬ c ∈ letters.cps.toList ∧ c ≠ 110 := by decide +kernel
theorem sign_facts : ∀ c ∈ signs8.cps.toList, okSign c = false ∧ c ≠ 32 ∧ c ≠ 44 := by decide +kernel
theorem line_facts : okSign 10 = false := by decide +kernel
theorem nil_cps : ("nil" : Str).cps.toList = [110, 105, 108] := by decide +kernel
theorem isnil_cps : (" is nil" : Str).cps.toList = 32 :: (("is" : Str).cps.toList ++ 32 :: ("nil" : Str).cps.toList) := by decide +kernel
theorem bad_fig {y nm : Str} {c : Nat} (hc : c ∈ figures.cps.toList) (hn : isName nm = true) {p : Str} (hpc : p.cps.toList = c :: (nm.cps.toList ++ (" is nil" : Str).cps.toList)) (hp : p ∈ pieces y) : taken y = false := by
  obtain ⟨c1, c2, c3, c4⟩ := fig_facts c hc
  have cl := clean_name hn
  have e : p = Txt.join sp1 [⟨#[c]⟩ ++ nm, "is", "nil"] := by
    rw [show Txt.join sp1 [(⟨#[c]⟩ : Str) ++ nm, "is", "nil"] = Str.join sp1 [⟨#[c]⟩ ++ nm, "is", "nil"] from StrLaws.glued_eq_join sp1 _]
    apply Str.ext'
    apply Array.toList_inj.mp
    rw [Spl.join_glue, hpc, isnil_cps, sp_cps]
    show _ = ((⟨#[c]⟩ : Str) ++ nm).cps.toList ++ ([32] ++ (("is" : Str).cps.toList ++ ([32] ++ ("nil" : Str).cps.toList)))
    rw [app_cps]
    show _ = ([c] ++ nm.cps.toList) ++ _
    simp
  have hcl : ∀ z ∈ [(⟨#[c]⟩ : Str) ++ nm, "is", "nil"], Clean z := fun z hz => by
    simp only [List.mem_cons, List.not_mem_nil, or_false] at hz
    rcases hz with rfl | rfl | rfl
    · have hm : ∀ d, d ∈ ((⟨#[c]⟩ : Str) ++ nm).cps.toList → d = c ∨ d ∈ nm.cps.toList := fun d hd => by
        rw [app_cps] at hd
        rcases List.mem_append.mp hd with h | h
        · exact .inl (by simpa using h)
        · exact .inr h
      refine ⟨fun z => ?_, fun z => ?_⟩
      · rcases hm _ z with h | h
        · exact c1 h.symm
        · exact cl.1 h
      · rcases hm _ z with h | h
        · exact c2 h.symm
        · exact cl.2 h
    · exact clean_consts _ (by simp)
    · exact clean_consts _ (by simp)
  have ew : wordsOf p = [(⟨#[c]⟩ : Str) ++ nm, "is", "nil"] := by rw [e]; exact words_join (by simp) hcl
  refine bad_piece hp (.inr ?_)
  rw [ew]
  refine ⟨rfl, ?_⟩
  show isFact [("is" : Str), (⟨#[c]⟩ : Str) ++ nm, "nil"] = false
  refine isFact_no (.inr (.inr ?_))
  show (isValue ((⟨#[c]⟩ : Str) ++ nm) && _) = false
  have hh : ((⟨#[c]⟩ : Str) ++ nm).cps.toList = c :: nm.cps.toList := by rw [app_cps]; rfl
  have hv : isValue ((⟨#[c]⟩ : Str) ++ nm) = false := by
    unfold isValue
    rw [Bool.or_eq_false_iff]
    constructor
    · refine decide_eq_false fun z => ?_
      have z2 := congrArg (fun s : Str => s.cps.toList) z
      simp only [hh, nil_cps] at z2
      exact c4 (List.cons.inj z2).1
    · unfold isName
      split
      · rfl
      · rw [hh]
        show (decide (c ∈ letters.cps.toList) && _) = false
        rw [decide_eq_false c3]; rfl
  rw [hv]; rfl
theorem commas : (", nothing" : Str).cps.toList = [44, 32] ++ nothing.cps.toList ∧ ("nothing, " : Str).cps.toList = nothing.cps.toList ++ [44, 32] ∧ (", , tree " : Str).cps.toList = 44 :: 32 :: 44 :: ((", , tree " : Str).cps.toList.drop 3) ∧ comma.cps.toList = [44] := by decide +kernel
theorem bent_text {x nm y : Str} {L : List Str} (hL : L ≠ []) (hc : ∀ p ∈ L, ¬ 44 ∈ p.cps.toList) (hxL : x.cps.toList = Spl.glue sepC.cps.toList (L.map fun p => p.cps.toList)) (ht : taken x = true) (hn : isName nm = true) (hb : BentText x nm y) : taken y = false := by
  have hrun := taken_run ht
  have hLm : L.map (fun p => p.cps.toList) ≠ [] := by simpa using hL
  cases hb with
  | two A B h e => exact not_taken (by rw [e]; exact two_blanks)
  | ahead => exact not_taken (by rw [app_cps, sp_cps]; exact blank_ahead)
  | behind => exact not_taken (by rw [app_cps, sp_cps]; exact blank_behind)
  | comma =>
    refine not_taken ?_
    rw [app_cps, app_cps, commas.2.2.2, List.append_assoc]
    exact bare_comma hrun
  | none1 => exact not_taken (by rw [app_cps, sep_cps]; exact comma_ahead)
  | none2 =>
    refine not_taken ?_
    rw [app_cps, sep_cps, show ([44, 32] : List Nat) = [44] ++ [32] from rfl, ← List.append_assoc]
    exact blank_behind
  | none3 =>
    refine not_taken ?_
    rw [app_cps, app_cps, commas.2.2.1, List.append_assoc]
    exact empty_amid
  | sign A B c hcs e => exact not_taken (by rw [e]; exact bad_in (sign_facts c hcs).1 (sign_facts c hcs).2.1 (sign_facts c hcs).2.2)
  | nth1 =>
    have e : (x ++ ", nothing").cps.toList = Spl.glue sepC.cps.toList ((L ++ [nothing]).map fun p => p.cps.toList) := by
      rw [List.map_append, app_cps, commas.1, List.map_singleton, glue_snoc _ _ hLm, ← hxL, sep_cps]
    have hp := pieces_of (L := L ++ [nothing]) (by simp) (fun p hp => by
      rcases List.mem_append.mp hp with h | h
      · exact hc p h
      · rw [List.mem_singleton.mp h]; exact nothing_no) e (by rw [app_cps, commas.1]; simp)
    exact bad_nothing (by rw [hp]; simp)
  | nth2 =>
    have e : ("nothing, " ++ x).cps.toList = Spl.glue sepC.cps.toList ((nothing :: L).map fun p => p.cps.toList) := by
      rw [List.map_cons, Spl.glue_cons _ _ hLm, ← hxL, app_cps, commas.2.1, sep_cps, List.append_assoc]
    have hp := pieces_of (L := nothing :: L) (by simp) (fun p hp => by
      rcases List.mem_cons.mp hp with h | h
      · rw [h]; exact nothing_no
      · exact hc p h) e (by rw [app_cps, commas.2.1]; simp)
    exact bad_nothing (by rw [hp]; simp)
  | line A B e => exact not_taken (by rw [e]; exact bad_in line_facts (by decide) (by decide))
  | fig c hcs =>
    obtain ⟨p, hpc⟩ : ∃ p : Str, p.cps.toList = c :: (nm.cps.toList ++ (" is nil" : Str).cps.toList) := ⟨⟨(c :: (nm.cps.toList ++ (" is nil" : Str).cps.toList)).toArray⟩, by simp⟩
    have e : (x ++ sepC ++ ⟨#[c]⟩ ++ nm ++ " is nil").cps.toList = Spl.glue sepC.cps.toList ((L ++ [p]).map fun p => p.cps.toList) := by
      rw [List.map_append, List.map_singleton, glue_snoc _ _ hLm, ← hxL, hpc, app_cps, app_cps, app_cps, app_cps]
      simp
    have hp := pieces_of (L := L ++ [p]) (by simp) (fun q hq => by
      rcases List.mem_append.mp hq with h | h
      · exact hc q h
      · rw [List.mem_singleton.mp h, hpc]
        intro z
        have hcl := clean_name hn
        rcases List.mem_cons.mp z with z | z
        · exact (fig_facts c hcs).2.1 z.symm
        · rcases List.mem_append.mp z with z | z
          · exact hcl.2 z
          · revert z; decide +kernel) e (by rw [app_cps, app_cps, app_cps, app_cps, sep_cps]; simp)
    exact bad_fig hcs hn hpc (by rw [hp]; simp)
end K4
namespace K4
open PySem PySem.Spec L2 Mir
noncomputable abbrev sLaw : Stmt := top 49
noncomputable def spLaw (K : PySem.W.Frag) : Sp := fun vs H Q _ => ∃ (a : Addr) (ns : List Int), vs = [.ref a] ∧ SqL K H a (ns.map V.int) ∧ ∀ H', Q (.bl true) H'
theorem passN {X : Cx} {P : Program} {w : World} {base : Heap} : Passes (CXE P w base) X E0 := fun pins σ H s e s' I c => by
  obtain ⟨_, _, _, _, _, _, _, _, _, _, _, _, _, _, _, _, hE⟩ := c
  exact hE.elim
theorem cut_ints (ns : List Int) (lo hi : Option Int) : ∃ ms : List Int, cutV (ns.map V.int) lo hi = ms.map V.int := by
  unfold cutV
  exact ⟨(ns.drop (HT.sIx (ns.map V.int).length 0 lo)).take (HT.sIx (ns.map V.int).length (ns.map V.int).length hi - HT.sIx (ns.map V.int).length 0 lo), by rw [List.map_take, List.map_drop]⟩
noncomputable def tFlat (t : TS) : TS := fun D σ H => t { D with nx := fun σ' H' => ∀ τ, τ = σ' → D.nx τ H' } σ H
theorem qs_flat {X : Cx} {st : Stmt} {t : TS} (h : QS X st t) : QS X st (tFlat t) := qs_weak h fun D σ H h => by
  have e : (fun σ' H' => ∀ τ, τ = σ' → D.nx τ H') = D.nx := by
    funext σ' H'
    exact propext ⟨fun h => h _ rfl, fun h τ e => e ▸ h⟩
  unfold tFlat at h
  rw [e] at h
  exact h
theorem iteN {b : Bool} {A B : Prop} (h : b = true) (hB : B) : if (!b) = true then A else B := by rw [h]; exact hB
theorem eqOk_row {r : List Str} (h : ∀ y ∈ r, Ok y) : EqOk (dRow r) ∧ (dRow r).depth ≤ 1 := by
  have h2 : ∀ l : List Str, PyData.depthAll (dStrs l) ≤ 0 := fun l => by
    unfold dStrs
    induction l with
    | nil => simp only [List.map_nil, PyData.depthAll]; exact Nat.le_refl _
    | cons x l ih => simp only [List.map_cons, PyData.depthAll, PyData.depth]; exact Nat.max_le.mpr ⟨Nat.le_refl _, ih⟩
  have hd : (dRow r).depth ≤ 1 := by
    unfold dRow
    simp only [PyData.depth]
    have := h2 r
    lia
  refine ⟨⟨?_, by lia⟩, hd⟩
  have h1 := (eqOk_strs h).1
  simp only [PyData.canLay0] at h1
  unfold dRow
  simp only [PyData.canLay0]
  exact h1
theorem eqOk_rowsS {rs : List (List Str)} (h : ∀ r ∈ rs, ∀ y ∈ r, Ok y) : EqOk (.list (rs.map dRow)) ∧ (PyData.list (rs.map dRow)).depth ≤ 2 := by
  have h1 : PyData.canLayAll0 (rs.map dRow) = true ∧ PyData.depthAll (rs.map dRow) ≤ 1 := by
    induction rs with
    | nil => simp only [List.map_nil, PyData.canLayAll0, PyData.depthAll]; exact ⟨trivial, Nat.zero_le _⟩
    | cons x l ih =>
      have i := ih fun r hr => h r (List.mem_cons_of_mem _ hr)
      have e := eqOk_row (h x (List.mem_cons_self ..))
      simp only [List.map_cons, PyData.canLayAll0, PyData.depthAll, Bool.and_eq_true]
      exact ⟨⟨e.1.1, i.1⟩, Nat.max_le.mpr ⟨e.2, i.2⟩⟩
  have hd : (PyData.list (rs.map dRow)).depth ≤ 2 := by
    simp only [PyData.depth]
    have := h1.2
    lia
  exact ⟨⟨by simp only [PyData.canLay0]; exact h1.1, by lia⟩, hd⟩
theorem eqOk_tell {fs ps : List (List Str)} (h : ∀ r ∈ fs ++ ps, ∀ y ∈ r, Ok y) : EqOk (.tuple ([fs, ps].map fun rs => PyData.list (rs.map dRow))) := by
  have e1 := eqOk_rowsS (rs := fs) fun r hr => h r (List.mem_append.mpr (.inl hr))
  have e2 := eqOk_rowsS (rs := ps) fun r hr => h r (List.mem_append.mpr (.inr hr))
  constructor
  · simp only [List.map_cons, List.map_nil, PyData.canLay0, PyData.canLayAll0, Bool.and_eq_true]
    have h1 := e1.1.1
    have h2 := e2.1.1
    simp only [PyData.canLay0] at h1 h2
    exact ⟨h1, h2, trivial⟩
  · have d1 := e1.2
    have d2 := e2.2
    simp only [List.map_cons, List.map_nil, PyData.depth, PyData.depthAll] at d1 d2 ⊢
    lia
theorem bent_long {r r' : List Str} {nm : Str} (hr : r.length ≤ 4) (hy : ∀ y ∈ r, y.length ≤ 8) (hn : nm.length ≤ 8) (hb : BentRow r nm r') : r'.length ≤ 1000 ∧ ∀ y ∈ r', Short y := by
  have hs : ∀ y ∈ strange, y.length ≤ 1000 := by decide +kernel
  have sh : ∀ y : Str, y.length ≤ 8 → Short y := fun y h => Nat.le_trans h (by decide)
  rcases hb with ⟨w, hw, rfl⟩ | ⟨j, hj, rfl⟩ | ⟨j, hj, rfl⟩ | rfl | rfl
  · refine ⟨by simp; lia, fun y h => ?_⟩
    rcases List.mem_cons.mp h with rfl | h
    · exact hs y hw
    · exact sh y (hy y (List.mem_of_mem_drop h))
  · refine ⟨by simp; lia, fun y h => ?_⟩
    rcases List.mem_append.mp h with h | h
    · rcases List.mem_append.mp h with h | h
      · exact sh y (hy y (List.mem_of_mem_take h))
      · rw [List.mem_singleton.mp h]; exact sh nm hn
    · exact sh y (hy y (List.mem_of_mem_drop h))
  · refine ⟨by simp; lia, fun y h => ?_⟩
    rcases List.mem_append.mp h with h | h
    · exact sh y (hy y (List.mem_of_mem_take h))
    · exact sh y (hy y (List.mem_of_mem_drop h))
  · refine ⟨by simp; lia, fun y h => ?_⟩
    rcases List.mem_append.mp h with h | h
    · rcases List.mem_append.mp h with h | h
      · exact sh y (hy y (List.mem_of_mem_take h))
      · rw [List.mem_singleton.mp h]; exact (by decide +kernel : ("any" : Str).length ≤ 1000)
    · exact sh y (hy y (List.mem_of_mem_drop h))
  · exact ⟨by simp, fun y h => by cases h⟩
theorem long_set {rs : List (List Str)} (h : LongRows rs) {r : List Str} (hr : r.length ≤ 1000 ∧ ∀ y ∈ r, Short y) (j : Nat) : LongRows (rs.set j r) := by
  refine ⟨by rw [List.length_set]; exact h.1, fun r' hr' => ?_⟩
  rcases List.mem_or_eq_of_mem_set hr' with z | rfl
  · exact h.2 r' z
  · exact hr
theorem long_snoc {rs : List (List Str)} (h : LongRows rs) (hl : rs.length ≤ 10) {r : List Str} (hr : r.length ≤ 1000 ∧ ∀ y ∈ r, Short y) : LongRows (rs ++ [r]) := by
  refine ⟨by rw [List.length_append, List.length_singleton]; lia, fun r' hr' => ?_⟩
  rcases List.mem_append.mp hr' with z | z
  · exact h.2 r' z
  · rw [List.mem_singleton.mp z]; exact hr
theorem short2 {as bs : List (List Str)} (h1 : LongRows as) (h2 : LongRows bs) : ShortTell [as, bs] := ⟨by simp, fun rs hrs => by
  simp only [List.mem_cons, List.not_mem_nil, or_false] at hrs
  rcases hrs with rfl | rfl
  · exact h1
  · exact h2⟩
theorem short3 {as bs cs : List (List Str)} (h1 : LongRows as) (h2 : LongRows bs) (h3 : LongRows cs) : ShortTell [as, bs, cs] := ⟨by simp, fun rs hrs => by
  simp only [List.mem_cons, List.not_mem_nil, or_false] at hrs
  rcases hrs with rfl | rfl | rfl
  · exact h1
  · exact h2
  · exact h3⟩
theorem row_words_short {x0 : Str} (h : x0.length ≤ 8) : ∀ r ∈ [[("stretch" : Str), x0, "nil"], [("tree" : Str), x0], [("cell" : Str), x0, "any", "nil"], [("is" : Str), x0, "nil"]], r.length ≤ 1000 ∧ ∀ y ∈ r, Short y := fun r hr => by
  have hk : ∀ y ∈ ([("is" : Str), "cell", "stretch", "tree", "nil", "any"] : List Str), y.length ≤ 8 := by decide +kernel
  have key : ∀ y : Str, (y = x0 ∨ y ∈ ([("is" : Str), "cell", "stretch", "tree", "nil", "any"] : List Str)) → Short y := fun y hy => by
    rcases hy with rfl | hy
    · exact Nat.le_trans h (by decide)
    · exact Nat.le_trans (hk y hy) (by decide)
  simp only [List.mem_cons, List.not_mem_nil, or_false] at hr
  rcases hr with rfl | rfl | rfl | rfl
  · refine ⟨by simp, fun y hy => key y ?_⟩
    simp only [List.mem_cons, List.not_mem_nil, or_false] at hy ⊢
    rcases hy with z | z | z <;> simp [z]
  · refine ⟨by simp, fun y hy => key y ?_⟩
    simp only [List.mem_cons, List.not_mem_nil, or_false] at hy ⊢
    rcases hy with z | z <;> simp [z]
  · refine ⟨by simp, fun y hy => key y ?_⟩
    simp only [List.mem_cons, List.not_mem_nil, or_false] at hy ⊢
    rcases hy with z | z | z | z <;> simp [z]
  · refine ⟨by simp, fun y hy => key y ?_⟩
    simp only [List.mem_cons, List.not_mem_nil, or_false] at hy ⊢
    rcases hy with z | z | z <;> simp [z]
theorem strange_rows (x0 : Str) : isFact [("stretch" : Str), x0, "nil"] = false ∧ isFact [("tree" : Str), x0] = false ∧ isFact [("cell" : Str), x0, "any", "nil"] = false ∧ isPart [("is" : Str), x0, "nil"] = false :=
  ⟨isFact_no (.inr (.inl (by show ¬ ("stretch" : Str) ∈ [("is" : Str), "not"]; decide +kernel))), isFact_no (.inl (by simp)), isFact_no (.inl (by simp)), isPart_no (by rw [show partLen "is" = none by decide +kernel]; simp)⟩
theorem tell_one (fs : List (List Str)) : isTelling [fs] = false := isTelling_no fun z => z
theorem tell_three (fs ps qs : List (List Str)) : isTelling [fs, ps, qs] = false := isTelling_no fun z => z
theorem tell_none : isTelling [] = false := isTelling_no fun z => z
noncomputable def tRefL (K : PySem.W.Frag) : TS := fun D σ H => ∃ (a l t : Addr) (way cell : Int) (ys : List Str) (fs ps : List (List Str)), σ = [some (.ref a), some (.ref l), some (.ref t), some (.str (showOf fs ps)), some (.int way), some (.int cell), none, none, none, none, none, none, none] ∧ H l = some (.lst (ys.map V.str)) ∧ ys ≠ [] ∧ (∀ y ∈ ys, isName y = true) ∧ ys.length ≤ 8 ∧ TellAt K H t [fs, ps] ∧ 1 ≤ fs.length ∧ fs.length ≤ 7 ∧ 1 ≤ ps.length ∧ ps.length ≤ 5 ∧ (∀ r ∈ fs, FactOf ys r) ∧ (∀ r ∈ ps, PartOf ys r) ∧
  ∀ z6 z7 z8 z9 z11 z12 H', Same H H' → D.nx [some (.ref a), some (.ref l), some (.ref t), some (.str (showOf fs ps)), some (.int way), some (.int cell), z6, z7, z8, z9, some (.bl true), z11, z12] H'
section
variable {P : Program} {w : World} {K : PySem.W.Frag} {mg : Str → Option Value} {base : Heap} {f gC gN gT gK gS gR gM gW gB gX gF : Addr} {fd dC dN dT dK dS dR dM dW dB dX dF : FuncData} {NT : Addr}
theorem scLaw : FnScope ["_law_script", "_law_names_here", "_law_telling_here", "_law_text_here", "_law_way", "_law_cell", "_law_facts", "_law_parts", "_law_strange", "_law_moved", "_law_refused_here", "_law_sized", "_law_many_here"] ["_law_script"] (defScope sLaw) := ⟨rfl, rfl, rfl, by decide +kernel, rfl, by decide +kernel, by decide +kernel⟩
theorem ok_law (C : Con K mg w) (F : Fun K "law" "law" sLaw f fd) (GC : FnOk P w K mg base CX0 1 gC dC ["_law_script", "_law_k"] (spCell K)) (cC : Cal K mg "_law_cell_at" gC dC ["_law_script", "_law_k"])
    (GN : FnOk P w K mg base CX0 3 gN dN ["_law_cell"] (spMade mg)) (cN : Cal K mg "_law_names" gN dN ["_law_cell"])
    (GT : FnOk P w K mg base CX0 4 gT dT ["_law_cells", "_law_names_here"] (spTell2 K)) (cT : Cal K mg "_law_telling" gT dT ["_law_cells", "_law_names_here"])
    (GK : FnOk P w K mg base (CXE P w base) 5 gK dK ["telling"] (spCheck K NT)) (cK : Cal K mg "check_telling" gK dK ["telling"])
    (GS : FnOk P w K mg base CX0 2 gS dS ["telling"] (spShow K)) (cS : Cal K mg "show_telling" gS dS ["telling"])
    (GR : FnOk P w K mg base (CXE P w base) 6 gR dR ["text"] (spRead K NT)) (cR : Cal K mg "read_telling" gR dR ["text"])
    (GM : FnOk P w K mg base CX0 1 gM dM ["_law_telling_here", "_law_way", "_law_cell"] (spMany K)) (cM : Cal K mg "_law_many" gM dM ["_law_telling_here", "_law_way", "_law_cell"])
    (GW : FnOk P w K mg base CX0 1 gW dW ["_law_telling_here"] (spWritten K)) (cW : Cal K mg "_law_written" gW dW ["_law_telling_here"])
    (GB : FnOk P w K mg base CX0 2 gB dB ["_law_telling_here", "_law_way", "_law_cell", "_law_name"] (spBent K)) (cB : Cal K mg "_law_bent" gB dB ["_law_telling_here", "_law_way", "_law_cell", "_law_name"])
    (GX : FnOk P w K mg base CX0 1 gX dX ["_law_text_here", "_law_way", "_law_cell", "_law_name"] spText) (cX : Cal K mg "_law_text" gX dX ["_law_text_here", "_law_way", "_law_cell", "_law_name"])
    (GF : FnOk P w K mg base CX0 7 gF dF ["_law_thing", "_law_as_text"] (spRefused K)) (cF : Cal K mg "_law_refused" gF dF ["_law_thing", "_law_as_text"]) : FnOk P w K mg base CX0 8 f fd ["_law_script"] (spLaw K) := by
  refine F.okQ scLaw (fun vs H Q E h => ?_) (fun cdv A outer s H vs Q E hr h => ?_)
  · obtain ⟨a, ns, rfl, _⟩ := h; rfl
  obtain ⟨a, ns, rfl, hS, q⟩ := h
  have nd := scLaw.nd
  have hr1 := hr.mono (j := 1) (by lia)
  have hr2 := hr.mono (j := 2) (by lia)
  have hr3 := hr.mono (j := 3) (by lia)
  have hr4 := hr.mono (j := 4) (by lia)
  have hr5 := hr.mono (j := 5) (by lia)
  have hr6 := hr.mono (j := 6) (by lia)
  have hu1 := hu_of hr
  have hu := Nat.lt_of_le_of_lt (Nat.add_le_add_left (show 32 ≤ 64 by decide) _) hr.units
  refine ⟨_, qb_cons (qs_set (i := 1) nd rfl (Or.inl rfl) (qe_slice sl_list (qe_call GN hr3 rfl cN.name cN.keep cN.bind .nil pass0 (qa_call (qe_call GC hr1 rfl cC.name cC.keep cC.bind .nil pass0 (qa_nm (qv 0) (qa_int qa_nil))) qa_nil)) qo_none (qo_some (qe_op op_add qe_int (qe_op op_mod (qe_call GC hr1 rfl cC.name cC.keep cC.bind .nil pass0 (qa_nm (qv 0) (qa_int qa_nil))) qe_int)))))
    (qb_cons (qs_set (i := 2) nd rfl (Or.inl rfl) (qe_call GT hr4 rfl cT.name cT.keep cT.bind .nil pass0 (qa_sub (qe_slice sl_list (qv 0) (qo_some qe_int) qo_none) (qa_nm (qv 1) qa_nil))))
    (qb_cons (qs_set (i := 3) nd rfl (Or.inl rfl) (qe_call GS hr2 rfl cS.name cS.keep cS.bind .nil pass0 (qa_nm (qv 2) qa_nil)))
    (qb_cons (qs_if (QW.qt (qw_or (qt_cmpR op_notN (qe_call GK hr5 rfl cK.name cK.keep cK.bind .nil passN (qa_nm (qv 2) qa_nil)) qe_non (nomark _)) (qw_or1 (qt_cmpR (op_neD hu) (qe_call GR hr6 rfl cR.name cR.keep cR.bind .nil passN (qa_nm (qv 3) qa_nil)) (qv 2) (nomark _))))) (qb_one (qs_ret qe_bl)) qb_nil)
    (qb_cons (qs_set (i := 4) nd rfl (Or.inl rfl) (qe_op op_mod (qe_call GC hr1 rfl cC.name cC.keep cC.bind .nil pass0 (qa_nm (qv 0) (qa_int qa_nil))) qe_int))
    (qb_cons (qs_flat (qs_set (i := 5) nd rfl (Or.inl rfl) (qe_call GC hr1 rfl cC.name cC.keep cC.bind .nil pass0 (qa_nm (qv 0) (qa_int qa_nil)))))
    (qb_cons (qs_weak (t' := tRefL K) (qs_if (qt_cmpR op_eq (qv 4) qe_int (nomark _)) (qb_cons (qs_asg (qv 2) (qg_tup2 (qg_name (i := 6) nd rfl (Or.inl rfl)) (qg_name (i := 7) nd rfl (Or.inl rfl))))
    (qb_cons (qs_set (i := 8) nd rfl (Or.inl rfl) (qe_ix ix_list (qe_lst (qa_tp (qa_str (qa_sub (qe_ix ix_list (qv 1) qe_int (fun _ _ => rfl)) (qa_str qa_nil))) (qa_tp (qa_str (qa_sub (qe_ix ix_list (qv 1) qe_int (fun _ _ => rfl)) qa_nil)) (qa_tp (qa_str (qa_sub (qe_ix ix_list (qv 1) qe_int (fun _ _ => rfl)) (qa_str (qa_str qa_nil)))) qa_nil)))) (qe_op op_mod (qe_op op_fdiv (qv 5) qe_int) qe_int) (fun _ _ => rfl)))
    (qb_cons (qs_set (i := 9) nd rfl (Or.inl rfl) (qe_ix ix_list (qe_lst (qa_tp (qa_bop (qe_op op_cat (qv 6) (qe_lst (qa_nm (qv 8) qa_nil))) (qa_nm (qv 7) qa_nil)) (qa_tp (qa_nm (qv 6) (qa_bop (qe_op op_cat (qv 7) (qe_lst (qa_tp (qa_str (qa_sub (qe_ix ix_list (qv 1) qe_int (fun _ _ => rfl)) (qa_str qa_nil))) qa_nil))) qa_nil)) qa_nil))) (qe_op op_mod (qv 5) qe_int) (fun _ _ => rfl)))
    (qb_one (qs_set (i := 10) nd rfl (Or.inl rfl) (qe_call GF hr rfl cF.name cF.keep cF.bind .nil pass0 (qa_nm (qv 9) (qa_bl qa_nil)))))))) (qb_one (qs_if (qt_cmpR op_eq (qv 4) qe_int (nomark _)) (qb_cons (qs_set (i := 11) nd rfl (Or.inl rfl) (qe_ix ix_list (qe_lst (qa_sub (qe_slice (slTUk (K := K) rfl) (qv 2) qo_none (qo_some qe_int)) (qa_bop (qe_op (catTk (K := K) rfl) (qv 2) (qe_tup (qa_ls qa_nil qa_nil))) (qa_bop (qe_op (catTk (K := K) rfl) (qv 2) (qe_tup (qa_sub (qe_ix ix_tup (qv 2) qe_int (fun _ _ => rfl)) qa_nil))) (qa_tp qa_nil qa_nil))))) (qe_op op_mod (qv 5) qe_int) (fun _ _ => rfl)))
    (qb_one (qs_set (i := 10) nd rfl (Or.inl rfl) (qe_call GF hr rfl cF.name cF.keep cF.bind .nil pass0 (qa_nm (qv 11) (qa_bl qa_nil)))))) (qb_one (qs_if (qt_cmpR op_lt (qv 4) qe_int (nomark _)) (qb_cons (qs_set (i := 12) nd rfl (Or.inl rfl) (qe_call GM hr1 rfl cM.name cM.keep cM.bind .nil pass0 (qa_nm (qv 2) (qa_nm (qv 4) (qa_nm (qv 5) qa_nil)))))
    (qb_one (qs_set (i := 10) nd rfl (Or.inl rfl) (qe_and (qe_call GF hr rfl cF.name cF.keep cF.bind .nil pass0 (qa_nm (qv 12) (qa_bl qa_nil))) (qe_one (qe_call GF hr rfl cF.name cF.keep cF.bind .nil pass0 (qa_call (qe_call GW hr1 rfl cW.name cW.keep cW.bind .nil pass0 (qa_nm (qv 12) qa_nil)) (qa_bl qa_nil)))))))) (qb_one (qs_if (qt_cmpR op_lt (qv 4) qe_int (nomark _)) (qb_one (qs_set (i := 10) nd rfl (Or.inl rfl) (qe_call GF hr rfl cF.name cF.keep cF.bind .nil pass0 (qa_call (qe_call GB hr2 rfl cB.name cB.keep cB.bind .nil pass0 (qa_nm (qv 2) (qa_nm (qv 4) (qa_nm (qv 5) (qa_sub (qe_ix ix_list (qv 1) qe_int (fun _ _ => rfl)) qa_nil))))) (qa_bl qa_nil))))) (qb_one (qs_set (i := 10) nd rfl (Or.inl rfl) (qe_call GF hr rfl cF.name cF.keep cF.bind .nil pass0 (qa_call (qe_call GX hr1 rfl cX.name cX.keep cX.bind .nil pass0 (qa_nm (qv 3) (qa_nm (qv 4) (qa_nm (qv 5) (qa_sub (qe_ix ix_list (qv 1) qe_int (fun _ _ => rfl)) qa_nil))))) (qa_bl qa_nil)))))))))))) (fun D σ H h => by
      obtain ⟨a, l, t, way, cell, ys, fs, ps, rfl, hL, hyne, hynm, hylen, hT, f1, f7, p1, p5, hf, hp, go⟩ := h
      obtain ⟨x0, xr, rfl⟩ : ∃ x0 xr, ys = x0 :: xr := by
        cases ys with
        | nil => exact absurd rfl hyne
        | cons x l => exact ⟨x, l, rfl⟩
      have h0 : atI ((x0 :: xr).map V.str) 0 = some (.str x0) := atI_nat (j := 0) rfl
      have hn0 : isName x0 = true := hynm x0 (List.mem_cons_self ..)
      have hs0 := (row_good hynm (.inr (.inr (.inr ⟨x0, rfl, .inr (List.mem_cons_self ..)⟩)) : FactOf (x0 :: xr) [("tree" : Str), x0] ∨ PartOf (x0 :: xr) [("tree" : Str), x0])).2.2 x0 (by simp)
      have hgF : ∀ r ∈ fs, r.length ≤ 4 ∧ r ≠ [] ∧ ∀ y ∈ r, y.length ≤ 8 ∧ Ok y := fun r hr' => row_good hynm (.inl (hf r hr'))
      have hgP : ∀ r ∈ ps, r.length ≤ 4 ∧ r ≠ [] ∧ ∀ y ∈ r, y.length ≤ 8 ∧ Ok y := fun r hr' => row_good hynm (.inr (hp r hr'))
      have sF : ShortRows fs := ⟨by lia, fun r hr' => ⟨by have := (hgF r hr').1; lia, fun y hy => Nat.le_trans ((hgF r hr').2.2 y hy).1 (by decide)⟩⟩
      have sP : ShortRows ps := ⟨by lia, fun r hr' => ⟨by have := (hgP r hr').1; lia, fun y hy => Nat.le_trans ((hgP r hr').2.2 y hy).1 (by decide)⟩⟩
      have tup := id hT
      obtain ⟨as, t1, t2⟩ := tup
      cases t2 with
      | @cons fa _ _ _ t3 t4 =>
      cases t4 with
      | @cons pa _ _ _ t5 t6 =>
      cases t6
      have hRF := t3
      have hRP := t5
      obtain ⟨fas, hfl, hfp⟩ := t3
      obtain ⟨pas, hpl, hpp⟩ := t5
      have hfal := Paired.length hfp
      have hpal := Paired.length hpp
      refine ⟨_, rfl, rfl, _, rfl, iteB (fun _ => ?_) (fun _ => ?_)⟩
      · -- a part among the facts, or a fact among the parts
        refine ⟨_, rfl, t, _, rfl, t1, rfl, _, _, rfl, _, _, rfl, rfl, ?_⟩
        refine ⟨_, rfl, l, _, 0, .str x0, rfl, rfl, SqL.of hL, h0, (show 3 ≤ sizeLine by decide), fun u1 hu1' => ?_⟩
        have s1 := same_new hu1' (.tup [.str "stretch", .str x0, .str "nil"])
        refine ⟨_, rfl, l, _, 0, .str x0, rfl, rfl, SqL.of (s1 _ _ hL), h0, (show 2 ≤ sizeLine by decide), fun u2 hu2' => ?_⟩
        have s2 := same_new hu2' (.tup [.str "tree", .str x0])
        have s12 := s1.trans s2
        refine ⟨_, rfl, l, _, 0, .str x0, rfl, rfl, SqL.of (s12 _ _ hL), h0, (show 4 ≤ sizeLine by decide), fun u3 hu3' => ⟨(show 3 ≤ sizeLine by decide), fun lt hlt => ?_⟩⟩
        have s3 := same_new hu3' (.tup [.str "cell", .str x0, .str "any", .str "nil"])
        have s4 := same_new hlt (.lst [.ref u1, .ref u2, .ref u3])
        have s14 := s12.trans (s3.trans s4)
        obtain ⟨v, hv1, hv2⟩ := at_mod (xs := [V.ref u1, .ref u2, .ref u3]) (m := 3) (i := cell / 2) rfl (by decide)
        refine ⟨_, rfl, _, _, rfl, rfl, (show CDiv _ 2 from ⟨by decide, by decide⟩), _, _, rfl, rfl, (show (0 : Int) < 3 by decide), lt, _, _, v, rfl, rfl, SqL.of upd_same, hv1, ?_⟩
        have hw := row_words_short hs0.1
        have hst := strange_rows x0
        have hsr : ∃ (b : Addr) (r : List Str), v = .ref b ∧ RowAt K (upd (upd (upd (upd H u1 (.tup [.str "stretch", .str x0, .str "nil"])) u2 (.tup [.str "tree", .str x0])) u3 (.tup [.str "cell", .str x0, .str "any", .str "nil"])) lt (.lst [.ref u1, .ref u2, .ref u3])) b r ∧ isFact r = false ∧ (r.length ≤ 1000 ∧ ∀ y ∈ r, Short y) := by
          simp only [List.mem_cons, List.not_mem_nil, or_false] at hv2
          rcases hv2 with rfl | rfl | rfl
          · exact ⟨u1, [("stretch" : Str), x0, "nil"], rfl, (s2.trans (s3.trans s4)).seqT (SqT.of upd_same), hst.1, hw _ (by simp)⟩
          · exact ⟨u2, [("tree" : Str), x0], rfl, (s3.trans s4).seqT (SqT.of upd_same), hst.2.1, hw _ (by simp)⟩
          · exact ⟨u3, [("cell" : Str), x0, "any", "nil"], rfl, s4.seqT (SqT.of upd_same), hst.2.2.1, hw _ (by simp)⟩
        generalize upd (upd (upd (upd H u1 (.tup [.str "stretch", .str x0, .str "nil"])) u2 (.tup [.str "tree", .str x0])) u3 (.tup [.str "cell", .str x0, .str "any", .str "nil"])) lt (.lst [.ref u1, .ref u2, .ref u3]) = H4 at s14 hsr ⊢
        obtain ⟨sr, rr, rfl, hsr1, hsr2, hsr3⟩ := hsr
        refine ⟨_, rfl, _, rfl, (show 1 ≤ sizeLine by decide), fun m1 hm1 => ?_⟩
        have s5 := same_new hm1 (.lst [.ref sr])
        have e5 := s14.trans s5
        refine ⟨fa, m1, _, _, rfl, rfl, e5 _ _ hfl, upd_same, ?_, fun m2 hm2 => ?_⟩
        · rw [List.length_map]; exact Nat.le_trans (show fas.length + 1 ≤ 1000 by lia) (by decide)
        have s6 := same_new hm2 (.lst (fas.map V.ref ++ [.ref sr]))
        have e6 := e5.trans s6
        refine ⟨_, rfl, (show 2 ≤ sizeLine by decide), fun mt hmt => ?_⟩
        have s7 := same_new hmt (.tup [.ref m2, .ref pa])
        have e7 := e6.trans s7
        refine ⟨_, rfl, _, rfl, _, rfl, l, _, 0, .str x0, rfl, rfl, SqL.of (e7 _ _ hL), h0, (show 3 ≤ sizeLine by decide), fun w1 hw1 => ⟨(show 1 ≤ sizeLine by decide), fun w2 hw2 => ?_⟩⟩
        have s8 := same_new hw1 (.tup [.str "is", .str x0, .str "nil"])
        have s9 := same_new hw2 (.lst [.ref w1])
        have e9 := e7.trans (s8.trans s9)
        refine ⟨pa, w2, _, _, rfl, rfl, e9 _ _ hpl, upd_same, ?_, fun w3 hw3 => ?_⟩
        · rw [List.length_map]; exact Nat.le_trans (show pas.length + 1 ≤ 1000 by lia) (by decide)
        have s10 := same_new hw3 (.lst (pas.map V.ref ++ [.ref w1]))
        refine ⟨(show 2 ≤ sizeLine by decide), fun wt hwt => ⟨(show 2 ≤ sizeLine by decide), fun ll hll => ?_⟩⟩
        have s11 := same_new hwt (.tup [.ref fa, .ref w3])
        have s12' := same_new hll (.lst [.ref mt, .ref wt])
        have e12 := e9.trans (s10.trans (s11.trans s12'))
        obtain ⟨v2, hq1, hq2⟩ := at_mod (xs := [V.ref mt, .ref wt]) (m := 2) (i := cell) rfl (by decide)
        refine ⟨_, rfl, _, _, rfl, rfl, (show (0 : Int) < 2 by decide), ll, _, _, v2, rfl, rfl, SqL.of upd_same, hq1, ?_⟩
        have g7 := s8.trans (s9.trans (s10.trans (s11.trans s12')))
        have hm2' := (s7.trans g7) _ _ (show (upd (upd H4 m1 (.lst [.ref sr])) m2 (.lst (fas.map V.ref ++ [.ref sr]))) m2 = _ from upd_same)
        have hmt' := g7.seqT (SqT.of (K := K) (show (upd (upd (upd H4 m1 (.lst [.ref sr])) m2 (.lst (fas.map V.ref ++ [.ref sr]))) mt (.tup [.ref m2, .ref pa])) mt = _ from upd_same))
        have hw3' := (s11.trans s12') _ _ (show (upd (upd (upd (upd (upd (upd H4 m1 (.lst [.ref sr])) m2 (.lst (fas.map V.ref ++ [.ref sr]))) mt (.tup [.ref m2, .ref pa])) w1 (.tup [.str "is", .str x0, .str "nil"])) w2 (.lst [.ref w1])) w3 (.lst (pas.map V.ref ++ [.ref w1]))) w3 = _ from upd_same)
        have hwt' := s12'.seqT (SqT.of (K := K) (show (upd (upd (upd (upd (upd (upd (upd H4 m1 (.lst [.ref sr])) m2 (.lst (fas.map V.ref ++ [.ref sr]))) mt (.tup [.ref m2, .ref pa])) w1 (.tup [.str "is", .str x0, .str "nil"])) w2 (.lst [.ref w1])) w3 (.lst (pas.map V.ref ++ [.ref w1]))) wt (.tup [.ref fa, .ref w3])) wt = _ from upd_same))
        have hsr' := (s5.trans (s6.trans (s7.trans g7))).seqT hsr1
        have hw1' := (s9.trans (s10.trans (s11.trans s12'))).seqT (SqT.of (K := K) (show (upd (upd (upd (upd H4 m1 (.lst [.ref sr])) m2 (.lst (fas.map V.ref ++ [.ref sr]))) mt (.tup [.ref m2, .ref pa])) w1 (.tup [.str "is", .str x0, .str "nil"])) w1 = _ from upd_same))
        have hF9 := hRF.same e12
        have hP9 := hRP.same e12
        have hfp9 := Paired.mapP hfp fun b r (z : RowAt K H b r) => e12.seqT z
        have hpp9 := Paired.mapP hpp fun b r (z : RowAt K H b r) => e12.seqT z
        generalize upd (upd (upd (upd (upd (upd (upd (upd H4 m1 (.lst [.ref sr])) m2 (.lst (fas.map V.ref ++ [.ref sr]))) mt (.tup [.ref m2, .ref pa])) w1 (.tup [.str "is", .str x0, .str "nil"])) w2 (.lst [.ref w1])) w3 (.lst (pas.map V.ref ++ [.ref w1]))) wt (.tup [.ref fa, .ref w3])) ll (.lst [.ref mt, .ref wt]) = H9 at e12 hm2' hmt' hw3' hwt' hsr' hw1' hF9 hP9 hfp9 hpp9 ⊢
        have all : ∃ (b : Addr) (rss : List (List (List Str))), v2 = .ref b ∧ TellAt K H9 b rss ∧ ShortTell rss ∧ isTelling rss = false := by
          simp only [List.mem_cons, List.not_mem_nil, or_false] at hq2
          rcases hq2 with rfl | rfl
          · refine ⟨mt, [fs ++ [rr], ps], rfl, ⟨[m2, pa], hmt', .cons ⟨fas ++ [sr], by rw [hm2', List.map_append]; rfl, Paired.snocP hfp9 hsr'⟩ (.cons hP9 .nil)⟩, short2 (long_snoc sF.long (by lia) hsr3) sP.long, tell_bad_fact (List.mem_append.mpr (.inr (List.mem_singleton.mpr rfl))) hsr2⟩
          · refine ⟨wt, [fs, ps ++ [[("is" : Str), x0, "nil"]]], rfl, ⟨[fa, w3], hwt', .cons hF9 (.cons ⟨pas ++ [w1], by rw [hw3', List.map_append]; rfl, Paired.snocP hpp9 hw1'⟩ .nil)⟩, short2 sF.long (long_snoc sP.long (by lia) (hw _ (by simp))), tell_bad_part (List.mem_append.mpr (.inr (List.mem_singleton.mpr rfl))) hst.2.2.2⟩
        obtain ⟨b, rss, hv, hTb, hsb, hnb⟩ := all
        exact ⟨_, rfl, v2, false, false, rfl, .inl ⟨rfl, b, rss, hv, hTb, hsb, hnb.symm⟩, fun H8 e8 => go _ _ _ _ _ _ H8 (e12.trans e8)⟩
      refine ⟨_, rfl, rfl, _, rfl, iteB (fun _ => ?_) (fun _ => ?_)⟩
      · -- one list, three, or none
        refine ⟨_, rfl, _, rfl, t, _, rfl, t1, fun q1 H1 e1 hq1 => ?_⟩
        refine ⟨_, rfl, Nat.zero_le _, fun le hle => ⟨(show 1 ≤ sizeLine by decide), fun te hte => ?_⟩⟩
        have s1 := same_new hle (.lst [])
        have s2 := same_new hte (.tup [.ref le])
        have e2 := e1.trans (s1.trans s2)
        refine ⟨t, te, _, [.ref le], rfl, rfl, e2.seqT t1, SqT.of upd_same, (show 2 + 1 ≤ sizeLine by decide), fun q2 H3 e3 hq2 => ?_⟩
        have e13 := e2.trans e3
        refine ⟨_, rfl, _, rfl, t, _, 0, .ref fa, rfl, rfl, e13.seqT t1, rfl, (show 1 ≤ sizeLine by decide), fun tf htf => ?_⟩
        have s4 := same_new htf (.tup [.ref fa])
        refine ⟨t, tf, _, [.ref fa], rfl, rfl, (e13.trans s4).seqT t1, SqT.of upd_same, (show 2 + 1 ≤ sizeLine by decide), fun q3 H5 e5 hq3 => ?_⟩
        have e15 := e13.trans (s4.trans e5)
        refine ⟨Nat.zero_le _, fun q4 hq4 => ⟨(show 4 ≤ sizeLine by decide), fun ls hls => ?_⟩⟩
        have s6 := same_new hq4 (.tup [])
        have s7 := same_new hls (.lst [.ref q1, .ref q2, .ref q3, .ref q4])
        have s67 := s6.trans s7
        obtain ⟨v, hv1, hv2⟩ := at_mod (xs := [V.ref q1, .ref q2, .ref q3, .ref q4]) (m := 4) (i := cell) rfl (by decide)
        refine ⟨_, rfl, _, _, rfl, rfl, (show (0 : Int) < 4 by decide), ls, _, _, v, rfl, rfl, SqL.of upd_same, hv1, ?_⟩
        have eF := e15.trans s67
        have hF7 := hRF.same eF
        have hP7 := hRP.same eF
        have hle7 := s67 _ _ (e5 _ _ (s4 _ _ (e3 _ _ (s2 _ _ (show (upd H1 le (.lst [])) le = _ from upd_same)))))
        have hq1' := ((s1.trans s2).trans (e3.trans (s4.trans (e5.trans s67)))).seqT hq1
        have hq2' := (s4.trans (e5.trans s67)).seqT hq2
        have hq3' := s67.seqT hq3
        have hq4' : SqT K _ q4 [] := s7.seqT (SqT.of (show (upd H5 q4 (.tup [])) q4 = _ from upd_same))
        generalize upd (upd H5 q4 (.tup [])) ls (.lst [.ref q1, .ref q2, .ref q3, .ref q4]) = H7 at eF hF7 hP7 hle7 hq1' hq2' hq3' hq4' ⊢
        have fin : ∀ (b : Addr) (rss : List (List (List Str))), v = .ref b → TellAt K H7 b rss → ShortTell rss → isTelling rss = false → ∃ (v1 : V) (b1 acc : Bool), [v, V.bl false] = [v1, .bl b1] ∧ ((b1 = false ∧ ∃ a rss, v1 = .ref a ∧ TellAt K H7 a rss ∧ ShortTell rss ∧ acc = isTelling rss) ∨ (b1 = true ∧ ∃ x, v1 = .str x ∧ x.length ≤ 900 ∧ acc = taken x)) ∧ acc = false := fun b rss hv hT' hs hn => ⟨v, false, false, rfl, .inl ⟨rfl, b, rss, hv, hT', hs, hn.symm⟩, rfl⟩
        have all : ∃ (b : Addr) (rss : List (List (List Str))), v = .ref b ∧ TellAt K H7 b rss ∧ ShortTell rss ∧ isTelling rss = false := by
          simp only [List.mem_cons, List.not_mem_nil, or_false] at hv2
          rcases hv2 with rfl | rfl | rfl | rfl
          · exact ⟨q1, [fs], rfl, ⟨[fa], hq1', .cons hF7 .nil⟩, ⟨by simp, fun rs hrs => by rw [List.mem_singleton.mp hrs]; exact sF.long⟩, tell_one fs⟩
          · exact ⟨q2, [fs, ps, []], rfl, ⟨[fa, pa, le], hq2', .cons hF7 (.cons hP7 (.cons ⟨[], hle7, .nil⟩ .nil))⟩, short3 sF.long sP.long ⟨by simp, fun r hr' => by cases hr'⟩, tell_three _ _ _⟩
          · exact ⟨q3, [fs, ps, fs], rfl, ⟨[fa, pa, fa], hq3', .cons hF7 (.cons hP7 (.cons hF7 .nil))⟩, short3 sF.long sP.long sF.long, tell_three _ _ _⟩
          · exact ⟨q4, [], rfl, ⟨[], hq4', .nil⟩, ⟨by simp, fun rs hrs => by cases hrs⟩, tell_none⟩
        obtain ⟨b, rss, hv, hTb, hsb, hnb⟩ := all
        exact ⟨_, rfl, v, false, false, rfl, .inl ⟨rfl, b, rss, hv, hTb, hsb, hnb.symm⟩, fun H8 e8 => go _ _ _ _ _ _ H8 (eF.trans e8)⟩
      refine ⟨_, rfl, _, _, rfl, rfl, _, rfl, iteB (fun _ => ?_) (fun _ => ?_)⟩
      · -- too many
        refine ⟨_, rfl, _, rfl, _, rfl, t, way, cell, fs, ps, rfl, hT, f1, f7, p1, p5, fun tm fs' ps' H1 e1 hTm hM => ?_⟩
        have hno := many_tell hM
        obtain ⟨zs, hz, hf', hp', hlen⟩ := many_rows hynm hf hp f7 p5 hM
        have hgF' : ∀ r ∈ fs', r.length ≤ 4 ∧ r ≠ [] ∧ ∀ y ∈ r, y.length ≤ 8 ∧ Ok y := fun r hr' => row_good hz (.inl (hf' r hr'))
        have hgP' : ∀ r ∈ ps', r.length ≤ 4 ∧ r ≠ [] ∧ ∀ y ∈ r, y.length ≤ 8 ∧ Ok y := fun r hr' => row_good hz (.inr (hp' r hr'))
        have sF' : ShortRows fs' := ⟨by lia, fun r hr' => ⟨by have := (hgF' r hr').1; lia, fun y hy => Nat.le_trans ((hgF' r hr').2.2 y hy).1 (by decide)⟩⟩
        have sP' : ShortRows ps' := ⟨by lia, fun r hr' => ⟨by have := (hgP' r hr').1; lia, fun y hy => Nat.le_trans ((hgP' r hr').2.2 y hy).1 (by decide)⟩⟩
        have shT : ShortTell [fs', ps'] := ⟨by simp, fun rs hrs => by
          simp only [List.mem_cons, List.not_mem_nil, or_false] at hrs
          rcases hrs with rfl | rfl
          · exact sF'.long
          · exact sP'.long⟩
        have h3' : ∀ r ∈ fs', r.length = 3 := fun r hr' => by obtain ⟨k, u, v, rfl, _⟩ := hf' r hr'; rfl
        have hsne : showRows fs' ps' ≠ [] := fun z => by
          have : (showRows fs' ps').length = 0 := by rw [z]; rfl
          unfold showRows at this
          rw [List.length_append, List.length_map, List.length_map] at this
          rcases hM with ⟨h1, _⟩ | ⟨h1, _⟩ | ⟨rfl, rfl⟩ <;> lia
        have eso : showOf fs' ps' = Txt.join sepC (showRows fs' ps') := by unfold showOf; rw [if_neg hsne]
        refine ⟨_, rfl, .ref tm, false, false, rfl, .inl ⟨rfl, tm, [fs', ps'], rfl, hTm, shT, hno.symm⟩, fun H2 e2 => ?_⟩
        refine ⟨_, rfl, iteT ?_⟩
        refine ⟨_, rfl, tm, fs', ps', rfl, hTm.same e2, sF', sP', h3', fun H3 e3 => ?_⟩
        refine ⟨.str (Txt.join sepC (showRows fs' ps')), true, false, rfl, .inr ⟨rfl, _, rfl, Nat.le_trans (showRows_len hz hf' hp') hlen, ?_⟩, fun H4 e4 => ?_⟩
        · rw [← eso, taken_show hz hf' hp', hno]
        · exact go _ _ _ _ _ _ H4 (e1.trans (e2.trans (e3.trans e4)))
      refine ⟨_, rfl, _, _, rfl, rfl, _, rfl, iteB (fun _ => ?_) (fun _ => ?_)⟩
      · -- a row that is bent
        refine ⟨_, rfl, _, rfl, _, rfl, _, rfl, l, _, 0, .str x0, rfl, rfl, SqL.of hL, h0, t, way, cell, x0, fs, ps, rfl, hT, f1, f7, p1, p5, fun r hr' => ?_, fun tb fs' ps' H1 e1 hTb hB => ?_⟩
        · rcases List.mem_append.mp hr' with h | h
          · exact ⟨List.length_pos_iff.mpr (hgF r h).2.1, (hgF r h).1⟩
          · exact ⟨List.length_pos_iff.mpr (hgP r h).2.1, (hgP r h).1⟩
        have shT : ShortTell [fs', ps'] := by
          rcases hB with ⟨j, hj, r', hr', rfl, rfl⟩ | ⟨j, hj, r', hr', rfl, rfl⟩
          · exact short2 (long_set sF.long (bent_long (hgF _ (List.getElem_mem hj)).1 (fun y hy => ((hgF _ (List.getElem_mem hj)).2.2 y hy).1) hs0.1 hr') j) sP.long
          · exact short2 sF.long (long_set sP.long (bent_long (hgP _ (List.getElem_mem hj)).1 (fun y hy => ((hgP _ (List.getElem_mem hj)).2.2 y hy).1) hs0.1 hr') j)
        exact ⟨.ref tb, false, false, rfl, .inl ⟨rfl, tb, [fs', ps'], rfl, hTb, shT, (bent_tell hynm hf hp hB).symm⟩, fun H2 e2 => go _ _ _ _ _ _ H2 (e1.trans e2)⟩
      · -- a text that is spoilt
        have hyes : isTelling [fs, ps] = true := tell_yes hynm hylen (by lia) (by lia) hf hp
        obtain ⟨r0, fr, rfl⟩ : ∃ r0 fr, fs = r0 :: fr := by
          cases fs with
          | nil => simp at f1
          | cons x l => exact ⟨x, l, rfl⟩
        have hsne : showRows (r0 :: fr) ps ≠ [] := by unfold showRows; simp
        have eso : showOf (r0 :: fr) ps = Txt.join sepC (showRows (r0 :: fr) ps) := by unfold showOf; rw [if_neg hsne]
        have hxl : (showOf (r0 :: fr) ps).length ≤ 440 := by rw [eso]; have := showRows_len hynm hf hp; lia
        have h32 : 32 ∈ (showOf (r0 :: fr) ps).cps.toList := by
          rw [eso]
          refine head_in (a := showFact r0) ?_
          unfold showFact
          exact blank_in
        have hno : ∀ p ∈ showRows (r0 :: fr) ps, ¬ 44 ∈ p.cps.toList := fun p hpp => by
          rcases List.mem_append.mp hpp with h | h
          · obtain ⟨r, hr', rfl⟩ := List.mem_map.mp h
            have hcl := clean_fact hynm (hf r hr')
            obtain ⟨k, u, v, rfl, _⟩ := hf r hr'
            exact no_comma (r := [u, k, v]) fun y hy => hcl y (by simp only [List.mem_cons, List.not_mem_nil, or_false] at hy ⊢; rcases hy with h | h | h <;> simp [h])
          · obtain ⟨r, hr', rfl⟩ := List.mem_map.mp h
            exact no_comma (clean_part hynm (hp r hr'))
        have hgl : (showOf (r0 :: fr) ps).cps.toList = Spl.glue sepC.cps.toList ((showRows (r0 :: fr) ps).map fun p => p.cps.toList) := by
          rw [eso, show Txt.join sepC (showRows (r0 :: fr) ps) = Str.join sepC (showRows (r0 :: fr) ps) from StrLaws.glued_eq_join sepC _, Spl.join_glue]
        have htk : taken (showOf (r0 :: fr) ps) = true := by rw [taken_show hynm hf hp]; exact hyes
        refine ⟨_, rfl, _, rfl, _, rfl, _, rfl, l, _, 0, .str x0, rfl, rfl, SqL.of hL, h0, showOf (r0 :: fr) ps, way, cell, x0, rfl, hxl, hs0.1, h32, fun y H1 e1 hyl hB => ?_⟩
        exact ⟨.str y, true, false, rfl, .inr ⟨rfl, y, rfl, hyl, (bent_text hsne hno hgl htk hn0 hB).symm⟩, fun H2 e2 => go _ _ _ _ _ _ H2 (e1.trans e2)⟩))
    (qb_one (qs_ret (qe_and (qv 10) (qe_and (qe_cmpR op_isN (qe_call GK hr5 rfl cK.name cK.keep cK.bind .nil passN (qa_nm (qv 2) qa_nil)) qe_non (nomark _)) (qe_one (qe_cmpR (op_eqD hu) (qe_call GR hr6 rfl cR.name cR.keep cR.bind .nil passN (qa_nm (qv 3) qa_nil)) (qv 2) (nomark _))))))))))))), ?_⟩
  refine ⟨_, rfl, a, ns, 0, rfl, hS, _, rfl, fun p xs H1 e1 hp0 hp1 hl8 hnm => ?_⟩
  obtain ⟨n, hn1, hn8, en⟩ : ∃ n : Nat, 1 ≤ n ∧ n ≤ 7 ∧ 1 + cellAt ns 1 % 7 = (n : Int) := by
    have h0 := Int.emod_nonneg (cellAt ns 1) (show (7 : Int) ≠ 0 by decide)
    have h1 := Int.emod_lt_of_pos (cellAt ns 1) (show (0 : Int) < 7 by decide)
    exact ⟨(1 + cellAt ns 1 % 7).toNat, by lia, by lia, by lia⟩
  refine ⟨_, rfl, a, ns, 1, rfl, e1.seq hS, _, _, rfl, rfl, (show (0 : Int) < 7 by decide), _, _, rfl, rfl, _, rfl, p, _, rfl, SqL.of hp1, fun l hl => ?_⟩
  have ec : cutV (xs.map V.str) none (some (1 + cellAt ns 1 % 7)) = (xs.take n).map V.str := by rw [en]; exact cut_take xs n (by lia)
  rw [ec]
  generalize hys : xs.take n = ys
  have hylen : ys.length ≤ 8 := by rw [← hys, List.length_take]; lia
  have hyne : ys ≠ [] := fun z => by
    have : (xs.take n).length = 0 := by rw [hys, z]; rfl
    rw [List.length_take] at this; lia
  have hynm : ∀ y ∈ ys, isName y = true := fun y hy => hnm y (List.mem_of_mem_take (hys ▸ hy))
  have sa := same_new hl (.lst (ys.map V.str))
  obtain ⟨ms, em⟩ := cut_ints ns (some 4) none
  refine ⟨_, rfl, _, rfl, a, _, rfl, sa.seq (e1.seq hS), fun c hc => ?_⟩
  rw [em]
  have sb := same_new hc (.lst (ms.map V.int))
  refine ⟨_, rfl, c, l, ms, ys, rfl, SqL.of upd_same, SqL.of (sb _ _ upd_same), ⟨hyne, hylen⟩, fun t fa pa fs ps H2 N2 f1 p1 lf lp hf hp => ?_⟩
  have hgF : ∀ r ∈ fs, r.length ≤ 4 ∧ r ≠ [] ∧ ∀ y ∈ r, y.length ≤ 8 ∧ Ok y := fun r hr' => row_good hynm (.inl (hf r hr'))
  have hgP : ∀ r ∈ ps, r.length ≤ 4 ∧ r ≠ [] ∧ ∀ y ∈ r, y.length ≤ 8 ∧ Ok y := fun r hr' => row_good hynm (.inr (hp r hr'))
  have sF : ShortRows fs := ⟨by lia, fun r hr' => ⟨by have := (hgF r hr').1; lia, fun y hy => Nat.le_trans ((hgF r hr').2.2 y hy).1 (by decide)⟩⟩
  have sP : ShortRows ps := ⟨by lia, fun r hr' => ⟨by have := (hgP r hr').1; lia, fun y hy => Nat.le_trans ((hgP r hr').2.2 y hy).1 (by decide)⟩⟩
  have hok : ∀ r ∈ fs ++ ps, ∀ y ∈ r, Ok y := fun r hr' y hy => by
    rcases List.mem_append.mp hr' with h | h
    · exact ((hgF r h).2.2 y hy).2
    · exact ((hgP r h).2.2 y hy).2
  have h3 : ∀ r ∈ fs, r.length = 3 := fun r hr' => by obtain ⟨k, u, v, rfl, _⟩ := hf r hr'; rfl
  have hyes : isTelling [fs, ps] = true := tell_yes hynm hylen (by lia) (by lia) hf hp
  have shT : ShortTell [fs, ps] := ⟨by simp, fun rs hrs => by
    simp only [List.mem_cons, List.not_mem_nil, or_false] at hrs
    rcases hrs with rfl | rfl
    · exact sF.long
    · exact sP.long⟩
  have hxl : (showOf fs ps).length ≤ 900 := by
    unfold showOf
    split
    · decide +kernel
    · have := showRows_len hynm hf hp; lia
  obtain ⟨rd1, rd2, rd3, rd4⟩ := read_ok hxl
  have hpc := pieces_show hynm hf hp
  have hrd := read_show hynm hf hp
  have eF : readFacts (pieces (showOf fs ps)) = fs := by rw [hpc]; exact hrd.1
  have eP : readParts (pieces (showOf fs ps)) = ps := by rw [hpc]; exact hrd.2
  have TT := N2.tell
  have okT := eqOk_tell hok
  refine ⟨_, rfl, t, fs, ps, rfl, TT, sF, sP, h3, fun H3 e3 => ?_⟩
  have e3' := e3
  refine ⟨_, rfl, t, [fs, ps], rfl, TT.same e3, shT, fun H4 e4 => iteB (fun _ => ?_) (fun z => by rw [hyes] at z; cases z)⟩
  refine ⟨rfl, _, rfl, iteF ?_⟩
  have e24 := e3.trans e4
  refine ⟨_, rfl, showOf fs ps, rfl, rd1, rd2, rd3, rd4, fun _ t5 fa5 pa5 H5 N5 => ?_, fun z => by rw [eF, eP, hyes] at z; cases z⟩
  rw [eF, eP] at N5
  have e25 := e24.trans N5.same
  refine ⟨_, rfl, _, _, N5.tell.dp, (TT.same e25).dp, okT, okT, _, rfl, iteN (SeqAt.eqv_refl _ okT.1) ?_⟩
  have eH5 : Same H H5 := e1.trans (sa.trans (sb.trans (N2.same.trans e25)))
  refine ⟨_, rfl, a, ns, 2, rfl, eH5.seq hS, _, _, rfl, rfl, (show (0 : Int) < 18 by decide), ?_⟩
  refine ⟨_, rfl, a, ns, 3, rfl, eH5.seq hS, ?_⟩
  intro τ eτ
  obtain rfl : τ = [some (.ref a), some (.ref l), some (.ref t), some (.str (showOf fs ps)), some (.int (cellAt ns 2 % 18)), some (.int (cellAt ns 3)), none, none, none, none, none, none, none] := eτ
  have hL5 := e25 _ _ (N2.same _ _ (sb _ _ (show (upd H1 l (.lst (ys.map V.str))) l = _ from upd_same)))
  refine ⟨a, l, t, _, _, ys, fs, ps, rfl, hL5, hyne, hynm, hylen, TT.same e25, f1, lf, p1, lp, hf, hp, fun z6 z7 z8 z9 z11 z12 H6 e6 => ?_⟩
  have e26 := e25.trans e6
  refine ⟨_, rfl, _, rfl, iteT ?_⟩
  refine ⟨_, rfl, t, [fs, ps], rfl, TT.same e26, shT, fun H7 e7 => iteB (fun _ => ?_) (fun z => by rw [hyes] at z; cases z)⟩
  refine ⟨rfl, _, rfl, iteT ?_⟩
  have e27 := e26.trans e7
  refine ⟨_, rfl, showOf fs ps, rfl, rd1, rd2, rd3, rd4, fun _ t8 fa8 pa8 H8 N8 => ?_, fun z => by rw [eF, eP, hyes] at z; cases z⟩
  rw [eF, eP] at N8
  refine ⟨_, rfl, _, _, N8.tell.dp, (TT.same (e27.trans N8.same)).dp, okT, okT, ?_⟩
  rw [SeqAt.eqv_refl _ okT.1]
  exact q _
end
end K4
namespace K4
open PySem PySem.Spec L2 Mir
theorem glob_str {K : PySem.W.Frag} {h : Heap} {mg : Str → Option Value} {x y z : Str} {t : Tok} (X : K.In h) (G : h.Ns mainGlobals mg) (e : PySem.W.nsIn K mainGlobals x = some (some (.str y t))) (hy : y = z) : Glob mg x (.str z) := ⟨_, PySem.W.mg_of X G e, t, by rw [hy]⟩
theorem glob_int {K : PySem.W.Frag} {h : Heap} {mg : Str → Option Value} {x : Str} {i j : Int} {t : Tok} (X : K.In h) (G : h.Ns mainGlobals mg) (e : PySem.W.nsIn K mainGlobals x = some (some (.int i t))) (hj : i = j) : Glob mg x (.int j) := ⟨_, PySem.W.mg_of X G e, t, by rw [hj]⟩
theorem glob_ref {K : PySem.W.Frag} {h : Heap} {mg : Str → Option Value} {x : Str} {a : Addr} (X : K.In h) (G : h.Ns mainGlobals mg) (e : PySem.W.nsIn K mainGlobals x = some (some (.ref a))) : Glob mg x (.ref a) := ⟨_, PySem.W.mg_of X G e, rfl⟩
theorem rel_find3 {es : Array DictEntry} {k1 k2 k3 : Str} {v1 v2 v3 : V} {t1 t2 t3 : Tok} {h1 h2 h3 : Int} {u1 u2 u3 : Value} (he : es.toList = [⟨h1, .str k1 t1, u1⟩, ⟨h2, .str k2 t2, u2⟩, ⟨h3, .str k3 t3, u3⟩]) (r1 : RelV v1 u1) (r2 : RelV v2 u2) (r3 : RelV v3 u3) (x : Str) :
    RelO (([(k1, v1), (k2, v2), (k3, v3)] : List (Str × V)).lookup x) (findBy Value.isStrOf es x) := by
  unfold findBy
  rw [← Array.find?_toList, he]
  have b : ∀ y t, Value.isStrOf x (.str y t) = (x == y) := fun y t => by
    show (y == x) = (x == y)
    exact Bool.eq_iff_iff.mpr ⟨fun z => beq_iff_eq.mpr (beq_iff_eq.mp z).symm, fun z => beq_iff_eq.mpr (beq_iff_eq.mp z).symm⟩
  simp only [List.find?_cons, b, List.lookup_cons]
  cases x == k1 with
  | true => exact r1
  | false =>
    cases x == k2 with
    | true => exact r2
    | false =>
      cases x == k3 with
      | true => exact r3
      | false => exact trivial
theorem us1 {us : List Value} (h : us.length = 1) : ∃ a, us = [a] := by
  cases us with
  | nil => cases h
  | cons a us =>
  cases us with
  | nil => exact ⟨a, rfl⟩
  | cons z us => simp at h
theorem us2 {us : List Value} (h : us.length = 2) : ∃ a b, us = [a, b] := by
  cases us with
  | nil => cases h
  | cons a us =>
  cases us with
  | nil => cases h
  | cons b us =>
  cases us with
  | nil => exact ⟨a, b, rfl⟩
  | cons z us => simp at h
theorem us3 {us : List Value} (h : us.length = 3) : ∃ a b c, us = [a, b, c] := by
  cases us with
  | nil => cases h
  | cons a us =>
  cases us with
  | nil => cases h
  | cons b us =>
  cases us with
  | nil => cases h
  | cons c us =>
  cases us with
  | nil => exact ⟨a, b, c, rfl⟩
  | cons z us => simp at h
theorem us4 {us : List Value} (h : us.length = 4) : ∃ a b c d, us = [a, b, c, d] := by
  cases us with
  | nil => cases h
  | cons a us =>
  cases us with
  | nil => cases h
  | cons b us =>
  cases us with
  | nil => cases h
  | cons c us =>
  cases us with
  | nil => cases h
  | cons d us =>
  cases us with
  | nil => exact ⟨a, b, c, d, rfl⟩
  | cons z us => simp at h
theorem all_mk {l : PySem.W.OpenLaw} {w : World} {K : PySem.W.Frag} {h : Heap} {mg : Str → Option Value} {fa f1 f2 f3 f4 f5 f6 f7 f8 f9 f10 f11 f12 f13 f14 f15 f16 f17 f18 f19 f20 f21 f22 f23 f24 f25 f26 f27 f28 : Addr} (X : K.In h) (G : h.Ns mainGlobals mg) (hfa : mg "law" = some (.ref fa))
    {od1 an1 od2 an2 od3 an3 od4 an4 od5 an5 od6 an6 od7 an7 od8 an8 od9 an9 od10 an10 od11 an11 od12 an12 od13 an13 od14 an14 od15 an15 od16 an16 od17 an17 od18 an18 od19 an19 od20 an20 od21 an21 od22 an22 od23 an23 od24 an24 od25 an25 od26 an26 od27 an27 od28 an28 : Option Addr} {sl1 sl2 sl3 sl4 sl5 sl6 sl7 sl8 sl9 sl10 sl11 sl12 sl13 sl14 sl15 sl16 sl17 sl18 sl19 sl20 sl21 sl22 sl23 sl24 sl25 sl26 sl27 sl28 : Array (Option Value)} {oc1 kV1 dc1 pm1 cd1 ct1 oc2 kV2 dc2 pm2 cd2 ct2 oc3 kV3 dc3 pm3 cd3 ct3 oc4 kV4 dc4 pm4 cd4 ct4 oc5 kV5 dc5 pm5 cd5 ct5 oc6 kV6 dc6 pm6 cd6 ct6 oc7 kV7 dc7 pm7 cd7 ct7 oc8 kV8 dc8 pm8 cd8 ct8 oc9 kV9 dc9 pm9 cd9 ct9 oc10 kV10 dc10 pm10 cd10 ct10 oc11 kV11 dc11 pm11 cd11 ct11 oc12 kV12 dc12 pm12 cd12 ct12 oc13 kV13 dc13 pm13 cd13 ct13 oc14 kV14 dc14 pm14 cd14 ct14 oc15 kV15 dc15 pm15 cd15 ct15 oc16 kV16 dc16 pm16 cd16 ct16 oc17 kV17 dc17 pm17 cd17 ct17 oc18 kV18 dc18 pm18 cd18 ct18 oc19 kV19 dc19 pm19 cd19 ct19 oc20 kV20 dc20 pm20 cd20 ct20 oc21 kV21 dc21 pm21 cd21 ct21 oc22 kV22 dc22 pm22 cd22 ct22 oc23 kV23 dc23 pm23 cd23 ct23 oc24 kV24 dc24 pm24 cd24 ct24 oc25 kV25 dc25 pm25 cd25 ct25 oc26 kV26 dc26 pm26 cd26 ct26 oc27 kV27 dc27 pm27 cd27 ct27 oc28 kV28 dc28 pm28 cd28 ct28 : Value}
    (a1 : PySem.W.nsIn K mainGlobals "is_name" = some (some (.ref f1))) (l1 : K.lookup f1 = some ⟨oc1, od1, .func (PySem.W.fnOf "is_name" "is_name" (defArgs sIsName) (defBody sIsName) (defScope sIsName) .none kV1 dc1 pm1 an1 cd1 ct1), sl1⟩) (c1 : PySem.W.codeIn K cd1 "is_name" = true) (k1 : PySem.W.keepIn K (.ref f1) = true)
    (a2 : PySem.W.nsIn K mainGlobals "is_value" = some (some (.ref f2))) (l2 : K.lookup f2 = some ⟨oc2, od2, .func (PySem.W.fnOf "is_value" "is_value" (defArgs sIsValue) (defBody sIsValue) (defScope sIsValue) .none kV2 dc2 pm2 an2 cd2 ct2), sl2⟩) (c2 : PySem.W.codeIn K cd2 "is_value" = true) (k2 : PySem.W.keepIn K (.ref f2) = true)
    (a3 : PySem.W.nsIn K mainGlobals "is_fact" = some (some (.ref f3))) (l3 : K.lookup f3 = some ⟨oc3, od3, .func (PySem.W.fnOf "is_fact" "is_fact" (defArgs sIsFact) (defBody sIsFact) (defScope sIsFact) .none kV3 dc3 pm3 an3 cd3 ct3), sl3⟩) (c3 : PySem.W.codeIn K cd3 "is_fact" = true) (k3 : PySem.W.keepIn K (.ref f3) = true)
    (a4 : PySem.W.nsIn K mainGlobals "is_part" = some (some (.ref f4))) (l4 : K.lookup f4 = some ⟨oc4, od4, .func (PySem.W.fnOf "is_part" "is_part" (defArgs sIsPart) (defBody sIsPart) (defScope sIsPart) .none kV4 dc4 pm4 an4 cd4 ct4), sl4⟩) (c4 : PySem.W.codeIn K cd4 "is_part" = true) (k4 : PySem.W.keepIn K (.ref f4) = true)
    (a5 : PySem.W.nsIn K mainGlobals "are_rows" = some (some (.ref f5))) (l5 : K.lookup f5 = some ⟨oc5, od5, .func (PySem.W.fnOf "are_rows" "are_rows" (defArgs sAreRows) (defBody sAreRows) (defScope sAreRows) .none kV5 dc5 pm5 an5 cd5 ct5), sl5⟩) (c5 : PySem.W.codeIn K cd5 "are_rows" = true) (k5 : PySem.W.keepIn K (.ref f5) = true)
    (a6 : PySem.W.nsIn K mainGlobals "is_telling" = some (some (.ref f6))) (l6 : K.lookup f6 = some ⟨oc6, od6, .func (PySem.W.fnOf "is_telling" "is_telling" (defArgs sIsTelling) (defBody sIsTelling) (defScope sIsTelling) .none kV6 dc6 pm6 an6 cd6 ct6), sl6⟩) (c6 : PySem.W.codeIn K cd6 "is_telling" = true) (k6 : PySem.W.keepIn K (.ref f6) = true)
    (a7 : PySem.W.nsIn K mainGlobals "check_telling" = some (some (.ref f7))) (l7 : K.lookup f7 = some ⟨oc7, od7, .func (PySem.W.fnOf "check_telling" "check_telling" (defArgs sCheck) (defBody sCheck) (defScope sCheck) .none kV7 dc7 pm7 an7 cd7 ct7), sl7⟩) (c7 : PySem.W.codeIn K cd7 "check_telling" = true) (k7 : PySem.W.keepIn K (.ref f7) = true)
    (a8 : PySem.W.nsIn K mainGlobals "names_of" = some (some (.ref f8))) (l8 : K.lookup f8 = some ⟨oc8, od8, .func (PySem.W.fnOf "names_of" "names_of" (defArgs sNamesOf) (defBody sNamesOf) (defScope sNamesOf) .none kV8 dc8 pm8 an8 cd8 ct8), sl8⟩) (c8 : PySem.W.codeIn K cd8 "names_of" = true) (k8 : PySem.W.keepIn K (.ref f8) = true)
    (a9 : PySem.W.nsIn K mainGlobals "writes_fact" = some (some (.ref f9))) (l9 : K.lookup f9 = some ⟨oc9, od9, .func (PySem.W.fnOf "writes_fact" "writes_fact" (defArgs sWritesFact) (defBody sWritesFact) (defScope sWritesFact) .none kV9 dc9 pm9 an9 cd9 ct9), sl9⟩) (c9 : PySem.W.codeIn K cd9 "writes_fact" = true) (k9 : PySem.W.keepIn K (.ref f9) = true)
    (a10 : PySem.W.nsIn K mainGlobals "read_telling" = some (some (.ref f10))) (l10 : K.lookup f10 = some ⟨oc10, od10, .func (PySem.W.fnOf "read_telling" "read_telling" (defArgs sRead) (defBody sRead) (defScope sRead) .none kV10 dc10 pm10 an10 cd10 ct10), sl10⟩) (c10 : PySem.W.codeIn K cd10 "read_telling" = true) (k10 : PySem.W.keepIn K (.ref f10) = true)
    (a11 : PySem.W.nsIn K mainGlobals "show_fact" = some (some (.ref f11))) (l11 : K.lookup f11 = some ⟨oc11, od11, .func (PySem.W.fnOf "show_fact" "show_fact" (defArgs sShowFact) (defBody sShowFact) (defScope sShowFact) .none kV11 dc11 pm11 an11 cd11 ct11), sl11⟩) (c11 : PySem.W.codeIn K cd11 "show_fact" = true) (k11 : PySem.W.keepIn K (.ref f11) = true)
    (a12 : PySem.W.nsIn K mainGlobals "show_telling" = some (some (.ref f12))) (l12 : K.lookup f12 = some ⟨oc12, od12, .func (PySem.W.fnOf "show_telling" "show_telling" (defArgs sShow) (defBody sShow) (defScope sShow) .none kV12 dc12 pm12 an12 cd12 ct12), sl12⟩) (c12 : PySem.W.codeIn K cd12 "show_telling" = true) (k12 : PySem.W.keepIn K (.ref f12) = true)
    (a13 : PySem.W.nsIn K mainGlobals "_law_cell_at" = some (some (.ref f13))) (l13 : K.lookup f13 = some ⟨oc13, od13, .func (PySem.W.fnOf "_law_cell_at" "_law_cell_at" (defArgs sCell) (defBody sCell) (defScope sCell) .none kV13 dc13 pm13 an13 cd13 ct13), sl13⟩) (c13 : PySem.W.codeIn K cd13 "_law_cell_at" = true) (k13 : PySem.W.keepIn K (.ref f13) = true)
    (a14 : PySem.W.nsIn K mainGlobals "_law_take" = some (some (.ref f14))) (l14 : K.lookup f14 = some ⟨oc14, od14, .func (PySem.W.fnOf "_law_take" "_law_take" (defArgs sTake) (defBody sTake) (defScope sTake) .none kV14 dc14 pm14 an14 cd14 ct14), sl14⟩) (c14 : PySem.W.codeIn K cd14 "_law_take" = true) (k14 : PySem.W.keepIn K (.ref f14) = true)
    (a15 : PySem.W.nsIn K mainGlobals "_law_any_names" = some (some (.ref f15))) (l15 : K.lookup f15 = some ⟨oc15, od15, .func (PySem.W.fnOf "_law_any_names" "_law_any_names" (defArgs sAnyNames) (defBody sAnyNames) (defScope sAnyNames) .none kV15 dc15 pm15 an15 cd15 ct15), sl15⟩) (c15 : PySem.W.codeIn K cd15 "_law_any_names" = true) (k15 : PySem.W.keepIn K (.ref f15) = true)
    (a16 : PySem.W.nsIn K mainGlobals "_law_names" = some (some (.ref f16))) (l16 : K.lookup f16 = some ⟨oc16, od16, .func (PySem.W.fnOf "_law_names" "_law_names" (defArgs sNames) (defBody sNames) (defScope sNames) .none kV16 dc16 pm16 an16 cd16 ct16), sl16⟩) (c16 : PySem.W.codeIn K cd16 "_law_names" = true) (k16 : PySem.W.keepIn K (.ref f16) = true)
    (a17 : PySem.W.nsIn K mainGlobals "_law_value" = some (some (.ref f17))) (l17 : K.lookup f17 = some ⟨oc17, od17, .func (PySem.W.fnOf "_law_value" "_law_value" (defArgs sValue2) (defBody sValue2) (defScope sValue2) .none kV17 dc17 pm17 an17 cd17 ct17), sl17⟩) (c17 : PySem.W.codeIn K cd17 "_law_value" = true) (k17 : PySem.W.keepIn K (.ref f17) = true)
    (a18 : PySem.W.nsIn K mainGlobals "_law_field" = some (some (.ref f18))) (l18 : K.lookup f18 = some ⟨oc18, od18, .func (PySem.W.fnOf "_law_field" "_law_field" (defArgs sField) (defBody sField) (defScope sField) .none kV18 dc18 pm18 an18 cd18 ct18), sl18⟩) (c18 : PySem.W.codeIn K cd18 "_law_field" = true) (k18 : PySem.W.keepIn K (.ref f18) = true)
    (a19 : PySem.W.nsIn K mainGlobals "_law_fact" = some (some (.ref f19))) (l19 : K.lookup f19 = some ⟨oc19, od19, .func (PySem.W.fnOf "_law_fact" "_law_fact" (defArgs sFact2) (defBody sFact2) (defScope sFact2) .none kV19 dc19 pm19 an19 cd19 ct19), sl19⟩) (c19 : PySem.W.codeIn K cd19 "_law_fact" = true) (k19 : PySem.W.keepIn K (.ref f19) = true)
    (a20 : PySem.W.nsIn K mainGlobals "_law_part" = some (some (.ref f20))) (l20 : K.lookup f20 = some ⟨oc20, od20, .func (PySem.W.fnOf "_law_part" "_law_part" (defArgs sPart2) (defBody sPart2) (defScope sPart2) .none kV20 dc20 pm20 an20 cd20 ct20), sl20⟩) (c20 : PySem.W.codeIn K cd20 "_law_part" = true) (k20 : PySem.W.keepIn K (.ref f20) = true)
    (a21 : PySem.W.nsIn K mainGlobals "_law_telling" = some (some (.ref f21))) (l21 : K.lookup f21 = some ⟨oc21, od21, .func (PySem.W.fnOf "_law_telling" "_law_telling" (defArgs sTell2) (defBody sTell2) (defScope sTell2) .none kV21 dc21 pm21 an21 cd21 ct21), sl21⟩) (c21 : PySem.W.codeIn K cd21 "_law_telling" = true) (k21 : PySem.W.keepIn K (.ref f21) = true)
    (a22 : PySem.W.nsIn K mainGlobals "_law_many" = some (some (.ref f22))) (l22 : K.lookup f22 = some ⟨oc22, od22, .func (PySem.W.fnOf "_law_many" "_law_many" (defArgs sMany) (defBody sMany) (defScope sMany) .none kV22 dc22 pm22 an22 cd22 ct22), sl22⟩) (c22 : PySem.W.codeIn K cd22 "_law_many" = true) (k22 : PySem.W.keepIn K (.ref f22) = true)
    (a23 : PySem.W.nsIn K mainGlobals "_law_row" = some (some (.ref f23))) (l23 : K.lookup f23 = some ⟨oc23, od23, .func (PySem.W.fnOf "_law_row" "_law_row" (defArgs sRowL) (defBody sRowL) (defScope sRowL) .none kV23 dc23 pm23 an23 cd23 ct23), sl23⟩) (c23 : PySem.W.codeIn K cd23 "_law_row" = true) (k23 : PySem.W.keepIn K (.ref f23) = true)
    (a24 : PySem.W.nsIn K mainGlobals "_law_bent" = some (some (.ref f24))) (l24 : K.lookup f24 = some ⟨oc24, od24, .func (PySem.W.fnOf "_law_bent" "_law_bent" (defArgs sBent) (defBody sBent) (defScope sBent) .none kV24 dc24 pm24 an24 cd24 ct24), sl24⟩) (c24 : PySem.W.codeIn K cd24 "_law_bent" = true) (k24 : PySem.W.keepIn K (.ref f24) = true)
    (a25 : PySem.W.nsIn K mainGlobals "_law_text" = some (some (.ref f25))) (l25 : K.lookup f25 = some ⟨oc25, od25, .func (PySem.W.fnOf "_law_text" "_law_text" (defArgs sText) (defBody sText) (defScope sText) .none kV25 dc25 pm25 an25 cd25 ct25), sl25⟩) (c25 : PySem.W.codeIn K cd25 "_law_text" = true) (k25 : PySem.W.keepIn K (.ref f25) = true)
    (a26 : PySem.W.nsIn K mainGlobals "_law_written" = some (some (.ref f26))) (l26 : K.lookup f26 = some ⟨oc26, od26, .func (PySem.W.fnOf "_law_written" "_law_written" (defArgs sWritten) (defBody sWritten) (defScope sWritten) .none kV26 dc26 pm26 an26 cd26 ct26), sl26⟩) (c26 : PySem.W.codeIn K cd26 "_law_written" = true) (k26 : PySem.W.keepIn K (.ref f26) = true)
    (a27 : PySem.W.nsIn K mainGlobals "_law_refused" = some (some (.ref f27))) (l27 : K.lookup f27 = some ⟨oc27, od27, .func (PySem.W.fnOf "_law_refused" "_law_refused" (defArgs sRefused) (defBody sRefused) (defScope sRefused) .none kV27 dc27 pm27 an27 cd27 ct27), sl27⟩) (c27 : PySem.W.codeIn K cd27 "_law_refused" = true) (k27 : PySem.W.keepIn K (.ref f27) = true)
    (a28 : PySem.W.nsIn K mainGlobals "law" = some (some (.ref f28))) (l28 : K.lookup f28 = some ⟨oc28, od28, .func (PySem.W.fnOf "law" "law" (defArgs sLaw) (defBody sLaw) (defScope sLaw) .none kV28 dc28 pm28 an28 cd28 ct28), sl28⟩) (c28 : PySem.W.codeIn K cd28 "law" = true) (k28 : PySem.W.keepIn K (.ref f28) = true)
    (z1 : PySem.W.nsIn K mainGlobals "len" = some none)
    (z2 : PySem.W.nsIn K mainGlobals "all" = some none)
    (z3 : PySem.W.nsIn K mainGlobals "isinstance" = some none)
    (z4 : PySem.W.nsIn K mainGlobals "list" = some none)
    (z5 : PySem.W.nsIn K mainGlobals "tuple" = some none)
    (z6 : PySem.W.nsIn K mainGlobals "str" = some none)
    (z7 : PySem.W.nsIn K mainGlobals "sorted" = some none)
    (z8 : PySem.W.nsIn K mainGlobals "set" = some none)
    (z9 : PySem.W.nsIn K mainGlobals "range" = some none)
    (z10 : PySem.W.nsIn K mainGlobals "ValueError" = some none)
    {yL yF yO : Str} {tL tF tO : Tok} (gO : PySem.W.nsIn K mainGlobals "NOTHING" = some (some (.str yO tO))) (eO : yO = nothing) (gL : PySem.W.nsIn K mainGlobals "LETTERS" = some (some (.str yL tL))) (eL : yL = Mir.letters) (gF : PySem.W.nsIn K mainGlobals "FIGURES" = some (some (.str yF tF))) (eF : yF = Mir.figures)
    {j1 : Int} {tj1 : Tok} (i1 : PySem.W.nsIn K mainGlobals "FACT_LENGTH" = some (some (.int j1 tj1))) (ei1 : j1 = 3)
    {j2 : Int} {tj2 : Tok} (i2 : PySem.W.nsIn K mainGlobals "MOST_SIGNS" = some (some (.int j2 tj2))) (ei2 : j2 = 8)
    {j3 : Int} {tj3 : Tok} (i3 : PySem.W.nsIn K mainGlobals "MOST_FACTS" = some (some (.int j3 tj3))) (ei3 : j3 = 8)
    {j4 : Int} {tj4 : Tok} (i4 : PySem.W.nsIn K mainGlobals "MOST_PARTS" = some (some (.int j4 tj4))) (ei4 : j4 = 6)
    {j5 : Int} {tj5 : Tok} (i5 : PySem.W.nsIn K mainGlobals "MOST_NAMES" = some (some (.int j5 tj5))) (ei5 : j5 = 8)
    {aN aW aP : Addr} {oN oW : Obj} {itN itW : Array Value} {nN nW nP : Nat} {es : Array DictEntry}
    (gN : PySem.W.nsIn K mainGlobals "NO_NAMES" = some (some (.ref aN))) (lN : K.lookup aN = some oN) (cN : oN.cls = .type "tuple") (dN : oN.data = .seq itN nN) (sN : itN.size ≤ 100) (vN : Vals (Mir.noNames.map V.str) itN.toList)
    (gW : PySem.W.nsIn K mainGlobals "FACT_WORDS" = some (some (.ref aW))) (lW : K.lookup aW = some oW) (cW : oW.cls = .type "tuple") (dW : oW.data = .seq itW nW) (sW : itW.size ≤ 100) (vW : Vals (([("is" : Str), "not"] : List Str).map V.str) itW.toList)
    (gP : PySem.W.nsIn K mainGlobals "PART_LENGTHS" = some (some (.ref aP))) (lP : K.lookup aP = some ⟨.type "dict", none, .dict es nP, #[]⟩) (hP : PySem.W.KeysLit w.params es.toList) (mP : (aP == sysModules) = false) (rP : ∀ x, RelO (([("cell", .int 4), ("stretch", .int 3), ("tree", .int 2)] : List (Str × V)).lookup x) (findBy Value.isStrOf es x))
    {E1 E2 E3 E4 E5 E6 E7 : Addr} {cdt : ClassData}
    (x1 : PySem.W.nsIn K mainGlobals "ApartError" = some (some (.ref E1)))
    (x2 : PySem.W.nsIn K mainGlobals "NoTelling" = some (some (.ref E2)))
    (x3 : PySem.W.nsIn K mainGlobals "NoValue" = some (some (.ref E3)))
    (x4 : PySem.W.nsIn K mainGlobals "NoProgram" = some (some (.ref E4)))
    (x5 : PySem.W.nsIn K mainGlobals "NoRow" = some (some (.ref E5)))
    (x6 : PySem.W.nsIn K mainGlobals "NoName" = some (some (.ref E6)))
    (x7 : PySem.W.nsIn K mainGlobals "NoText" = some (some (.ref E7)))
    (xe : PySem.W.excIn K E2 [.type "ValueError", .type "Exception", .type "BaseException", .type "object"] "ValueError.__new__" = true)
    (xga : PySem.W.findIn K (.ref E2) "__getattribute__" = some (some (.builtin "BaseException.__getattribute__"))) (xcl : PySem.W.findIn K (.ref E2) "__class__" = some (some (.builtin "object.__class__"))) (xno : PySem.W.findIn K (.ref E2) "__getattr__" = some none)
    (xob : PySem.W.mroIn K E2 (.type "object") = some true) (xbe : PySem.W.mroIn K E2 (.type "BaseException") = some true) (xit : PySem.W.clsIn K E2 = some cdt)
    (xca : PySem.W.exmOne K (.ref E2) (.ref E1) = some true) (xnt : PySem.W.kitOne K (.ref E2) (.ref E2) = some true) (xve : PySem.W.kitOne K (.ref E2) (.type "ValueError") = some true) (xot : PySem.W.kitAny K (.ref E2) [.ref E3, .ref E4, .ref E5, .ref E6, .ref E7] = some false) :
    ∃ fd : FuncData, (∀ (s : Shared) (v : Value), BindsTo s fd ⟨[v], []⟩ [("_law_script", v)]) ∧ ∀ base : Heap, K.In base → base.Ns mainGlobals mg → FnOk l.prog w K mg base CX0 8 fa fd ["_law_script"] (spLaw K) := by
  have e := hfa.symm.trans (PySem.W.mg_of X G a28)
  cases e
  have F1 := fun_mk (st := sIsName) l1 c1 k1
  have B1 := F1.binds (ps := ["text"]) fun _ _ _ _ _ _ us hl => by obtain ⟨a, rfl⟩ := us1 hl; rfl
  have C1 : Cal K mg "is_name" f1 _ ["text"] := ⟨PySem.W.mg_of X G a1, k1, B1⟩
  have F2 := fun_mk (st := sIsValue) l2 c2 k2
  have B2 := F2.binds (ps := ["text"]) fun _ _ _ _ _ _ us hl => by obtain ⟨a, rfl⟩ := us1 hl; rfl
  have C2 : Cal K mg "is_value" f2 _ ["text"] := ⟨PySem.W.mg_of X G a2, k2, B2⟩
  have F3 := fun_mk (st := sIsFact) l3 c3 k3
  have B3 := F3.binds (ps := ["row"]) fun _ _ _ _ _ _ us hl => by obtain ⟨a, rfl⟩ := us1 hl; rfl
  have C3 : Cal K mg "is_fact" f3 _ ["row"] := ⟨PySem.W.mg_of X G a3, k3, B3⟩
  have F4 := fun_mk (st := sIsPart) l4 c4 k4
  have B4 := F4.binds (ps := ["row"]) fun _ _ _ _ _ _ us hl => by obtain ⟨a, rfl⟩ := us1 hl; rfl
  have C4 : Cal K mg "is_part" f4 _ ["row"] := ⟨PySem.W.mg_of X G a4, k4, B4⟩
  have F5 := fun_mk (st := sAreRows) l5 c5 k5
  have B5 := F5.binds (ps := ["rows"]) fun _ _ _ _ _ _ us hl => by obtain ⟨a, rfl⟩ := us1 hl; rfl
  have C5 : Cal K mg "are_rows" f5 _ ["rows"] := ⟨PySem.W.mg_of X G a5, k5, B5⟩
  have F6 := fun_mk (st := sIsTelling) l6 c6 k6
  have B6 := F6.binds (ps := ["telling"]) fun _ _ _ _ _ _ us hl => by obtain ⟨a, rfl⟩ := us1 hl; rfl
  have C6 : Cal K mg "is_telling" f6 _ ["telling"] := ⟨PySem.W.mg_of X G a6, k6, B6⟩
  have F7 := fun_mk (st := sCheck) l7 c7 k7
  have B7 := F7.binds (ps := ["telling"]) fun _ _ _ _ _ _ us hl => by obtain ⟨a, rfl⟩ := us1 hl; rfl
  have C7 : Cal K mg "check_telling" f7 _ ["telling"] := ⟨PySem.W.mg_of X G a7, k7, B7⟩
  have F8 := fun_mk (st := sNamesOf) l8 c8 k8
  have B8 := F8.binds (ps := ["telling"]) fun _ _ _ _ _ _ us hl => by obtain ⟨a, rfl⟩ := us1 hl; rfl
  have C8 : Cal K mg "names_of" f8 _ ["telling"] := ⟨PySem.W.mg_of X G a8, k8, B8⟩
  have F9 := fun_mk (st := sWritesFact) l9 c9 k9
  have B9 := F9.binds (ps := ["words"]) fun _ _ _ _ _ _ us hl => by obtain ⟨a, rfl⟩ := us1 hl; rfl
  have C9 : Cal K mg "writes_fact" f9 _ ["words"] := ⟨PySem.W.mg_of X G a9, k9, B9⟩
  have F10 := fun_mk (st := sRead) l10 c10 k10
  have B10 := F10.binds (ps := ["text"]) fun _ _ _ _ _ _ us hl => by obtain ⟨a, rfl⟩ := us1 hl; rfl
  have C10 : Cal K mg "read_telling" f10 _ ["text"] := ⟨PySem.W.mg_of X G a10, k10, B10⟩
  have F11 := fun_mk (st := sShowFact) l11 c11 k11
  have B11 := F11.binds (ps := ["fact"]) fun _ _ _ _ _ _ us hl => by obtain ⟨a, rfl⟩ := us1 hl; rfl
  have C11 : Cal K mg "show_fact" f11 _ ["fact"] := ⟨PySem.W.mg_of X G a11, k11, B11⟩
  have F12 := fun_mk (st := sShow) l12 c12 k12
  have B12 := F12.binds (ps := ["telling"]) fun _ _ _ _ _ _ us hl => by obtain ⟨a, rfl⟩ := us1 hl; rfl
  have C12 : Cal K mg "show_telling" f12 _ ["telling"] := ⟨PySem.W.mg_of X G a12, k12, B12⟩
  have F13 := fun_mk (st := sCell) l13 c13 k13
  have B13 := F13.binds (ps := ["_law_script", "_law_k"]) fun _ _ _ _ _ _ us hl => by obtain ⟨a, b, rfl⟩ := us2 hl; rfl
  have C13 : Cal K mg "_law_cell_at" f13 _ ["_law_script", "_law_k"] := ⟨PySem.W.mg_of X G a13, k13, B13⟩
  have F14 := fun_mk (st := sTake) l14 c14 k14
  have B14 := F14.binds (ps := ["_law_feed", "_law_many_here"]) fun _ _ _ _ _ _ us hl => by obtain ⟨a, b, rfl⟩ := us2 hl; rfl
  have C14 : Cal K mg "_law_take" f14 _ ["_law_feed", "_law_many_here"] := ⟨PySem.W.mg_of X G a14, k14, B14⟩
  have F15 := fun_mk (st := sAnyNames) l15 c15 k15
  have B15 := F15.binds (ps := ["_law_cell"]) fun _ _ _ _ _ _ us hl => by obtain ⟨a, rfl⟩ := us1 hl; rfl
  have C15 : Cal K mg "_law_any_names" f15 _ ["_law_cell"] := ⟨PySem.W.mg_of X G a15, k15, B15⟩
  have F16 := fun_mk (st := sNames) l16 c16 k16
  have B16 := F16.binds (ps := ["_law_cell"]) fun _ _ _ _ _ _ us hl => by obtain ⟨a, rfl⟩ := us1 hl; rfl
  have C16 : Cal K mg "_law_names" f16 _ ["_law_cell"] := ⟨PySem.W.mg_of X G a16, k16, B16⟩
  have F17 := fun_mk (st := sValue2) l17 c17 k17
  have B17 := F17.binds (ps := ["_law_cell", "_law_names_here"]) fun _ _ _ _ _ _ us hl => by obtain ⟨a, b, rfl⟩ := us2 hl; rfl
  have C17 : Cal K mg "_law_value" f17 _ ["_law_cell", "_law_names_here"] := ⟨PySem.W.mg_of X G a17, k17, B17⟩
  have F18 := fun_mk (st := sField) l18 c18 k18
  have B18 := F18.binds (ps := ["_law_cell", "_law_names_here"]) fun _ _ _ _ _ _ us hl => by obtain ⟨a, b, rfl⟩ := us2 hl; rfl
  have C18 : Cal K mg "_law_field" f18 _ ["_law_cell", "_law_names_here"] := ⟨PySem.W.mg_of X G a18, k18, B18⟩
  have F19 := fun_mk (st := sFact2) l19 c19 k19
  have B19 := F19.binds (ps := ["_law_cell", "_law_names_here"]) fun _ _ _ _ _ _ us hl => by obtain ⟨a, b, rfl⟩ := us2 hl; rfl
  have C19 : Cal K mg "_law_fact" f19 _ ["_law_cell", "_law_names_here"] := ⟨PySem.W.mg_of X G a19, k19, B19⟩
  have F20 := fun_mk (st := sPart2) l20 c20 k20
  have B20 := F20.binds (ps := ["_law_cell", "_law_names_here"]) fun _ _ _ _ _ _ us hl => by obtain ⟨a, b, rfl⟩ := us2 hl; rfl
  have C20 : Cal K mg "_law_part" f20 _ ["_law_cell", "_law_names_here"] := ⟨PySem.W.mg_of X G a20, k20, B20⟩
  have F21 := fun_mk (st := sTell2) l21 c21 k21
  have B21 := F21.binds (ps := ["_law_cells", "_law_names_here"]) fun _ _ _ _ _ _ us hl => by obtain ⟨a, b, rfl⟩ := us2 hl; rfl
  have C21 : Cal K mg "_law_telling" f21 _ ["_law_cells", "_law_names_here"] := ⟨PySem.W.mg_of X G a21, k21, B21⟩
  have F22 := fun_mk (st := sMany) l22 c22 k22
  have B22 := F22.binds (ps := ["_law_telling_here", "_law_way", "_law_cell"]) fun _ _ _ _ _ _ us hl => by obtain ⟨a, b, c, rfl⟩ := us3 hl; rfl
  have C22 : Cal K mg "_law_many" f22 _ ["_law_telling_here", "_law_way", "_law_cell"] := ⟨PySem.W.mg_of X G a22, k22, B22⟩
  have F23 := fun_mk (st := sRowL) l23 c23 k23
  have B23 := F23.binds (ps := ["_law_row_here", "_law_way", "_law_cell", "_law_name"]) fun _ _ _ _ _ _ us hl => by obtain ⟨a, b, c, d, rfl⟩ := us4 hl; rfl
  have C23 : Cal K mg "_law_row" f23 _ ["_law_row_here", "_law_way", "_law_cell", "_law_name"] := ⟨PySem.W.mg_of X G a23, k23, B23⟩
  have F24 := fun_mk (st := sBent) l24 c24 k24
  have B24 := F24.binds (ps := ["_law_telling_here", "_law_way", "_law_cell", "_law_name"]) fun _ _ _ _ _ _ us hl => by obtain ⟨a, b, c, d, rfl⟩ := us4 hl; rfl
  have C24 : Cal K mg "_law_bent" f24 _ ["_law_telling_here", "_law_way", "_law_cell", "_law_name"] := ⟨PySem.W.mg_of X G a24, k24, B24⟩
  have F25 := fun_mk (st := sText) l25 c25 k25
  have B25 := F25.binds (ps := ["_law_text_here", "_law_way", "_law_cell", "_law_name"]) fun _ _ _ _ _ _ us hl => by obtain ⟨a, b, c, d, rfl⟩ := us4 hl; rfl
  have C25 : Cal K mg "_law_text" f25 _ ["_law_text_here", "_law_way", "_law_cell", "_law_name"] := ⟨PySem.W.mg_of X G a25, k25, B25⟩
  have F26 := fun_mk (st := sWritten) l26 c26 k26
  have B26 := F26.binds (ps := ["_law_telling_here"]) fun _ _ _ _ _ _ us hl => by obtain ⟨a, rfl⟩ := us1 hl; rfl
  have C26 : Cal K mg "_law_written" f26 _ ["_law_telling_here"] := ⟨PySem.W.mg_of X G a26, k26, B26⟩
  have F27 := fun_mk (st := sRefused) l27 c27 k27
  have B27 := F27.binds (ps := ["_law_thing", "_law_as_text"]) fun _ _ _ _ _ _ us hl => by obtain ⟨a, b, rfl⟩ := us2 hl; rfl
  have C27 : Cal K mg "_law_refused" f27 _ ["_law_thing", "_law_as_text"] := ⟨PySem.W.mg_of X G a27, k27, B27⟩
  have F28 := fun_mk (st := sLaw) l28 c28 k28
  have C : Con K mg w := {
    letters := glob_str X G gL eL
    figures := glob_str X G gF eF
    noNames := ⟨aN, glob_ref X G gN, fun _ => .inr ⟨oN, itN, nN, lN, cN, dN, Nat.le_trans sN (by decide), vN⟩⟩
    factWords := ⟨aW, glob_ref X G gW, fun _ => .inr ⟨oW, itW, nW, lW, cW, dW, Nat.le_trans sW (by decide), vW⟩⟩
    factLen := glob_int X G i1 ei1
    partLens := ⟨aP, glob_ref X G gP, es, nP, lP, hP, mP, rP⟩
    mostSigns := glob_int X G i2 ei2
    mostFacts := glob_int X G i3 ei3
    mostParts := glob_int X G i4 ei4
    mostNames := glob_int X G i5 ei5
    len := PySem.W.mg_none_of X G z1
    all := PySem.W.mg_none_of X G z2
    isi := PySem.W.mg_none_of X G z3
    list := PySem.W.mg_none_of X G z4
    tuple := PySem.W.mg_none_of X G z5
    str := PySem.W.mg_none_of X G z6
    sorted := PySem.W.mg_none_of X G z7
    set := PySem.W.mg_none_of X G z8 }
  have Er : Errs K mg E1 E2 E3 E4 E5 E6 E7 := {
    ae := PySem.W.mg_of X G x1
    nt := ⟨PySem.W.mg_of X G x2, xe⟩
    nv := PySem.W.mg_of X G x3
    np := PySem.W.mg_of X G x4
    nr := PySem.W.mg_of X G x5
    nn := PySem.W.mg_of X G x6
    nx := PySem.W.mg_of X G x7
    exc := ⟨xga, xcl, xno, xob, xbe, by rw [xit]; rfl⟩
    catches := xca
    isNT := xnt
    isVE := xve
    others := xot
    ve := PySem.W.mg_none_of X G z10 }
  have NO : Notes mg := ⟨glob_str X G gO eO⟩
  have hrg := PySem.W.mg_none_of X G z9
  refine ⟨PySem.W.fnOf "law" "law" (defArgs sLaw) (defBody sLaw) (defScope sLaw) .none kV28 dc28 pm28 an28 cd28 ct28, fun s v => .of_eq rfl, fun base _ _ => ?_⟩
  have O1 := ok_isName (P := l.prog) (base := base) C F1
  have O2 := ok_isValue C F2 O1 C1.bind C1.keep C1.name
  have O3 := ok_isFact C F3 O2 C2.bind C2.keep C2.name
  have O4 := ok_isPart C F4 O2 C2.bind C2.keep C2.name
  have O5 := ok_areRows (P := l.prog) (base := base) C F5
  have O8 := ok_namesOf (P := l.prog) (base := base) C F8
  have O6 := ok_isTelling C F6 O5 C5 O3 C3 O4 C4 O8 C8
  have O7 := ok_check F7 O6 C6 Er.nt
  have O9 := ok_writesFact (P := l.prog) (base := base) C F9
  have O10 := ok_read C NO F10 O9 C9 O7 C7
  have O11 := ok_showFact (P := l.prog) (w := w) (mg := mg) (base := base) F11
  have O12 := ok_show C NO F12 O11 C11
  have O13 := ok_cellAt (P := l.prog) (base := base) C F13
  have O14 := ok_take (P := l.prog) (w := w) (mg := mg) (base := base) F14
  have O15 := ok_anyNames C hrg F15 O14 C14
  have O16 := ok_names C hrg F16 O15 C15
  have O17 := ok_value2 (P := l.prog) (base := base) C F17
  have O18 := ok_field F18 O17 C17
  have O19 := ok_fact2 F19 O17 C17
  have O20 := ok_part2 F20 O17 C17 O18 C18
  have O21 := ok_tell2 C F21 O19 C19 O20 C20
  have O22 := ok_many (P := l.prog) (base := base) C F22
  have O23 := ok_rowL (P := l.prog) (base := base) C F23
  have O24 := ok_bent C F24 O23 C23
  have O25 := ok_text (P := l.prog) (base := base) C hrg F25
  have O26 := ok_written (P := l.prog) (base := base) C F26
  have O27 := ok_refused C Er F27 O7 C7 O10 C10
  exact ok_law C F28 O13 C13 O16 C16 O21 C21 O7 C7 O12 C12 O10 C10 O22 C22 O26 C26 O24 C24 O25 C25 O27 C27
theorem walk {l : PySem.W.OpenLaw} {q : Program} {loose : List Str} {XP : (Str → Option Value) → Heap → Prop} {YP : World → Heap → Prop} {d : DefRec} {K : Params → PySem.W.Frag} (hn : l.most = some 63) (hdf : d.params.defaults = [])
    (hY : ∀ (w : World) (h : Heap), YP w h → (K w.params).In h)
    (F : ∀ (w : World) (mg : Str → Option Value) (fa : Addr) (h : Heap), (K w.params).In h → h.Ns mainGlobals mg → mg d.name = some (.ref fa) →
      ∃ fd : FuncData, (∀ (s : Shared) (u : Value), BindsTo s fd ⟨[u], []⟩ [("_law_script", u)]) ∧ ∀ base : Heap, (K w.params).In base → base.Ns mainGlobals mg → FnOk l.prog w (K w.params) mg base CX0 8 fa fd ["_law_script"] (spLaw (K w.params))) :
    PySem.W.WalkO q loose XP YP l.row.toRowW d [] (fun f vs => PySem.call f vs) :=
  L2.walk_of (n := 63) (k := 8) (x := "_law_script") (CX := fun _ => CX0) (sp := fun w => spLaw (K w.params)) hn (by decide) hdf ⟨rfl, by decide, by decide⟩ hY F (fun _ _ a ns hl _ hS => ⟨a, ns, rfl, hS, fun _ => rfl⟩) fun _ _ _ _ _ z => z
end K4
open PySem PySem.W PyProof.Rows
set_option maxRecDepth 100000 in
set_option maxHeartbeats 0 in
theorem PySem.Challenge.cw_apart_k04_no_tellings_holds : PySem.Challenge.rw_apart_k04_no_tellings.Holds := by
  w_on; o_law; k_head; (case hw => w_witness2)
  k_fill
  refine K4.walk (l := PySem.Challenge.rw_apart_k04_no_tellings) rfl rfl (fun w h Y => PySem.W.kIn_of Y) ?F
  case F =>
    intro w mg fa h KX G hmg
    refine' K4.all_mk KX G hmg ?a1 ?l1 ?c1 ?k1 ?a2 ?l2 ?c2 ?k2 ?a3 ?l3 ?c3 ?k3 ?a4 ?l4 ?c4 ?k4 ?a5 ?l5 ?c5 ?k5 ?a6 ?l6 ?c6 ?k6 ?a7 ?l7 ?c7 ?k7 ?a8 ?l8 ?c8 ?k8 ?a9 ?l9 ?c9 ?k9 ?a10 ?l10 ?c10 ?k10 ?a11 ?l11 ?c11 ?k11 ?a12 ?l12 ?c12 ?k12 ?a13 ?l13 ?c13 ?k13 ?a14 ?l14 ?c14 ?k14 ?a15 ?l15 ?c15 ?k15 ?a16 ?l16 ?c16 ?k16 ?a17 ?l17 ?c17 ?k17 ?a18 ?l18 ?c18 ?k18 ?a19 ?l19 ?c19 ?k19 ?a20 ?l20 ?c20 ?k20 ?a21 ?l21 ?c21 ?k21 ?a22 ?l22 ?c22 ?k22 ?a23 ?l23 ?c23 ?k23 ?a24 ?l24 ?c24 ?k24 ?a25 ?l25 ?c25 ?k25 ?a26 ?l26 ?c26 ?k26 ?a27 ?l27 ?c27 ?k27 ?a28 ?l28 ?c28 ?k28 ?z1 ?z2 ?z3 ?z4 ?z5 ?z6 ?z7 ?z8 ?z9 ?z10 ?gO ?eO ?gL ?eL ?gF ?eF ?i1 ?ei1 ?i2 ?ei2 ?i3 ?ei3 ?i4 ?ei4 ?i5 ?ei5 ?gN ?lN ?cN ?dN ?sN ?vN ?gW ?lW ?cW ?dW ?sW ?vW ?gP ?lP ?hP ?mP ?rP ?x1 ?x2 ?x3 ?x4 ?x5 ?x6 ?x7 ?xe ?xga ?xcl ?xno ?xob ?xbe ?xit ?xca ?xnt ?xve ?xot
    (case a1 => k_is)
    (case l1 => k_is)
    (case c1 => k_is)
    (case k1 => k_is)
    (case a2 => k_is)
    (case l2 => k_is)
    (case c2 => k_is)
    (case k2 => k_is)
    (case a3 => k_is)
    (case l3 => k_is)
    (case c3 => k_is)
    (case k3 => k_is)
    (case a4 => k_is)
    (case l4 => k_is)
    (case c4 => k_is)
    (case k4 => k_is)
    (case a5 => k_is)
    (case l5 => k_is)
    (case c5 => k_is)
    (case k5 => k_is)
    (case a6 => k_is)
    (case l6 => k_is)
    (case c6 => k_is)
    (case k6 => k_is)
    (case a7 => k_is)
    (case l7 => k_is)
    (case c7 => k_is)
    (case k7 => k_is)
    (case a8 => k_is)
    (case l8 => k_is)
    (case c8 => k_is)
    (case k8 => k_is)
    (case a9 => k_is)
    (case l9 => k_is)
    (case c9 => k_is)
    (case k9 => k_is)
    (case a10 => k_is)
    (case l10 => k_is)
    (case c10 => k_is)
    (case k10 => k_is)
    (case a11 => k_is)
    (case l11 => k_is)
    (case c11 => k_is)
    (case k11 => k_is)
    (case a12 => k_is)
    (case l12 => k_is)
    (case c12 => k_is)
    (case k12 => k_is)
    (case a13 => k_is)
    (case l13 => k_is)
    (case c13 => k_is)
    (case k13 => k_is)
    (case a14 => k_is)
    (case l14 => k_is)
    (case c14 => k_is)
    (case k14 => k_is)
    (case a15 => k_is)
    (case l15 => k_is)
    (case c15 => k_is)
    (case k15 => k_is)
    (case a16 => k_is)
    (case l16 => k_is)
    (case c16 => k_is)
    (case k16 => k_is)
    (case a17 => k_is)
    (case l17 => k_is)
    (case c17 => k_is)
    (case k17 => k_is)
    (case a18 => k_is)
    (case l18 => k_is)
    (case c18 => k_is)
    (case k18 => k_is)
    (case a19 => k_is)
    (case l19 => k_is)
    (case c19 => k_is)
    (case k19 => k_is)
    (case a20 => k_is)
    (case l20 => k_is)
    (case c20 => k_is)
    (case k20 => k_is)
    (case a21 => k_is)
    (case l21 => k_is)
    (case c21 => k_is)
    (case k21 => k_is)
    (case a22 => k_is)
    (case l22 => k_is)
    (case c22 => k_is)
    (case k22 => k_is)
    (case a23 => k_is)
    (case l23 => k_is)
    (case c23 => k_is)
    (case k23 => k_is)
    (case a24 => k_is)
    (case l24 => k_is)
    (case c24 => k_is)
    (case k24 => k_is)
    (case a25 => k_is)
    (case l25 => k_is)
    (case c25 => k_is)
    (case k25 => k_is)
    (case a26 => k_is)
    (case l26 => k_is)
    (case c26 => k_is)
    (case k26 => k_is)
    (case a27 => k_is)
    (case l27 => k_is)
    (case c27 => k_is)
    (case k27 => k_is)
    (case a28 => k_is)
    (case l28 => k_is)
    (case c28 => k_is)
    (case k28 => k_is)
    (case z1 => k_is)
    (case z2 => k_is)
    (case z3 => k_is)
    (case z4 => k_is)
    (case z5 => k_is)
    (case z6 => k_is)
    (case z7 => k_is)
    (case z8 => k_is)
    (case z9 => k_is)
    (case z10 => k_is)
    (case gO => k_is)
    (case eO => decide +kernel)
    (case gL => k_is)
    (case eL => decide +kernel)
    (case gF => k_is)
    (case eF => decide +kernel)
    (case i1 => k_is)
    (case ei1 => rfl)
    (case i2 => k_is)
    (case ei2 => rfl)
    (case i3 => k_is)
    (case ei3 => rfl)
    (case i4 => k_is)
    (case ei4 => rfl)
    (case i5 => k_is)
    (case ei5 => rfl)
    (case gN => k_is)
    (case lN => k_is)
    (case cN => rfl)
    (case dN => rfl)
    (case sN => decide)
    (case vN => repeat (first | exact .nil | refine .cons ⟨_, rfl⟩ ?_))
    (case gW => k_is)
    (case lW => k_is)
    (case cW => rfl)
    (case dW => rfl)
    (case sW => decide)
    (case vW => repeat (first | exact .nil | refine .cons ⟨_, rfl⟩ ?_))
    (case gP => k_is)
    (case lP => k_is)
    (case hP => exact ⟨⟨_, _, rfl, rfl⟩, ⟨_, _, rfl, rfl⟩, ⟨_, _, rfl, rfl⟩, trivial⟩)
    (case mP => rfl)
    (case rP => exact K4.rel_find3 rfl ⟨_, rfl⟩ ⟨_, rfl⟩ ⟨_, rfl⟩)
    (case x1 => k_is)
    (case x2 => k_is)
    (case x3 => k_is)
    (case x4 => k_is)
    (case x5 => k_is)
    (case x6 => k_is)
    (case x7 => k_is)
    (case xe => k_exc)
    (case xga => k_is)
    (case xcl => k_is)
    (case xno => k_is)
    (case xob => k_is)
    (case xbe => k_is)
    (case xit => k_is)
    (case xca => kts_exm)
    (case xnt => kit_is)
    (case xve => kit_is)
    (case xot => kit_is)
