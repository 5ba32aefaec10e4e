import PyProof.Rows.All
import Wide.All
import OpenK.AllK
import Wide.FinOn
import Lean
import PyProof.EqAt
import PyProof.EqKinds
import PyProof.TupleCall
import PySem.Challenge.RW_apart_k43_where_sections_begin
set_option Elab.async false
set_option linter.all false
set_option maxRecDepth 100000
namespace L2
open PySem PySem.Spec PyProof.Rows
abbrev Key := Sum Int Str
noncomputable def keyIs : Key → Value → Bool
  | .inl k, v => Value.isInt k v
  | .inr x, v => Value.isStrOf x v
noncomputable def keyH (w : World) : Key → Int
  | .inl k => hashInt k
  | .inr x => hashStr w x
theorem keyIs_shape : ∀ {k : Key} {v : Value}, keyIs k v = true → (∃ i t, k = Sum.inl i ∧ v = Value.int i t) ∨ (∃ x t, k = Sum.inr x ∧ v = Value.str x t)
  | .inl i, v, h => by
    obtain ⟨t, e⟩ := Value.isInt_shape (k := i) (v := v) h
    exact .inl ⟨i, t, rfl, e⟩
  | .inr x, v, h => by
    obtain ⟨t, e⟩ := Value.isStrOf_shape (x := x) (v := v) h
    exact .inr ⟨x, t, rfl, e⟩
theorem key_ll (a b : Int) : decide ((Sum.inl a : Key) = Sum.inl b) = (a == b) := by
  by_cases e : a = b
  · subst e; simp
  · have h : ¬ (Sum.inl a : Key) = Sum.inl b := fun q => e (Sum.inl.inj q)
    rw [decide_eq_false h]
    exact (beq_eq_false_iff_ne.mpr e).symm
theorem key_rr (a b : Str) : decide ((Sum.inr a : Key) = Sum.inr b) = decide (a = b) := by
  by_cases e : a = b
  · subst e; simp
  · have h : ¬ (Sum.inr a : Key) = Sum.inr b := fun q => e (Sum.inr.inj q)
    rw [decide_eq_false h, decide_eq_false e]
theorem key_lr (a : Int) (b : Str) : decide ((Sum.inl a : Key) = Sum.inr b) = false := decide_eq_false (fun q => nomatch q)
theorem key_rl (a : Str) (b : Int) : decide ((Sum.inr a : Key) = Sum.inl b) = false := decide_eq_false (fun q => nomatch q)
noncomputable def mixKind (prog : Program) (w : World) : PySem.KeyKind prog w Key where
  is := keyIs
  hash := keyH w
  inj := fun v a b ha hb => by
    rcases keyIs_shape ha with ⟨i, t, rfl, rfl⟩ | ⟨x, t, rfl, rfl⟩
    · rcases keyIs_shape hb with ⟨j, u, rfl, e⟩ | ⟨y, u, rfl, e⟩
      · injection e with e1 _; rw [e1]
      · exact nomatch e
    · rcases keyIs_shape hb with ⟨j, u, rfl, e⟩ | ⟨y, u, rfl, e⟩
      · exact nomatch e
      · injection e with e1 _; rw [e1]
  byValue := fun k v h => by
    rcases keyIs_shape h with ⟨i, t, rfl, rfl⟩ | ⟨x, t, rfl, rfl⟩ <;> rfl
  pyHash := fun hv h => by
    rcases keyIs_shape hv with ⟨i, t, rfl, rfl⟩ | ⟨x, t, rfl, rfl⟩
    · exact wpAny_pyHash_int h
    · exact wpAny_pyHash_str h
  eqBool := fun hu hv h => by
    rcases keyIs_shape hu with ⟨i, t, rfl, rfl⟩ | ⟨x, t, rfl, rfl⟩
    · rcases keyIs_shape hv with ⟨j, u, rfl, rfl⟩ | ⟨y, u, rfl, rfl⟩
      · rw [key_ll] at h; exact wpAny_eqBool_int h
      · rw [key_lr] at h; exact SeqAt.EqAt.int_str i t y u _ _ _ _ h
    · rcases keyIs_shape hv with ⟨j, u, rfl, rfl⟩ | ⟨y, u, rfl, rfl⟩
      · rw [key_rl] at h; exact SeqAt.EqAt.str_int x t j u _ _ _ _ h
      · rw [key_rr] at h; exact wpAny_eqBool_str h
  «strs» := fun k x t v h => by
    rcases keyIs_shape h with ⟨i, u, rfl, e⟩ | ⟨y, u, rfl, e⟩
    · exact nomatch e
    · injection e with e1 _
      subst e1
      cases v <;> rfl
end L2
namespace L2
open PySem PySem.Spec PyProof.Rows
inductive V where
  | non | bl (b : Bool) | int (i : Int) | str (x : Str) | byt (b : Array UInt8) | flt (b : UInt64) | ref (a : Addr) | ty (n : String)
  deriving DecidableEq
noncomputable def RelV : V → Value → Prop
  | .non, u => u = Value.none
  | .bl b, u => u = Value.bool b
  | .int i, u => ∃ t, u = Value.int i t
  | .str x, u => ∃ t, u = Value.str x t
  | .byt b, u => ∃ t, u = Value.bytes b t
  | .flt b, u => ∃ t, u = Value.float b t
  | .ref a, u => u = Value.ref a
  | .ty n, u => u = Value.type n
abbrev Vals : List V → List Value → Prop := Paired RelV
theorem Vals.length {xs : List V} {us : List Value} (r : Vals xs us) : xs.length = us.length := Paired.length r
theorem Vals.get : ∀ {xs : List V} {us : List Value} {i : Nat} {x : V}, Vals xs us → xs[i]? = some x → ∃ u, us[i]? = some u ∧ RelV x u
  | _, _, _, _, .nil, e => by simp at e
  | _, _, 0, _, .cons r _, e => by simp at e; subst e; exact ⟨_, rfl, r⟩
  | _, _, i + 1, x, .cons _ t, e => by
    obtain ⟨u, h1, h2⟩ := Vals.get (i := i) (x := x) t (by simpa using e)
    exact ⟨u, by simpa using h1, h2⟩
theorem Vals.set {x : V} {u : Value} (r : RelV x u) : ∀ {xs : List V} {us : List Value} (i : Nat), Vals xs us → Vals (xs.set i x) (us.set i u)
  | _, _, _, .nil => .nil
  | _, _, 0, .cons _ t => .cons r t
  | _, _, i + 1, .cons q t => .cons q (Vals.set r i t)
theorem Vals.append : ∀ {xs ys : List V} {us ws : List Value}, Vals xs us → Vals ys ws → Vals (xs ++ ys) (us ++ ws)
  | _, _, _, _, .nil, s => s
  | _, _, _, _, .cons r t, s => .cons r (Vals.append t s)
theorem Vals.take : ∀ {xs : List V} {us : List Value} (n : Nat), Vals xs us → Vals (xs.take n) (us.take n)
  | _, _, 0, _ => .nil
  | _, _, _ + 1, .nil => .nil
  | _, _, n + 1, .cons r t => .cons r (Vals.take n t)
theorem Vals.drop : ∀ {xs : List V} {us : List Value} (n : Nat), Vals xs us → Vals (xs.drop n) (us.drop n)
  | _, _, 0, r => r
  | _, _, _ + 1, .nil => .nil
  | _, _, n + 1, .cons _ t => Vals.drop n t
noncomputable def RelO : Option V → Option Value → Prop
  | some v, some u => RelV v u
  | none, none => True
  | _, _ => False
noncomputable def KV {κ : Type} : List (κ × V) → List (κ × Value) → Prop := Paired fun (p : κ × V) (q : κ × Value) => p.1 = q.1 ∧ RelV p.2 q.2
noncomputable def kV : Key → V
  | .inl i => .int i
  | .inr x => .str x
inductive HO where
  /-- a list -/
  | lst (xs : List V)
  /-- a tuple (never changes) -/
  | tup (xs : List V)
  /-- a dict whose keys are ints and texts; one whose keys are tuples of ints and texts (the empty one is both) -/
  | dK (kvs : List (Key × V)) | dT (kvs : List (List Key × V))
  /-- a set of ints: its members, its size -/
  | set (S : Int → Bool) (n : Nat)
  /-- an instance of the class at C, its dict at dx, its attributes -/
  | ins (C dx : Addr) (fs : List (Str × V))
  /-- the dict of the instance at x -/
  | own (x : Addr)
  /-- the dict of an exception -/
  | xd (fs : List (Str × V))
  /-- a bound method, f of x -/
  | met (f x : Addr)
  /-- a range object lo, lo + 1, .. below hi -/
  | rng (lo hi : Int)
  /-- a thing that is known to the object (the script; a dict while a loop walks it): read, never written while it is so -/
  | frz (o : Obj) (u : HO)
  /-- a code object's table -/
  | tbl (ps : Array Value)
  /-- any other thing, by what is true of its one object (a def of one's own: SetO a S n := HO.ext fun h => ..) -/
  | ext (φ : Heap → Prop)
abbrev Hp := Addr → Option HO
noncomputable def upd (H : Hp) (a : Addr) (o : HO) : Hp := fun b => if b = a then some o else H b
theorem upd_same {H : Hp} {a : Addr} {o : HO} : upd H a o a = some o := by unfold upd; rw [if_pos rfl]
theorem upd_ne {H : Hp} {a b : Addr} {o : HO} (h : b ≠ a) : upd H a o b = H b := by unfold upd; rw [if_neg h]
theorem ne_of_none {H : Hp} {a b : Addr} {o : HO} (h : H a = some o) (h' : H b = none) : a ≠ b := by
  intro e; subst e; rw [h] at h'; cases h'
section
variable (P : Program) (w : World)
noncomputable def ObjOk (H : Hp) (h : Heap) (a : Addr) : HO → Prop
  | .lst xs => xs.length ≤ sizeLine ∧ ∃ (its : List Value) (n : Nat), Vals xs its ∧ h.get? a = some { cls := .type "list", data := .seq its.toArray n }
  | .tup xs => xs.length ≤ sizeLine ∧ ∃ its : List Value, Vals xs its ∧ IsTup h a its.toArray
  | .dK kvs => kvs.length ≤ sizeLine ∧ (a == sysModules) = false ∧ ∃ vs, KV kvs vs ∧ h.DictOf (mixKind P w) a vs
  | .dT kvs => kvs.length ≤ sizeLine ∧ (a == sysModules) = false ∧ ∃ xs : List (List Key × Addr × Value),
      Paired (fun (p : List Key × V) (q : List Key × Addr × Value) => p.1 = q.1 ∧ H q.2.1 = some (.tup (p.1.map kV)) ∧ RelV p.2 q.2.2) kvs xs ∧
      ∃ o es ep, h.get? a = some o ∧ o.ExactDict ∧ o.data = .dict es ep ∧ es.toList = xs.map (entryOfKey (tupleKind (mixKind P w))) ∧ (xs.map (·.1)).Nodup
  | .set S n => h.SetOf (intKind P w) a S n
  | .ins C dx fs => H dx = some (.own a) ∧ fs.length ≤ 1000 ∧ dx ≠ a ∧ h.get? a = some (PySem.W.instObj C dx) ∧
      ∃ mA, h.Ns1 dx mA ∧ (∀ f, RelO (fs.lookup f) (mA f)) ∧ PySem.Within mA (fs.map (·.1))
  | .own _ => ∃ o, h.get? a = some o
  | .xd fs => ∃ mA, h.Ns1 a mA ∧ ∀ f, RelO (fs.lookup f) (mA f)
  | .rng lo hi => ∃ t u v, h.get? a = some { cls := .type "range", data := .fields #[.int lo t, .int hi u, .int 1 v] }
  | .frz o u => h.get? a = some o ∧ ObjOk H h a u
  | .tbl ps => h.get? a = some { cls := .none, data := .fields ps }
  | .met f x => h.get? a = some (PySem.W.methodObj (.ref f) (.ref x))
  | .ext φ => φ h ∧ (∃ o, h.get? a = some o) ∧ ∀ h1 h2 : Heap, φ h1 → (∀ o, h1.get? a = some o → h2.get? a = some o) → φ h2
noncomputable def HOk (H : Hp) (h : Heap) : Prop := ∀ a o, H a = some o → ObjOk P w H h a o
end
section
variable {P : Program} {w : World} {H H' : Hp} {h h' : Heap} {a : Addr} {o : HO}
theorem ObjOk.lt (x : ObjOk P w H h a o) : a < h.objs.size := by
  cases o with
  | lst xs => obtain ⟨_, _, _, _, e⟩ := x; exact Heap.lt_size e
  | tup xs => obtain ⟨_, _, _, p⟩ := x; exact p.lt
  | dK kvs => obtain ⟨_, _, _, _, o, _, _, e, _⟩ := x; exact Heap.lt_size e
  | dT kvs => obtain ⟨_, _, _, _, o, _, _, e, _⟩ := x; exact Heap.lt_size e
  | set S n => obtain ⟨o, _, _, _, e, _⟩ := x; exact Heap.lt_size e
  | ins C dx fs => obtain ⟨_, _, _, e, _⟩ := x; exact Heap.lt_size e
  | own y => obtain ⟨_, e⟩ := x; exact Heap.lt_size e
  | xd fs => obtain ⟨_, ⟨_, _, _, e, _⟩, _⟩ := x; exact Heap.lt_size e
  | rng lo hi => obtain ⟨_, _, _, e⟩ := x; exact Heap.lt_size e
  | frz ob u => obtain ⟨e, _⟩ := x; exact Heap.lt_size e
  | tbl ps => exact Heap.lt_size (show h.get? a = some _ from x)
  | met f y => exact Heap.lt_size (show h.get? a = some _ from x)
  | ext φ => obtain ⟨_, ⟨_, e⟩, _⟩ := x; exact Heap.lt_size e
theorem Paired.mapP {α β : Type} {F G : α → β → Prop} : ∀ {l₁ : List α} {l₂ : List β}, Paired F l₁ l₂ → (∀ a b, F a b → G a b) → Paired G l₁ l₂
  | _, _, .nil, _ => .nil
  | _, _, .cons r t, f => .cons (f _ _ r) (Paired.mapP t f)
theorem ObjOk.stay (x : ObjOk P w H h a o) (k : ∀ b u, (b = a ∨ H b = some (.own a)) → h.get? b = some u → h'.get? b = some u)
    (ho : ∀ b, H b = some (.own a) → H' b = some (.own a)) (ht : ∀ b xs, H b = some (.tup xs) → H' b = some (.tup xs)) : ObjOk P w H' h' a o := by
  induction o with
  | lst xs => obtain ⟨z, its, n, r, e⟩ := x; exact ⟨z, its, n, r, k _ _ (.inl rfl) e⟩
  | tup xs => obtain ⟨z, its, r, ob, e, c⟩ := x; exact ⟨z, its, r, ob, k _ _ (.inl rfl) e, c⟩
  | dK kvs => obtain ⟨z, y, vs, r, ob, es, ep, e, c⟩ := x; exact ⟨z, y, vs, r, ob, es, ep, k _ _ (.inl rfl) e, c⟩
  | dT kvs =>
    obtain ⟨z, y, xs, r, ob, es, ep, e, c⟩ := x
    exact ⟨z, y, xs, Paired.mapP r fun p q z => ⟨z.1, ht _ _ z.2.1, z.2.2⟩, ob, es, ep, k _ _ (.inl rfl) e, c⟩
  | set S n => obtain ⟨ob, es, ep, t, e, c⟩ := x; exact ⟨ob, es, ep, t, k _ _ (.inl rfl) e, c⟩
  | ins C dx fs =>
    obtain ⟨d, z, ne, e, mA, ⟨od, es, ep, e2, c⟩, r⟩ := x
    exact ⟨ho _ d, z, ne, k _ _ (.inl rfl) e, mA, ⟨od, es, ep, k _ _ (.inr d) e2, c⟩, r⟩
  | own y => obtain ⟨ob, e⟩ := x; exact ⟨ob, k _ _ (.inl rfl) e⟩
  | xd fs => obtain ⟨mA, ⟨od, es, ep, e, c⟩, r⟩ := x; exact ⟨mA, ⟨od, es, ep, k _ _ (.inl rfl) e, c⟩, r⟩
  | rng lo hi => obtain ⟨t, u, v, e⟩ := x; exact ⟨t, u, v, k _ _ (.inl rfl) e⟩
  | frz ob u ih => obtain ⟨e, q⟩ := x; exact ⟨k _ _ (.inl rfl) e, ih q⟩
  | tbl ps =>
    have e : h.get? a = some { cls := .none, data := .fields ps } := x
    show h'.get? a = some { cls := .none, data := .fields ps }
    exact k a _ (.inl rfl) e
  | met f y =>
    have e : h.get? a = some (PySem.W.methodObj (.ref f) (.ref y)) := x
    show h'.get? a = some (PySem.W.methodObj (.ref f) (.ref y))
    exact k a _ (.inl rfl) e
  | ext φ => obtain ⟨p, ⟨o, e⟩, st⟩ := x; exact ⟨st _ _ p fun o q => k _ _ (.inl rfl) q, ⟨o, k _ _ (.inl rfl) e⟩, st⟩
theorem HOk.lt (x : HOk P w H h) (e : H a = some o) : a < h.objs.size := (x a o e).lt
theorem HOk.fresh (x : HOk P w H h) (e : h.objs.size ≤ a) : H a = none := by
  cases q : H a with
  | none => rfl
  | some u => exact absurd (Nat.lt_of_lt_of_le (x.lt q) e) (Nat.lt_irrefl _)
theorem HOk.kept (x : HOk P w H h) (k : ∀ b u, h.get? b = some u → h'.get? b = some u) : HOk P w H h' := fun a o e =>
  (x a o e).stay (fun b u _ q => k b u q) (fun _ q => q) fun _ _ q => q
theorem HOk.laid (x : HOk P w H h) (k : ∀ b u, h.get? b = some u → h'.get? b = some u) (hp : h.objs.size ≤ a) (new : ObjOk P w (upd H a o) h' a o) : HOk P w (upd H a o) h' := fun b u e => by
  have hn := x.fresh hp
  by_cases hb : b = a
  · subst hb; rw [upd_same] at e; cases e; exact new
  · rw [upd_ne hb] at e
    exact (x b u e).stay (fun c v _ q => k c v q) (fun c q => by rw [upd_ne (ne_of_none q hn)]; exact q) fun c xs q => by rw [upd_ne (ne_of_none q hn)]; exact q
end
noncomputable def Rd (H : Hp) (a : Addr) (u : HO) : Prop := H a = some u ∨ ∃ o, H a = some (.frz o u)
theorem Rd.ok {P : Program} {w : World} {H : Hp} {h : Heap} {a : Addr} {u : HO} (r : Rd H a u) (x : HOk P w H h) : ObjOk P w H h a u := by
  rcases r with r | ⟨o, r⟩
  · exact x a u r
  · obtain ⟨_, q⟩ := x a _ r
    exact q
noncomputable def Mut : Option HO → Prop
  | some (.lst _) => True
  | some (.dK _) => True
  | some (.dT _) => True
  | some (.set _ _) => True
  | some (.ins _ _ _) => True
  | some (.ext _) => True
  | _ => False
section
variable {P : Program} {w : World} {H : Hp} {h h' : Heap} {x e : Addr} {o' : HO}
theorem HOk.write (ok : HOk P w H h) (mu : Mut (H x)) (he : e = x ∨ H e = some (.own x)) (k : ∀ b u, b ≠ e → h.get? b = some u → h'.get? b = some u) (heo : ∃ u, h'.get? e = some u)
    (new : ObjOk P w (upd H x o') h' x o') : HOk P w (upd H x o') h' := fun b u q => by
  have nown : ∀ c y, H c = some (.own y) → c ≠ x := fun c y r z => by subst z; rw [r] at mu; exact mu
  have ntup : ∀ c xs, H c = some (.tup xs) → c ≠ x := fun c xs r z => by subst z; rw [r] at mu; exact mu
  by_cases hb : b = x
  · subst hb; rw [upd_same] at q; cases q; exact new
  · rw [upd_ne hb] at q
    by_cases hbe : b = e
    · have q' : H b = some (.own x) := by
        rcases he with z | z
        · exact absurd (hbe.trans z) hb
        · rw [hbe]; exact z
      rw [q] at q'; cases q'
      obtain ⟨v, hv⟩ := heo
      exact ⟨v, by rw [hbe]; exact hv⟩
    · refine (ok b u q).stay (fun c v hc r => k c v ?_ r) (fun c r => by rw [upd_ne (nown c b r)]; exact r) fun c xs r => by rw [upd_ne (ntup c xs r)]; exact r
      rcases hc with rfl | hc
      · exact hbe
      · rintro rfl
        rcases he with z | z
        · exact nown c b hc z
        · rw [hc] at z; cases z; exact hb rfl
end
structure Un (fs ex : List Addr) (H H' : Hp) (h h' : Heap) : Prop where
  keep : ∀ b o, h.get? b = some o → H b = none → b ∉ fs → b ∉ ex → h'.get? b = some o
  slot : ∀ b o, h.get? b = some o → H b = none → b ∈ fs → b ∉ ex → ∃ sl, h'.get? b = some { o with slots := sl }
  free : ∀ b o, h.get? b = some o → H b = none → b ∉ ex → H' b = none
  there : ∀ b o, h.get? b = some o → b ∉ ex → ∃ o', h'.get? b = some o'
  tups : ∀ b xs, H b = some (.tup xs) → H' b = some (.tup xs)
  frzs : ∀ b o u, H b = some (.frz o u) → H' b = some (.frz o u)
  tbls : ∀ b ps, H b = some (.tbl ps) → ∃ more, H' b = some (.tbl (ps ++ more))
section
variable {fs fs' ex ex' : List Addr} {H H1 H2 : Hp} {h h1 h2 h' : Heap} {a x e : Addr} {o : HO}
theorem Un.any (u : Un fs ex H H1 h h1) {b : Addr} {ob : Obj} (q : h.get? b = some ob) (n : H b = none) (hx : b ∉ ex) : ∃ sl, h1.get? b = some { ob with slots := sl } := by
  by_cases hb : b ∈ fs
  · exact u.slot b ob q n hb hx
  · exact ⟨ob.slots, u.keep b ob q n hb hx⟩
theorem Un.kept (k : ∀ b u, h.get? b = some u → h'.get? b = some u) : Un fs ex H H h h' :=
  ⟨fun b ob q _ _ _ => k b ob q, fun b ob q _ _ _ => ⟨ob.slots, k b ob q⟩, fun _ _ _ n _ => n, fun b ob q _ => ⟨ob, k b ob q⟩, fun _ _ q => q, fun _ _ _ q => q, fun _ ps q => ⟨#[], by rw [q]; simp⟩⟩
theorem Un.refl : Un fs ex H H h h := Un.kept fun _ _ q => q
theorem Un.laid (k : ∀ b u, h.get? b = some u → h'.get? b = some u) (hp : h.objs.size ≤ a) (hn : H a = none) : Un fs ex H (upd H a o) h h' where
  keep := fun b u q _ _ _ => k b u q
  slot := fun b u q _ _ _ => ⟨u.slots, k b u q⟩
  free := fun b u q n _ => by rw [upd_ne (Nat.ne_of_lt (Nat.lt_of_lt_of_le (Heap.lt_size q) hp))]; exact n
  there := fun b u q _ => ⟨u, k b u q⟩
  tups := fun b xs q => by rw [upd_ne (ne_of_none q hn)]; exact q
  frzs := fun b u xs q => by rw [upd_ne (ne_of_none q hn)]; exact q
  tbls := fun b ps q => ⟨#[], by rw [upd_ne (ne_of_none q hn), q]; simp⟩
theorem Un.write (mu : Mut (H x)) (he : e = x ∨ H e = some (.own x)) (k : ∀ b u, b ≠ e → h.get? b = some u → h'.get? b = some u) (heo : ∃ u, h'.get? e = some u) : Un fs ex H (upd H x o) h h' := by
  have hx : ∀ b, H b = none → b ≠ x := fun b n z => by subst z; rw [n] at mu; exact mu
  have hb : ∀ b, H b = none → b ≠ e := fun b n z => by
    subst z
    rcases he with r | r
    · exact hx b n r
    · rw [n] at r; cases r
  have hm : ∀ b u, H b = some u → ¬ Mut (some u) → b ≠ x := fun b u q nm z => by subst z; rw [q] at mu; exact nm mu
  refine ⟨fun b u q n _ _ => k b u (hb b n) q, fun b u q n _ _ => ⟨u.slots, k b u (hb b n) q⟩, fun b u q n _ => by rw [upd_ne (hx b n)]; exact n, fun b u q _ => ?_,
    fun b xs q => by rw [upd_ne (hm b _ q fun z => z)]; exact q, fun b u xs q => by rw [upd_ne (hm b _ q fun z => z)]; exact q, fun b ps q => ⟨#[], by rw [upd_ne (hm b _ q fun z => z), q]; simp⟩⟩
  by_cases hbe : b = e
  · subst hbe; exact heo
  · exact ⟨u, k b u hbe q⟩
end
noncomputable def trk (h : Heap) (H : Hp) : List Addr := (List.range h.objs.size).filter fun a => (H a).isSome
noncomputable def hidT (h : Heap) (H : Hp) : Heap := PySem.W.hideAll h (trk h H)
theorem hidT_size (h : Heap) (H : Hp) : (hidT h H).objs.size = h.objs.size := PySem.W.hideAll_size _ _
theorem hidT_get {h : Heap} {H : Hp} {b : Addr} {o : Obj} (e : h.get? b = some o) (n : H b = none) : (hidT h H).get? b = some o :=
  PySem.W.hideAll_get _ e fun hm => by
    have q : (H b).isSome = true := (List.mem_filter.mp hm).2
    rw [n] at q; simp at q
theorem of_hidT {h : Heap} {H : Hp} {b : Addr} {o : Obj} (e : (hidT h H).get? b = some o) : h.get? b = some o ∧ H b = none := by
  have e' : h.get? b = some o := PySem.W.of_hideAll (trk h H) e
  refine ⟨e', ?_⟩
  cases q : H b with
  | none => rfl
  | some x =>
    have hm : b ∈ trk h H := List.mem_filter.mpr ⟨List.mem_range.mpr (Heap.lt_size e'), by simp [q]⟩
    have z : (hidT h H).get? b = none := PySem.W.hideAll_none (trk h H) hm
    rw [z] at e; cases e
noncomputable def allNews (g h : Heap) (L : Addr) : List (Addr × Obj) := (List.range h.objs.size).filterMap fun a => if a = L ∨ (g.get? a).isSome = true then none else (h.get? a).map fun o => (a, o)
noncomputable def rest (g h : Heap) (L d : Addr) : List (Addr × Obj) := (allNews g h L).filter fun p => decide (p.1 ≠ d)
end L2
namespace L2
open PySem PySem.Spec PyProof.Rows
structure Mod (K : PySem.W.Frag) (mg : Str → Option Value) (base : Heap) : Prop where
  kin : K.In base
  glob : base.Ns mainGlobals mg
  blt : ∃ mb, base.Ns builtinsNs mb ∧ ∀ x : Str, x ≠ "__name__" → mb x = bootBuiltins x
  nolimit : base.NoLimit
structure Cx where
  prog : Program
  w : World
  K : PySem.W.Frag
  mg : Str → Option Value
  base : Heap
  A : Around
  N : List Str
  s₀ : Shared
  H₀ : Hp
  env : Env
  outer : List Env
  stack : List Env
  ex : List Addr
  fn : Str → Bool
  calm : Bool
  pn : List (Addr × Obj)
  xe : Value → Shared → Prop
noncomputable def frs (l : List Env) : List Addr := l.filterMap (·.frame)
noncomputable abbrev Cx.fs (X : Cx) : List Addr := frs X.outer
noncomputable def Vis (sc : Scope) (x : Str) : Prop := sc.names.lookup x = some .local ∨ sc.names.lookup x = some .cell ∨ sc.names.lookup x = some .free
noncomputable def Loc (sc : Scope) (x : Str) : Prop := sc.names.lookup x = some .local ∨ sc.names.lookup x = some .cell
noncomputable def Look (env : Env) (h : Heap) (m : Str → Option Value) (x : Str) (u : Value) : Prop :=
  (env.kindOf x = some .local ∧ m x = some u) ∨ ((env.kindOf x = some .cell ∨ env.kindOf x = some .free) ∧ ∃ c, env.cells.lookup x = some c ∧ h.IsCell c (some u))
structure Cx.Ok (X : Cx) : Prop where
  mod : Mod X.K X.mg X.base
  kind : X.env.scope.kind = .function
  glob : X.env.globals = mainGlobals
  blt : X.env.builtins = builtinsNs
  above : X.s₀.heap.objs.size ≤ X.env.locals
  inj : ∀ x y c, X.env.cells.lookup x = some c → X.env.cells.lookup y = some c → x = y
  has : ∀ x, (X.env.kindOf x = some .cell ∨ X.env.kindOf x = some .free) → ∃ c, X.env.cells.lookup x = some c
  cab : ∀ x c, X.fn x = true → X.env.cells.lookup x = some c → X.s₀.heap.objs.size ≤ c
  hd : X.calm = true → X.A.handled = none
  frames : X.A.frames = some X.stack
  stk : X.stack = X.outer ∨ (X.stack = X.env :: X.outer ∧ X.env.frame = some X.env.locals)
  exf : ∀ b ∈ X.ex, b ≠ X.env.locals ∧ ∀ x c, X.env.cells.lookup x = some c → c ≠ b
  bs : ∀ b o, X.base.get? b = some o → X.s₀.heap.get? b = some o ∧ X.H₀ b = none
  bsz : X.base.objs.size ≤ X.s₀.heap.objs.size
  noex : ∀ b o, X.base.get? b = some o → b ∉ X.ex
  exfs : ∀ b ∈ X.ex, b ∉ X.fs
  funs : X.s₀.heap.FunFrames X.base X.outer
  frf : ∀ b ∈ X.fs, X.H₀ b = none
structure Inv (X : Cx) (pins : List (Addr × Obj)) (σ : List (Option V)) (H : Hp) (s : Shared) : Prop where
  ok : X.Ok
  os : s.os = X.s₀.os
  bare : AllBare s.gens
  base : Un X.fs X.ex X.H₀ H X.s₀.heap s.heap
  loc : ∃ m, s.heap.Ns X.env.locals m ∧ ∀ (i : Nat) (x : Str) (v : V), X.N[i]? = some x → σ[i]? = some (some v) → Vis X.env.scope x → ∃ u, RelV v u ∧ Look X.env s.heap m x u
  cell : ∀ x c, X.env.cells.lookup x = some c → ∃ v, s.heap.IsCell c v
  free : H X.env.locals = none
  freeC : ∀ x c, X.env.cells.lookup x = some c → H c = none
  pin : ∀ p ∈ X.pn ++ pins, s.heap.get? p.1 = some p.2 ∧ H p.1 = none ∧ p.1 ≠ X.env.locals ∧ p.1 ∉ X.fs ∧ ∀ v, p.2.data ≠ .cell v
  hok : HOk X.prog X.w H s.heap
  len : σ.length = X.N.length
section
variable {X : Cx} {pins : List (Addr × Obj)} {σ : List (Option V)} {H H' : Hp} {s : Shared} {h' : Heap}
theorem Cx.Ok.nofr (ok : X.Ok) {b : Addr} {o : Obj} (e : X.base.get? b = some o) : b ∉ X.fs := fun hb => by
  have := (ok.funs.mem hb).1
  rw [e] at this; cases this
theorem Inv.bs (I : Inv X pins σ H s) : ∀ b o, X.base.get? b = some o → s.heap.get? b = some o ∧ H b = none := fun b o e =>
  ⟨I.base.keep b o (I.ok.bs b o e).1 (I.ok.bs b o e).2 (I.ok.nofr e) (I.ok.noex b o e), I.base.free b o (I.ok.bs b o e).1 (I.ok.bs b o e).2 (I.ok.noex b o e)⟩
theorem Inv.bk (I : Inv X pins σ H s) : ∀ b o, X.base.get? b = some o → s.heap.get? b = some o := fun b o e => (I.bs b o e).1
theorem Inv.mod (I : Inv X pins σ H s) : Mod X.K X.mg X.base := I.ok.mod
theorem Inv.kIn (I : Inv X pins σ H s) : X.K.In s.heap := I.ok.mod.kin.keeps I.bk
theorem Inv.lt (I : Inv X pins σ H s) : X.env.locals < s.heap.objs.size := let ⟨_, hn, _⟩ := I.loc; hn.lt
theorem Inv.sz (I : Inv X pins σ H s) : X.s₀.heap.objs.size ≤ s.heap.objs.size := Nat.le_trans I.ok.above (Nat.le_of_lt I.lt)
theorem Inv.nofs (I : Inv X pins σ H s) {a : Addr} (h : s.heap.objs.size ≤ a) : a ∉ X.fs := fun hb => by
  obtain ⟨_, o, ho, _⟩ := I.ok.funs.mem hb
  exact absurd (Nat.lt_of_lt_of_le (Heap.lt_size ho) (Nat.le_trans I.sz h)) (Nat.lt_irrefl _)
theorem Inv.cne (I : Inv X pins σ H s) : ∀ x c, X.env.cells.lookup x = some c → c ≠ X.env.locals := fun x c e z => by
  obtain ⟨v, o, ho, hd⟩ := I.cell x c e
  obtain ⟨m, ⟨o', es, ep, ho', hd', _⟩, _⟩ := I.loc
  rw [z, ho'] at ho; cases ho; rw [hd'] at hd; cases hd
theorem Inv.funs (I : Inv X pins σ H s) : s.heap.FunFrames X.base X.outer := by
  have all : ∀ (l : List Env), (∀ b ∈ frs l, b ∈ X.fs) → X.s₀.heap.FunFrames X.base l → s.heap.FunFrames X.base l := by
    intro l
    induction l with
    | nil => intro _ _; trivial
    | cons env r ih =>
      intro hs hl
      obtain ⟨hk, ⟨L, o, hf, hn, ho, hd⟩, hr⟩ := hl
      have hL : L ∈ X.fs := hs L (by unfold frs; rw [List.filterMap_cons, hf]; exact List.mem_cons_self)
      obtain ⟨sl, e⟩ := I.base.slot L o ho (I.ok.frf L hL) hL fun z => I.ok.exfs L z hL
      exact ⟨hk, ⟨L, _, hf, hn, e, hd⟩, ih (fun b hb => hs b (by unfold frs; rw [List.filterMap_cons, hf]; exact List.mem_cons_of_mem _ hb)) hr⟩
  exact all X.outer (fun _ hb => hb) I.ok.funs
theorem Inv.stack (I : Inv X pins σ H s) : s.heap.FunFrames X.base X.stack := by
  rcases I.ok.stk with e | ⟨e, hf⟩
  · rw [e]; exact I.funs
  · rw [e]
    obtain ⟨m, hn, _⟩ := I.loc
    refine .cons (by rw [I.ok.kind]; decide) hf hn ?_ I.funs
    exact Heap.get?_none_of_le (Nat.le_trans I.ok.bsz I.ok.above)
theorem Inv.stkSub (I : Inv X pins σ H s) : ∀ b ∈ frs X.stack, b ∈ X.env.locals :: X.fs := fun b hb => by
  rcases I.ok.stk with e | ⟨e, hf⟩
  · rw [e] at hb; exact List.mem_cons_of_mem _ hb
  · rw [e] at hb
    unfold frs at hb
    rw [List.filterMap_cons, hf] at hb
    exact hb
theorem Inv.stkFree (I : Inv X pins σ H s) : ∀ b ∈ frs X.stack, H b = none := fun b hb => by
  rcases List.mem_cons.mp (I.stkSub b hb) with e | hb
  · rw [e]; exact I.free
  · obtain ⟨_, o, ho, _⟩ := I.ok.funs.mem hb
    exact I.base.free b o ho (I.ok.frf b hb) fun z => I.ok.exfs b z hb
theorem Inv.step {g' : Array GenState} {t' : Nat} {d' : Drawn} {ch : List Addr} (I : Inv X pins σ H s)
    (hch : ∀ b ∈ ch, (b ∈ X.ex ∨ X.s₀.heap.objs.size ≤ b) ∧ b ≠ X.env.locals ∧ (∀ x c, X.env.cells.lookup x = some c → c ≠ b) ∧ ∀ p ∈ X.pn ++ pins, p.1 ≠ b)
    (keep : ∀ b o, b ≠ X.env.locals → b ∉ X.fs → b ∉ ch → s.heap.get? b = some o → H b = none → h'.get? b = some o)
    (slot : ∀ b o, b ≠ X.env.locals → b ∈ X.fs → b ∉ ch → s.heap.get? b = some o → H b = none → ∃ sl, h'.get? b = some { o with slots := sl }) (free : ∀ b o, b ∉ ch → s.heap.get? b = some o → H b = none → H' b = none)
    (there : ∀ b o, b ∉ ch → s.heap.get? b = some o → ∃ o', h'.get? b = some o')
    (tups : ∀ b xs, H b = some (.tup xs) → H' b = some (.tup xs)) (frzs : ∀ b o u, H b = some (.frz o u) → H' b = some (.frz o u)) (tbls : ∀ b ps, H b = some (.tbl ps) → ∃ more, H' b = some (.tbl (ps ++ more)))
    (ns : ∀ m, s.heap.Ns X.env.locals m → h'.Ns X.env.locals m) (hok : HOk X.prog X.w H' h') (hg : AllBare g') :
    Inv X pins σ H' { s with heap := h', gens := g', drawn := d', toks := t' } := by
  have neL : ∀ b o, X.s₀.heap.get? b = some o → b ≠ X.env.locals := fun b o e => Nat.ne_of_lt (Nat.lt_of_lt_of_le (Heap.lt_size e) I.ok.above)
  have neC : ∀ b o, X.s₀.heap.get? b = some o → b ∉ X.ex → b ∉ ch := fun b o e hx hb => by
    rcases (hch b hb).1 with z | z
    · exact hx z
    · exact absurd (Nat.lt_of_lt_of_le (Heap.lt_size e) z) (Nat.lt_irrefl _)
  have cellK : ∀ x c, X.env.cells.lookup x = some c → ∀ v, s.heap.IsCell c v → h'.IsCell c v := fun x c e v ⟨o, ho, hd⟩ => by
    have nch : c ∉ ch := fun z => (hch c z).2.2.1 x c e rfl
    by_cases hc : c ∈ X.fs
    · obtain ⟨sl, q⟩ := slot c o (I.cne x c e) hc nch ho (I.freeC x c e)
      exact ⟨_, q, hd⟩
    · exact ⟨o, keep c o (I.cne x c e) hc nch ho (I.freeC x c e), hd⟩
  refine ⟨I.ok, I.os, hg, ⟨fun b o e n hb hx => ?_, fun b o e n hb hx => ?_, fun b o e n hx => ?_, fun b o e hx => ?_, fun b xs e => tups b xs (I.base.tups b xs e), fun b o xs e => frzs b o xs (I.base.frzs b o xs e), fun b ps e => ?_⟩, ?_, fun x c e => ?_, ?_, fun x c e => ?_, fun p hp => ?_, hok, I.len⟩
  · exact keep b o (neL b o e) hb (neC b o e hx) (I.base.keep b o e n hb hx) (I.base.free b o e n hx)
  · obtain ⟨sl, e1⟩ := I.base.slot b o e n hb hx
    obtain ⟨sl', e2⟩ := slot b _ (neL b o e) hb (neC b o e hx) e1 (I.base.free b o e n hx)
    exact ⟨sl', e2⟩
  · obtain ⟨o', e1⟩ := I.base.there b o e hx
    exact free b o' (neC b o e hx) e1 (I.base.free b o e n hx)
  · obtain ⟨o', e1⟩ := I.base.there b o e hx
    exact there b o' (neC b o e hx) e1
  · obtain ⟨m1, e1⟩ := I.base.tbls b ps e
    obtain ⟨m2, e2⟩ := tbls b _ e1
    exact ⟨m1 ++ m2, by rw [e2, Array.append_assoc]⟩
  · obtain ⟨m, hn, hl⟩ := I.loc
    refine ⟨m, ns m hn, fun i x v e1 e2 e3 => ?_⟩
    obtain ⟨u, r, l⟩ := hl i x v e1 e2 e3
    refine ⟨u, r, ?_⟩
    rcases l with l | ⟨k, c, e, z⟩
    · exact .inl l
    · exact .inr ⟨k, c, e, cellK x c e _ z⟩
  · obtain ⟨v, z⟩ := I.cell x c e
    exact ⟨v, cellK x c e v z⟩
  · obtain ⟨m, ⟨o, _, _, ho, _⟩, _⟩ := I.loc
    exact free _ o (fun z => (hch _ z).2.1 rfl) ho I.free
  · obtain ⟨v, o, ho, hd⟩ := I.cell x c e
    exact free c o (fun z => (hch c z).2.2.1 x c e rfl) ho (I.freeC x c e)
  · obtain ⟨e, n, ne, nf, d⟩ := I.pin p hp
    have nch : p.1 ∉ ch := fun z => (hch p.1 z).2.2.2 p hp rfl
    exact ⟨keep p.1 p.2 ne nf nch e n, free p.1 p.2 nch e n, ne, nf, d⟩
theorem Inv.un {t' : Nat} (I : Inv X pins σ H s) (u : Un X.fs [] H H' s.heap h') (hok : HOk X.prog X.w H' h') : Inv X pins σ H' { s with heap := h', toks := t' } := by
  obtain ⟨m, ⟨o, es, ep, ho, r⟩, _⟩ := id I.loc
  obtain ⟨sl, hL⟩ := u.any ho I.free (by simp)
  exact I.step (g' := s.gens) (d' := s.drawn) (ch := []) (fun _ z => nomatch z) (fun b o _ hb _ e n => u.keep b o e n hb (by simp)) (fun b o _ hb _ e n => u.slot b o e n hb (by simp)) (fun b o _ e n => u.free b o e n (by simp)) (fun b o _ e => u.there b o e (by simp)) u.tups u.frzs u.tbls (fun m' hm => by
    obtain ⟨o', es', ep', ho', r'⟩ := hm
    rw [ho] at ho'; cases ho'
    exact ⟨_, es', ep', hL, r'⟩) hok I.bare
theorem Inv.call {g' : Array GenState} {t' : Nat} {d' : Drawn} {ch : List Addr} (I : Inv X pins σ H s) (u : Un (frs X.stack) ch H H' s.heap h') (hok : HOk X.prog X.w H' h') (hg : AllBare g')
    (hch : ∀ b ∈ ch, (b ∈ X.ex ∨ X.s₀.heap.objs.size ≤ b) ∧ b ≠ X.env.locals ∧ (∀ x c, X.env.cells.lookup x = some c → c ≠ b) ∧ ∀ p ∈ X.pn ++ pins, p.1 ≠ b) :
    Inv X pins σ H' { s with heap := h', gens := g', drawn := d', toks := t' } := by
  obtain ⟨m, ⟨o, es, ep, ho, r⟩, _⟩ := id I.loc
  obtain ⟨sl, hL⟩ := u.any ho I.free fun z => (hch _ z).2.1 rfl
  exact I.step (ch := ch) hch (fun b o hL hb hc e n => u.keep b o e n (fun z => (List.mem_cons.mp (I.stkSub b z)).elim hL hb) hc) (fun b o _ _ hc e n => u.any e n hc) (fun b o hc e n => u.free b o e n hc) (fun b o hc e => u.there b o e hc) u.tups u.frzs u.tbls (fun m' hm => by
    obtain ⟨o', es', ep', ho', r'⟩ := hm
    rw [ho] at ho'; cases ho'
    exact ⟨_, es', ep', hL, r'⟩) hok hg
theorem Inv.turned {t' : Nat} {it : Addr} (I : Inv X pins σ H s) (k : ∀ b o, b ≠ it → s.heap.get? b = some o → h'.get? b = some o) (hn : H it = none) (hL : it ≠ X.env.locals)
    (h1 : it ∈ X.ex ∨ X.s₀.heap.objs.size ≤ it) (h2 : ∀ x c, X.env.cells.lookup x = some c → c ≠ it) (h3 : ∀ p ∈ X.pn ++ pins, p.1 ≠ it) : Inv X pins σ H { s with heap := h', toks := t' } := by
  have nit : ∀ b u, H b = some u → b ≠ it := fun b u e z => by rw [z, hn] at e; cases e
  refine I.step (g' := s.gens) (d' := s.drawn) (ch := [it]) (fun b hb => ?_) (fun b o _ _ hc e _ => k b o (fun z => hc (by simp [z])) e) (fun b o _ _ hc e _ => ⟨o.slots, k b o (fun z => hc (by simp [z])) e⟩) (fun _ _ _ _ n => n)
    (fun b o hc e => ⟨o, k b o (fun z => hc (by simp [z])) e⟩) (fun _ _ e => e) (fun _ _ _ e => e) (fun b ps e => ⟨#[], by rw [e]; simp⟩) (fun m hm => ?_) (fun b u e => ?_) I.bare
  · have e : b = it := by simpa using hb
    subst e
    exact ⟨h1, hL, h2, h3⟩
  · obtain ⟨o, es, ep, ho, r⟩ := hm
    exact ⟨o, es, ep, k _ o (Ne.symm hL) ho, r⟩
  · refine (I.hok b u e).stay (fun c v hc q => k c v ?_ q) (fun _ q => q) fun _ _ q => q
    rcases hc with z | z
    · rw [z]; exact nit b u e
    · exact nit c _ z
theorem Inv.tok (I : Inv X pins σ H s) (t : Nat) : Inv X pins σ H { s with toks := t } := I.un (h' := s.heap) (t' := t) Un.refl I.hok
theorem Inv.kept {t' : Nat} (I : Inv X pins σ H s) (k : ∀ b u, s.heap.get? b = some u → h'.get? b = some u) : Inv X pins σ H { s with heap := h', toks := t' } := I.un (Un.kept k) (I.hok.kept k)
theorem Inv.laid {a : Addr} {o : HO} {t' : Nat} (I : Inv X pins σ H s) (k : ∀ b u, s.heap.get? b = some u → h'.get? b = some u) (hp : s.heap.objs.size ≤ a) (new : ObjOk X.prog X.w (upd H a o) h' a o) :
    Inv X pins σ (upd H a o) { s with heap := h', toks := t' } := I.un (Un.laid k hp (I.hok.fresh hp)) (I.hok.laid k hp new)
theorem Inv.write {x e : Addr} {o : HO} {t' : Nat} (I : Inv X pins σ H s) (mu : Mut (H x)) (he : e = x ∨ H e = some (.own x)) (k : ∀ b u, b ≠ e → s.heap.get? b = some u → h'.get? b = some u) (heo : ∃ u, h'.get? e = some u)
    (new : ObjOk X.prog X.w (upd H x o) h' x o) : Inv X pins σ (upd H x o) { s with heap := h', toks := t' } := I.un (Un.write mu he k heo) (I.hok.write mu he k heo new)
theorem Inv.pins_of {pins' : List (Addr × Obj)} (I : Inv X pins σ H s) (h : ∀ p ∈ pins', s.heap.get? p.1 = some p.2 ∧ H p.1 = none ∧ p.1 ≠ X.env.locals ∧ p.1 ∉ X.fs ∧ ∀ v, p.2.data ≠ .cell v) : Inv X pins' σ H s :=
  ⟨I.ok, I.os, I.bare, I.base, I.loc, I.cell, I.free, I.freeC, fun p hp => (List.mem_append.mp hp).elim (fun z => I.pin p (List.mem_append_left _ z)) (h p), I.hok, I.len⟩
theorem nodup_ix {N : List Str} (hN : N.Nodup) {i j : Nat} {x : Str} (a : N[i]? = some x) (b : N[j]? = some x) : i = j := by
  obtain ⟨h1, e1⟩ := List.getElem?_eq_some_iff.mp a
  obtain ⟨h2, e2⟩ := List.getElem?_eq_some_iff.mp b
  exact (List.getElem_inj hN).mp (e1.trans e2.symm)
theorem store_ok2 {M : Model} {A : Around} {E : Value → Shared → Prop} {i : Nat} {x : Str} {v : V} {u : Value} {Q : Unit → Shared → Prop} (I : Inv X pins σ H s) (hN : X.N.Nodup) (hi : X.N[i]? = some x) (hx : Loc X.env.scope x) (r : RelV v u)
    (h : ∀ s', Inv X pins (σ.set i (some v)) H s' → (∃ a, Heap.SameBut a s.heap s'.heap ∧ (a = X.env.locals ∨ X.env.cells.lookup x = some a)) → Q () s') (hf : X.fn x = true ∨ X.env.scope.names.lookup x = some .local := by first | exact .inl rfl | exact .inr rfl | assumption) : wpAny M A (storeName X.env x u) Q E s := by
  obtain ⟨m, hn, hl⟩ := id I.loc
  have hcls : (X.env.scope.kind == .class || (X.env.scope.kind == .module && X.env.locals != X.env.globals)) = false := by rw [I.ok.kind]; rfl
  have hiσ : i < σ.length := by rw [I.len]; exact (List.getElem?_eq_some_iff.mp hi).1
  have cne := I.cne
  have tracked : ∀ {a : Addr} {h' : Heap}, (∃ o, s.heap.get? a = some o ∧ H a = none) → Heap.SameBut a s.heap h' → HOk X.prog X.w H h' := fun {a h'} ha hs b ob e => by
    obtain ⟨_, _, hfree⟩ := ha
    refine (I.hok b ob e).stay (fun c w' hc q => (hs.2 c ?_).trans q) (fun _ q => q) fun _ _ q => q
    rintro rfl
    rcases hc with rfl | hc
    · rw [hfree] at e; cases e
    · rw [hfree] at hc; cases hc
  rcases hx with hk | hk
  · refine wpAny_storeName_local hk hn (fun h' hn' hs => ?_) hcls
    obtain ⟨oL, _, _, hoL, _⟩ := id hn
    refine h _ ⟨I.ok, I.os, I.bare, ⟨fun b o e n hb hx => ?_, fun b o e n hb hx => ?_, I.base.free, fun b o e hx => ?_, I.base.tups, I.base.frzs, I.base.tbls⟩, ⟨_, hn', fun j y v' e1 e2 e3 => ?_⟩, fun y c e => ?_, I.free, I.freeC, fun p hp => ?_, tracked ⟨oL, hoL, I.free⟩ hs, by simpa using I.len⟩ ⟨_, hs, .inl rfl⟩
    · exact (hs.2 b (Nat.ne_of_lt (Nat.lt_of_lt_of_le (Heap.lt_size e) I.ok.above))).trans (I.base.keep b o e n hb hx)
    · obtain ⟨sl, e1⟩ := I.base.slot b o e n hb hx
      exact ⟨sl, (hs.2 b (Nat.ne_of_lt (Nat.lt_of_lt_of_le (Heap.lt_size e) I.ok.above))).trans e1⟩
    · obtain ⟨o', e1⟩ := I.base.there b o e hx
      exact ⟨o', (hs.2 b (Nat.ne_of_lt (Nat.lt_of_lt_of_le (Heap.lt_size e) I.ok.above))).trans e1⟩
    · by_cases hj : j = i
      · subst hj
        rw [hi] at e1; cases e1
        rw [List.getElem?_set_self hiσ] at e2
        cases e2
        exact ⟨u, r, .inl ⟨hk, by simp⟩⟩
      · rw [List.getElem?_set_ne (Ne.symm hj)] at e2
        obtain ⟨u', r', q⟩ := hl j y v' e1 e2 e3
        refine ⟨u', r', ?_⟩
        rcases q with ⟨k, e⟩ | ⟨k, c, e, z⟩
        · refine .inl ⟨k, ?_⟩
          have : y ≠ x := fun e => hj (nodup_ix hN e1 (e ▸ hi))
          simp [this, e]
        · exact .inr ⟨k, c, e, z.sameBut hs (cne y c e)⟩
    · obtain ⟨w', z⟩ := I.cell y c e
      exact ⟨w', z.sameBut hs (cne y c e)⟩
    · obtain ⟨e, n, ne, nf, d⟩ := I.pin p hp
      exact ⟨(hs.2 p.1 ne).trans e, n, ne, nf, d⟩
  · have hfn : X.fn x = true := by
      rcases hf with z | z
      · exact z
      · rw [z] at hk; cases hk
    obtain ⟨c, hc⟩ := I.ok.has x (.inl hk)
    obtain ⟨w', z⟩ := I.cell x c hc
    refine wpAny_storeName_cell I.ok.kind hk hc z (fun h' hc' hs => ?_)
    obtain ⟨oc, hoc, hocd⟩ := id z
    refine h { s with heap := h' } ⟨I.ok, I.os, I.bare, ⟨fun b o e n hb hx => ?_, fun b o e n hb hx => ?_, I.base.free, fun b o e hx => ?_, I.base.tups, I.base.frzs, I.base.tbls⟩, ⟨m, hn.sameBut hs (Ne.symm (cne x c hc)), fun j y v' e1 e2 e3 => ?_⟩, fun y c' e => ?_, I.free, I.freeC, fun p hp => ?_, tracked ⟨oc, hoc, I.freeC x c hc⟩ hs, by simpa using I.len⟩ ⟨c, hs, .inr hc⟩
    · exact (hs.2 b (Nat.ne_of_lt (Nat.lt_of_lt_of_le (Heap.lt_size e) (I.ok.cab x c hfn hc)))).trans (I.base.keep b o e n hb hx)
    · obtain ⟨sl, e1⟩ := I.base.slot b o e n hb hx
      exact ⟨sl, (hs.2 b (Nat.ne_of_lt (Nat.lt_of_lt_of_le (Heap.lt_size e) (I.ok.cab x c hfn hc)))).trans e1⟩
    · obtain ⟨o', e1⟩ := I.base.there b o e hx
      exact ⟨o', (hs.2 b (Nat.ne_of_lt (Nat.lt_of_lt_of_le (Heap.lt_size e) (I.ok.cab x c hfn hc)))).trans e1⟩
    · by_cases hj : j = i
      · subst hj
        rw [hi] at e1; cases e1
        rw [List.getElem?_set_self hiσ] at e2
        cases e2
        exact ⟨u, r, .inr ⟨.inl hk, c, hc, hc'⟩⟩
      · rw [List.getElem?_set_ne (Ne.symm hj)] at e2
        obtain ⟨u', r', q⟩ := hl j y v' e1 e2 e3
        refine ⟨u', r', ?_⟩
        rcases q with q | ⟨k, c', e, z'⟩
        · exact .inl q
        · refine .inr ⟨k, c', e, z'.sameBut hs ?_⟩
          rintro rfl
          exact hj (nodup_ix hN e1 (I.ok.inj _ _ _ e hc ▸ hi))
    · by_cases hcc : c' = c
      · subst hcc; exact ⟨_, hc'⟩
      · obtain ⟨w2, z2⟩ := I.cell y c' e
        exact ⟨w2, z2.sameBut hs hcc⟩
    · obtain ⟨e, n, ne, nf, d⟩ := I.pin p hp
      refine ⟨(hs.2 p.1 ?_).trans e, n, ne, nf, d⟩
      intro q
      rw [q, hoc] at e
      have q' : oc = p.2 := Option.some.inj e
      exact d w' (by rw [← q']; exact hocd)
theorem store_ok {M : Model} {A : Around} {E : Value → Shared → Prop} {i : Nat} {x : Str} {v : V} {u : Value} {Q : Unit → Shared → Prop} (I : Inv X pins σ H s) (hN : X.N.Nodup) (hi : X.N[i]? = some x) (hx : Loc X.env.scope x) (r : RelV v u)
    (h : ∀ s', Inv X pins (σ.set i (some v)) H s' → Q () s') (hf : X.fn x = true ∨ X.env.scope.names.lookup x = some .local := by first | exact .inl rfl | exact .inr rfl | assumption) : wpAny M A (storeName X.env x u) Q E s :=
  store_ok2 I hN hi hx r (fun s' I' _ => h s' I') hf
theorem Inv.call' {s' : Shared} {ch : List Addr} (I : Inv X pins σ H s) (ho : s'.os = s.os) (u : Un (frs X.stack) ch H H' s.heap s'.heap) (hok : HOk X.prog X.w H' s'.heap) (hg : AllBare s'.gens)
    (hch : ∀ b ∈ ch, (b ∈ X.ex ∨ X.s₀.heap.objs.size ≤ b) ∧ b ≠ X.env.locals ∧ (∀ x c, X.env.cells.lookup x = some c → c ≠ b) ∧ ∀ p ∈ X.pn ++ pins, p.1 ≠ b) : Inv X pins σ H' s' := by
  obtain ⟨h', g', d', t', o'⟩ := s'
  have e : o' = s.os := ho
  subst e
  exact I.call (g' := g') (t' := t') (d' := d') u hok hg hch
end
abbrev XK := Value → Option Addr → Hp → Prop
abbrev St := List (Option V)
abbrev VK := V → Hp → Prop
abbrev TE := St → Hp → VK → Prop
abbrev TT := St → Hp → (Bool → Hp → Prop) → Prop
abbrev TA := St → Hp → (List V → Hp → Prop) → Prop
structure Ends where
  nx : St → Hp → Prop
  rt : VK
  bk : St → Hp → Prop := fun _ _ => False
  ct : St → Hp → Prop := fun _ _ => False
abbrev TS := Ends → St → Hp → Prop
noncomputable def EP (X : Cx) (pins : List (Addr × Obj)) (σ : St) (Q : VK) (u : Value) (s' : Shared) : Prop := ∃ v H', Inv X pins σ H' s' ∧ RelV v u ∧ Q v H'
noncomputable def TP (X : Cx) (pins : List (Addr × Obj)) (σ : St) (Q : Bool → Hp → Prop) (b : Bool) (s' : Shared) : Prop := ∃ H', Inv X pins σ H' s' ∧ Q b H'
noncomputable def AP (X : Cx) (pins : List (Addr × Obj)) (σ : St) (Q : List V → Hp → Prop) (us : List Value) (s' : Shared) : Prop := ∃ vs H', Inv X pins σ H' s' ∧ Vals vs us ∧ Q vs H'
noncomputable def SP (X : Cx) (pins : List (Addr × Obj)) (D : Ends) (f : Flow) (s' : Shared) : Prop :=
  match f with
  | .next => ∃ σ' H', Inv X pins σ' H' s' ∧ D.nx σ' H'
  | .brk => ∃ σ' H', Inv X pins σ' H' s' ∧ D.bk σ' H'
  | .cont => ∃ σ' H', Inv X pins σ' H' s' ∧ D.ct σ' H'
  | .ret u => ∃ v σ' H', Inv X pins σ' H' s' ∧ RelV v u ∧ D.rt v H'
noncomputable def PE (X : Cx) (e : Expr) (t : TE) : Prop :=
  ∀ (pins : List (Addr × Obj)) (s : Shared) (σ : St) (H : Hp) (Q : VK), Inv X pins σ H s → t σ H Q → wpAny (model X.prog X.w) X.A (eval e X.env) (EP X pins σ Q) X.xe s
noncomputable def PT (X : Cx) (e : Expr) (t : TT) : Prop :=
  ∀ (pins : List (Addr × Obj)) (s : Shared) (σ : St) (H : Hp) (Q : Bool → Hp → Prop), Inv X pins σ H s → t σ H Q → wpAny (model X.prog X.w) X.A (isTrue e X.env (eval e X.env)) (TP X pins σ Q) X.xe s
noncomputable def PW (X : Cx) (e : Expr) (t : TT) : Prop :=
  ∀ (whole : Sem Value) (pins : List (Addr × Obj)) (s : Shared) (σ : St) (H : Hp) (Q : Bool → Hp → Prop), Inv X pins σ H s → t σ H Q → wpAny (model X.prog X.w) X.A (isTrue e X.env whole) (TP X pins σ Q) X.xe s
theorem PW.pt {X : Cx} {e : Expr} {t : TT} (h : PW X e t) : PT X e t := h _
noncomputable def PA (X : Cx) (es : List Expr) (t : TA) : Prop :=
  ∀ (pos : Pos) (pins : List (Addr × Obj)) (s : Shared) (σ : St) (H : Hp) (Q : List V → Hp → Prop), Inv X pins σ H s → t σ H Q → wpAny (model X.prog X.w) X.A (spliced (backTo pos (starEach es X.env))) (AP X pins σ Q) X.xe s
noncomputable def PS (X : Cx) (st : Stmt) (t : TS) : Prop :=
  ∀ (pins : List (Addr × Obj)) (s : Shared) (σ : St) (H : Hp) (D : Ends), Inv X pins σ H s → t D σ H → wpAny (model X.prog X.w) X.A (exec st X.env) (SP X pins D) X.xe s
noncomputable def PSs (X : Cx) (st : List Stmt) (t : TS) : Prop :=
  ∀ (pins : List (Addr × Obj)) (s : Shared) (σ : St) (H : Hp) (D : Ends), Inv X pins σ H s → t D σ H → wpAny (model X.prog X.w) X.A (execs st X.env) (SP X pins D) X.xe s
theorem thn {α : Type} {t : Sem α} {Q Q' : α → Shared → Prop} {M : Model} {A : Around} {E : Value → Shared → Prop} {s : Shared} (h : wpAny M A t Q E s) (hQ : ∀ a s, Q a s → Q' a s) : wpAny M A t Q' E s := wpAny_mono h hQ fun _ _ x => x
end L2
namespace L2
open PySem PySem.Spec PyProof.Rows
section
variable {X : Cx}
noncomputable def tVar (i : Nat) : TE := fun σ H Q => ∃ v, σ[i]? = some (some v) ∧ Q v H
noncomputable def tC (v : V) : TE := fun _ H Q => Q v H
theorem pe_var {i : Nat} {x : Str} {pos : Pos} (hN : X.N[i]? = some x) (hv : Vis X.env.scope x) (hd : (x == ("__debug__" : Str)) = false := by decide) (hcd : (x == ("__classdict__" : Str)) = false := by decide) : PE X (.Name x pos) (tVar i) := by
  intro pins s σ H Q I h
  obtain ⟨v, e, h⟩ := h
  obtain ⟨m, hn, hl⟩ := I.loc
  obtain ⟨u, r, l⟩ := hl i x v hN e hv
  have fin : EP X pins σ Q u s := ⟨v, H, I, r, h⟩
  rcases l with ⟨hk, hm⟩ | ⟨hk, c, hc, hcell⟩
  · exact wpAny_Name (wpAny_loadName_local I.ok.kind hk hn hm fin) hd
  · rcases hk with hk | hk
    · exact wpAny_Name (wpAny_loadName_cell I.ok.kind hk hc hcell fin) hd
    · exact wpAny_Name (wpAny_loadName_free I.ok.kind hk hc hcell fin hcd) hd
theorem pe_int {i j pos} : PE X (.Constant (.int i) j pos) (tC (.int i)) := fun _ _ _ H _ I h => wpAny_Constant_int ⟨.int i, H, I.tok _, ⟨_, rfl⟩, h⟩
theorem pe_bl {b j pos} : PE X (.Constant (.bool b) j pos) (tC (.bl b)) := fun _ _ _ H _ I h => Constant_bool ⟨.bl b, H, I, rfl, h⟩
theorem pe_non {j pos} : PE X (.Constant .none j pos) (tC .non) := fun _ _ _ H _ I h => Constant_none ⟨.non, H, I, rfl, h⟩
theorem pe_str {x j pos} : PE X (.Constant (.str x) j pos) (tC (.str x)) := fun _ _ _ H _ I h => Calls.Constant_str ⟨.str x, H, I.tok _, ⟨_, rfl⟩, h⟩
noncomputable def Gl (X : Cx) (x : Str) : Prop := X.env.kindOf x = some .globalImplicit
theorem ld_glob {E : Value → Shared → Prop} {pins : List (Addr × Obj)} {s : Shared} {σ : St} {H : Hp} {x : Str} {u : Value} {pos : Pos} {Q : Value → Shared → Prop} (I : Inv X pins σ H s) (hg : Gl X x) (hm : X.mg x = some u) (h : Q u s)
    (hd : (x == ("__debug__" : Str)) = false := by decide) : wpAny (model X.prog X.w) X.A (eval (.Name x pos) X.env) Q E s :=
  Calls.Name_function_global I.ok.kind hg (Calls.loadGlobal_global (by rw [I.ok.glob]; exact I.mod.glob.keeps I.bk) hm h) hd
theorem ld_blt {E : Value → Shared → Prop} {pins : List (Addr × Obj)} {s : Shared} {σ : St} {H : Hp} {x : Str} {u : Value} {pos : Pos} {Q : Value → Shared → Prop} (I : Inv X pins σ H s) (hg : Gl X x) (hm : X.mg x = none) (hv : bootBuiltins x = some u) (h : Q u s)
    (hn : x ≠ "__name__" := by decide) (hd : (x == ("__debug__" : Str)) = false := by decide) : wpAny (model X.prog X.w) X.A (eval (.Name x pos) X.env) Q E s := by
  obtain ⟨mb, h1, h2⟩ := I.mod.blt
  exact Calls.Name_function_global I.ok.kind hg (Calls.loadGlobal_builtin (by rw [I.ok.glob]; exact I.mod.glob.keeps I.bk) hm (by rw [I.ok.blt]; exact h1.keeps I.bk) ((h2 x hn).trans hv) h) hd
theorem pe_bltn {x : Str} {v : V} {u : Value} {pos : Pos} (hg : Gl X x) (hm : X.mg x = none) (hv : bootBuiltins x = some u) (r : RelV v u) (hn : x ≠ "__name__" := by decide) (hd : (x == ("__debug__" : Str)) = false := by decide) : PE X (.Name x pos) (tC v) :=
  fun _ _ _ H _ I h => ld_blt I hg hm hv ⟨v, H, I, r, h⟩ hn hd
variable {a b : Expr} {ta tb : TE} {pos : Pos}
noncomputable def tB (t : TE) : TT := fun σ H Q => t σ H fun x H1 => ∃ c, x = .bl c ∧ Q c H1
theorem pt_val {e : Expr} {t : TE} (h : PE X e t) (he : ∀ whole, isTrue e X.env whole = (do let v ← whole; standAt e.pos; holding [v] (truthy v)) := by intro _; rfl) : PT X e (tB t) := by
  intro pins s σ H Q I hw
  refine isTrue_plain (thn (h pins s σ H _ I hw) fun v s1 ⟨x, H1, I1, r1, q1⟩ => ?_) (he _)
  obtain ⟨d, rfl, q⟩ := q1
  cases r1
  exact wpAny_truthy_bool ⟨H1, I1, q⟩
variable {tA tB' : TT} {rest : List Expr}
noncomputable def tAnd (t u : TT) : TT := fun σ H Q => t σ H fun c H1 => if c = true then u σ H1 Q else Q false H1
noncomputable def tOr (t u : TT) : TT := fun σ H Q => t σ H fun c H1 => if c = true then Q true H1 else u σ H1 Q
noncomputable def tNot (t : TT) : TT := fun σ H Q => t σ H fun c H1 => Q (!c) H1
theorem pw_and1 (ha : PT X a tA) : PW X (.BoolOp .And [a] pos) tA := by
  intro wh pins s σ H Q I h
  refine isTrue_and (thn (ha pins s σ H Q I h) fun c s1 e => ?_)
  cases c with
  | true => exact isTrue_and_nil e
  | false => exact e
theorem pw_or1 (ha : PT X a tA) : PW X (.BoolOp .Or [a] pos) tA := by
  intro wh pins s σ H Q I h
  refine isTrue_or (thn (ha pins s σ H Q I h) fun c s1 e => ?_)
  cases c with
  | false => exact isTrue_or_nil e
  | true => exact e
theorem pw_and (ha : PT X a tA) (hb : PW X (.BoolOp .And (b :: rest) pos) tB') : PW X (.BoolOp .And (a :: b :: rest) pos) (tAnd tA tB') := by
  intro wh pins s σ H Q I h
  refine isTrue_and (thn (ha pins s σ H _ I h) fun c s1 ⟨H1, I1, q1⟩ => ?_)
  cases c with
  | true => exact hb wh pins s1 σ H1 Q I1 q1
  | false => exact ⟨H1, I1, q1⟩
theorem pw_or (ha : PT X a tA) (hb : PW X (.BoolOp .Or (b :: rest) pos) tB') : PW X (.BoolOp .Or (a :: b :: rest) pos) (tOr tA tB') := by
  intro wh pins s σ H Q I h
  refine isTrue_or (thn (ha pins s σ H _ I h) fun c s1 ⟨H1, I1, q1⟩ => ?_)
  cases c with
  | true => exact ⟨H1, I1, q1⟩
  | false => exact hb wh pins s1 σ H1 Q I1 q1
theorem pt_not (ha : PT X a tA) : PT X (.UnaryOp .Not a pos) (tNot tA) := by
  intro pins s σ H Q I h
  exact isTrue_not (ha pins s σ H (fun c H1 => Q (!c) H1) I h)
noncomputable def tIf (t : TT) (ta tb : TE) : TE := fun σ H Q => t σ H fun c H1 => if c = true then ta σ H1 Q else tb σ H1 Q
theorem pe_ifExp {c : Expr} (hc : PT X c tA) (ha : PE X a ta) (hb : PE X b tb) : PE X (.IfExp c a b pos) (tIf tA ta tb) := by
  intro pins s σ H Q I h
  refine wpAny_IfExp (thn (hc pins s σ H _ I h) fun d s1 ⟨H1, I1, q1⟩ => ?_)
  cases d with
  | true => exact ha pins s1 σ H1 Q I1 q1
  | false => exact hb pins s1 σ H1 Q I1 q1
end
end L2
namespace L2
open PySem PySem.Spec PyProof.Rows
noncomputable def SqL (K : PySem.W.Frag) (H : Hp) (a : Addr) (xs : List V) : Prop :=
  Rd H a (.lst xs) ∨
    ∃ (o : Obj) (its : Array Value) (n : Nat), K.lookup a = some o ∧ o.cls = .type "list" ∧ o.dict = none ∧ o.data = .seq its n ∧ its.size ≤ sizeLine ∧ Vals xs its.toList
noncomputable def SqT (K : PySem.W.Frag) (H : Hp) (a : Addr) (xs : List V) : Prop :=
  Rd H a (.tup xs) ∨
    ∃ (o : Obj) (its : Array Value) (n : Nat), K.lookup a = some o ∧ o.cls = .type "tuple" ∧ o.data = .seq its n ∧ its.size ≤ sizeLine ∧ Vals xs its.toList
noncomputable def absV : Value → Option V
  | .none => some .non
  | .bool b => some (.bl b)
  | .int i _ => some (.int i)
  | .str x _ => some (.str x)
  | .bytes b _ => some (.byt b)
  | .float b _ => some (.flt b)
  | .ref a => some (.ref a)
  | .type n => some (.ty n)
  | _ => none
theorem RelV.abs {x : V} {u : Value} (r : RelV x u) : absV u = some x := by
  cases x with
  | non => cases r; rfl
  | bl _ => cases r; rfl
  | int _ => obtain ⟨t, rfl⟩ := r; rfl
  | str _ => obtain ⟨t, rfl⟩ := r; rfl
  | byt _ => obtain ⟨t, rfl⟩ := r; rfl
  | flt _ => obtain ⟨t, rfl⟩ := r; rfl
  | ref _ => cases r; rfl
  | ty _ => cases r; rfl
theorem RelV.inj {x y : V} {u : Value} (r : RelV x u) (q : RelV y u) : x = y := Option.some.inj (r.abs.symm.trans q.abs)
theorem Vals.inj : ∀ {xs ys : List V} {us : List Value}, Vals xs us → Vals ys us → xs = ys
  | _, _, _, .nil, .nil => rfl
  | _, _, _, .cons r t, .cons r' t' => by rw [r.inj r', Vals.inj t t']
section
variable {X : Cx} {pins : List (Addr × Obj)} {σ : St} {H : Hp} {s : Shared} {a : Addr} {xs ys : List V}
theorem SqL.of {K : PySem.W.Frag} (h : H a = some (.lst xs)) : SqL K H a xs := .inl (.inl h)
theorem SqT.of {K : PySem.W.Frag} (h : H a = some (.tup xs)) : SqT K H a xs := .inl (.inl h)
theorem Inv.list (I : Inv X pins σ H s) (h : SqL X.K H a xs) : ∃ its : List Value, Vals xs its ∧ PlainL s.heap a its.toArray ∧ xs.length ≤ sizeLine := by
  rcases h with h | ⟨o, its, n, hk, hc, hd, hs, hz, r⟩
  · obtain ⟨z, its, n, r, e⟩ := h.ok I.hok
    exact ⟨its, r, ⟨_, n, e, rfl, rfl, rfl⟩, z⟩
  · refine ⟨its.toList, r, ⟨o, n, I.kIn a o hk, hc, hd, by simpa using hs⟩, ?_⟩
    have e := r.length
    simp only [Array.length_toList] at e
    omega
theorem Inv.tuple (I : Inv X pins σ H s) (h : SqT X.K H a xs) : ∃ its : List Value, Vals xs its ∧ IsTup s.heap a its.toArray ∧ xs.length ≤ sizeLine := by
  rcases h with h | ⟨o, its, n, hk, hc, hs, hz, r⟩
  · obtain ⟨z, its, r, p⟩ := h.ok I.hok
    exact ⟨its, r, p, z⟩
  · refine ⟨its.toList, r, ⟨o, I.kIn a o hk, hc, n, by simpa using hs⟩, ?_⟩
    have e := r.length
    simp only [Array.length_toList] at e
    omega
theorem Inv.list_inj (I : Inv X pins σ H s) (h : SqL X.K H a xs) (h' : SqL X.K H a ys) : xs = ys := by
  obtain ⟨its, r, ⟨o, n, e, _, _, d⟩, _⟩ := I.list h
  obtain ⟨its', r', ⟨o', n', e', _, _, d'⟩, _⟩ := I.list h'
  rw [e] at e'; cases e'
  rw [d] at d'
  injection d' with d1 _
  have : its = its' := by simpa using congrArg Array.toList d1
  subst this
  exact r.inj r'
theorem Inv.tuple_inj (I : Inv X pins σ H s) (h : SqT X.K H a xs) (h' : SqT X.K H a ys) : xs = ys := by
  obtain ⟨its, r, ⟨o, e, _, n, d⟩, _⟩ := I.tuple h
  obtain ⟨its', r', ⟨o', e', _, n', d'⟩, _⟩ := I.tuple h'
  rw [e] at e'; cases e'
  rw [d] at d'
  injection d' with d1 _
  have : its = its' := by simpa using congrArg Array.toList d1
  subst this
  exact r.inj r'
end
noncomputable abbrev Cx.wish (X : Cx) (E : Value → Shared → Prop) : Cx := { X with xe := E }
noncomputable abbrev Cx.nox (X : Cx) : Cx := X.wish fun _ _ => False
theorem Cx.Ok.wish {X : Cx} (ok : X.Ok) (E : Value → Shared → Prop) : (X.wish E).Ok :=
  ⟨ok.mod, ok.kind, ok.glob, ok.blt, ok.above, ok.inj, ok.has, ok.cab, ok.hd, ok.frames, ok.stk, ok.exf, ok.bs, ok.bsz, ok.noex, ok.exfs, ok.funs, ok.frf⟩
theorem Cx.Ok.unwish {X : Cx} {E : Value → Shared → Prop} (ok : (X.wish E).Ok) : X.Ok :=
  ⟨ok.mod, ok.kind, ok.glob, ok.blt, ok.above, ok.inj, ok.has, ok.cab, ok.hd, ok.frames, ok.stk, ok.exf, ok.bs, ok.bsz, ok.noex, ok.exfs, ok.funs, ok.frf⟩
section
variable {X : Cx} {pins : List (Addr × Obj)} {σ : St} {H : Hp} {s : Shared} {E : Value → Shared → Prop}
theorem Inv.wish (I : Inv X pins σ H s) (E : Value → Shared → Prop) : Inv (X.wish E) pins σ H s := ⟨I.ok.wish E, I.os, I.bare, I.base, I.loc, I.cell, I.free, I.freeC, I.pin, I.hok, I.len⟩
theorem Inv.unwish (I : Inv (X.wish E) pins σ H s) : Inv X pins σ H s := ⟨I.ok.unwish, I.os, I.bare, I.base, I.loc, I.cell, I.free, I.freeC, I.pin, I.hok, I.len⟩
theorem SP.unwish {D : Ends} {f : Flow} {s' : Shared} (h : SP (X.wish E) pins D f s') : SP X pins D f s' := by
  cases f with
  | next => obtain ⟨σ', H', I, q⟩ := h; exact ⟨σ', H', I.unwish, q⟩
  | brk => obtain ⟨σ', H', I, q⟩ := h; exact ⟨σ', H', I.unwish, q⟩
  | cont => obtain ⟨σ', H', I, q⟩ := h; exact ⟨σ', H', I.unwish, q⟩
  | ret u => obtain ⟨v, σ', H', I, r, q⟩ := h; exact ⟨v, σ', H', I.unwish, r, q⟩
theorem PSs.nox {st : List Stmt} {t : TS} (h : PSs X.nox st t) : PSs X st t := fun pins s σ H D I hw =>
  wpAny_mono (h pins s σ H D (I.wish _) hw) (fun _ _ q => q.unwish) fun _ _ z => False.elim z
end
section
variable {X : Cx} {st : Stmt} {rest : List Stmt} {t u : TS} {e : Expr} {te : TE} {pos : Pos}
noncomputable def tNext : TS := fun D σ H => D.nx σ H
noncomputable def tSeq (t u : TS) : TS := fun D σ H => t { D with nx := u D } σ H
theorem pss_nil : PSs X [] tNext := fun _ _ σ H _ I h => wpAny_execs_nil ⟨σ, H, I, h⟩
theorem pss_cons (h1 : PS X st t) (h2 : PSs X rest u) : PSs X (st :: rest) (tSeq t u) := by
  intro pins s σ H D I h
  refine wpAny_execs_cons (thn (h1 pins s σ H { D with nx := u D } I h) fun f s1 q => ?_)
  cases f with
  | next =>
    obtain ⟨σ', H', I', q⟩ := q
    exact h2 pins s1 σ' H' D I' q
  | ret v => exact q
  | brk => exact q
  | cont => exact q
theorem pss_one (h1 : PS X st t) : PSs X [st] t := by
  intro pins s σ H D I h
  refine wpAny_execs_cons (thn (h1 pins s σ H D I h) fun f s1 q => ?_)
  cases f with
  | next => exact wpAny_execs_nil q
  | ret v => exact q
  | brk => exact q
  | cont => exact q
theorem Inv.quiet {pins : List (Addr × Obj)} {σ : St} {H : Hp} {s : Shared} (I : Inv X pins σ H s) : interactive X.env = false := by simp [interactive, I.ok.kind]
noncomputable def tDrop (te : TE) : TS := fun D σ H => te σ H fun _ H1 => D.nx σ H1
theorem ps_expr (he : PE X e te) (hs : swapsWith e none pos.line X.env = pure false := by rfl) : PS X (.Expr e pos) (tDrop te) := by
  intro pins s σ H D I h
  exact wpAny_Expr_any (thn (he pins s σ H _ I h) fun v s1 ⟨x, H1, I1, r1, q1⟩ => ⟨σ, H1, I1, q1⟩) I.quiet hs
noncomputable def tRet (te : TE) : TS := fun D σ H => te σ H D.rt
theorem ps_ret (he : PE X e te) : PS X (.Return (some e) pos) (tRet te) := by
  intro pins s σ H D I h
  exact wpAny_Return_some (thn (he pins s σ H _ I h) fun v s1 ⟨x, H1, I1, r1, q1⟩ => ⟨x, σ, H1, I1, r1, q1⟩)
noncomputable def tIfS (c : TT) (t u : TS) : TS := fun D σ H => c σ H fun b H1 => if b = true then t D σ H1 else u D σ H1
theorem ps_if {c : Expr} {a b : List Stmt} {tc : TT} (hc : PT X c tc) (ha : PSs X a t) (hb : PSs X b u) : PS X (.If c a b pos) (tIfS tc t u) := by
  intro pins s σ H D I h
  refine wpAny_If (thn (hc pins s σ H _ I h) fun d s1 ⟨H1, I1, q1⟩ => ?_)
  cases d with
  | true => exact ha pins s1 σ H1 D I1 q1
  | false => exact hb pins s1 σ H1 D I1 q1
end
abbrev TG := V → St → Hp → (St → Hp → Prop) → Prop
abbrev TGs := List V → St → Hp → (St → Hp → Prop) → Prop
noncomputable def PG (X : Cx) (target : Expr) (t : TG) : Prop :=
  ∀ (pins : List (Addr × Obj)) (s : Shared) (σ : St) (H : Hp) (v : V) (u : Value) (Q : St → Hp → Prop), Inv X pins σ H s → RelV v u → t v σ H Q →
    wpAny (model X.prog X.w) X.A (assign target X.env u) (fun _ s' => ∃ σ' H', Inv X pins σ' H' s' ∧ Q σ' H') X.xe s
noncomputable def PGs (X : Cx) (ts : List Expr) (t : TGs) : Prop :=
  ∀ (pins : List (Addr × Obj)) (s : Shared) (σ : St) (H : Hp) (vs : List V) (us : List Value) (Q : St → Hp → Prop), Inv X pins σ H s → Vals vs us → t vs σ H Q →
    wpAny (model X.prog X.w) X.A (assignInOrder ((assignEach ts X.env).map (·.2)) us) (fun _ s' => ∃ σ' H', Inv X pins σ' H' s' ∧ Q σ' H') X.xe s
abbrev TSet := V → V → V → Hp → (Hp → Prop) → Prop
noncomputable def PSet (X : Cx) (t : TSet) : Prop :=
  ∀ (pins : List (Addr × Obj)) (s : Shared) (σ : St) (H : Hp) (o i v : V) (ov iv u : Value) (Q : Hp → Prop), Inv X pins σ H s → RelV o ov → RelV i iv → RelV v u → t o i v H Q →
    wpAny (model X.prog X.w) X.A (setItem ov iv u) (fun _ s' => ∃ H', Inv X pins σ H' s' ∧ Q H') X.xe s
section
variable {X : Cx} {pos : Pos}
noncomputable def gName (i : Nat) : TG := fun v σ H Q => Q (σ.set i (some v)) H
theorem pg_name {i : Nat} {x : Str} (hN : X.N.Nodup) (hi : X.N[i]? = some x) (hx : Loc X.env.scope x) (hf : X.fn x = true ∨ X.env.scope.names.lookup x = some .local := by first | exact .inl rfl | exact .inr rfl | assumption) : PG X (.Name x pos) (gName i) := by
  intro pins s σ H v u Q I r h
  exact wpAny_assign_Name (store_ok I hN hi hx r (fun s' I' => ⟨_, H, I', h⟩) hf)
noncomputable def gNil : TGs := fun vs σ H Q => vs = [] ∧ Q σ H
noncomputable def gCons (t : TG) (u : TGs) : TGs := fun vs σ H Q => ∃ v r, vs = v :: r ∧ t v σ H fun σ' H' => u r σ' H' Q
theorem pgs_nil : PGs X [] gNil := by
  intro pins s σ H vs us Q I r h
  obtain ⟨e, h⟩ := h
  subst e
  cases r
  exact assignInOrder_nil ⟨σ, H, I, h⟩
theorem pgs_cons {e : Expr} {es : List Expr} {t : TG} {u : TGs} (h1 : PG X e t) (h2 : PGs X es u)
    (hs : (assignEach (e :: es) X.env).map (·.2) = assign e X.env :: (assignEach es X.env).map (·.2) := by rfl) : PGs X (e :: es) (gCons t u) := by
  intro pins s σ H vs us Q I r h
  obtain ⟨v, vr, e1, h⟩ := h
  subst e1
  cases r with
  | cons r rr =>
    rw [hs]
    refine assignInOrder_cons (thn (h1 pins s σ H _ _ _ I r h) fun _ s1 ⟨σ1, H1, I1, q1⟩ => ?_)
    exact h2 pins s1 σ1 H1 _ _ Q I1 rr q1
noncomputable def gTup (K : PySem.W.Frag) (n : Nat) (t : TGs) : TG := fun v σ H Q => ∃ a xs, v = .ref a ∧ SqT K H a xs ∧ xs.length = n ∧ t xs σ H Q
theorem pg_tup {es : List Expr} {k : Nat} {t : TGs} {n : Nat} (hc : X.calm = true) (h : PGs X es t)
    (hn : (assignEach es X.env).length = n := by rfl) (hst : (assignEach es X.env).findIdx? (·.1) = none := by rfl) : PG X (.Tuple es k pos) (gTup X.K n t) := by
  intro pins s σ H v u Q I r hw
  obtain ⟨a, xs, e1, hq, hl, hw⟩ := hw
  subst e1
  cases r
  obtain ⟨its, rv, ht, hz⟩ := I.tuple hq
  refine assign_Tuple_tuple (I.ok.hd hc) ht (by simp [hn, ← hl, rv.length]) hst fun h' hx => ?_
  have I1 : Inv X pins σ H { s with heap := h' } := I.kept (t' := s.toks) fun b o e => hx b o (Nat.ne_of_lt (Heap.lt_size e)) e
  exact h pins _ σ H xs _ Q I1 (by simpa using rv) hw
noncomputable def gSub (to ti : TE) (t : TSet) : TG := fun v σ H Q => to σ H fun o H1 => ti σ H1 fun i H2 => t o i v H2 fun H3 => Q σ H3
theorem pg_sub {o i : Expr} {to ti : TE} {t : TSet} (ho : PE X o to) (hi : PE X i ti) (hs : PSet X t)
    (ha : ∀ v, assign (.Subscript o i pos) X.env v = (do
      let ov ← holding [v] (eval o X.env)
      let iv ← holding [v, ov] (eval i X.env)
      standAt pos
      holding [v, ov, iv] (setItem ov iv v)
      release [v, ov, iv] []) := by intro _; rfl) : PG X (.Subscript o i pos) (gSub to ti t) := by
  intro pins s σ H v u Q I r h
  rw [ha]
  refine wpAny_bind (wpAny_holding (thn (ho pins s σ H _ I h) fun ov s1 ⟨x, H1, I1, r1, q1⟩ => ?_))
  refine wpAny_bind (wpAny_holding (thn (hi pins s1 σ H1 _ I1 q1) fun iv s2 ⟨y, H2, I2, r2, q2⟩ => ?_))
  refine wpAny_bind (wpAny_standAt (wpAny_bind (wpAny_holding (thn (hs pins s2 σ H2 x y v ov iv u _ I2 r1 r2 r q2) fun _ s3 ⟨H3, I3, q3⟩ => ?_))))
  exact wpAny_release ⟨σ, H3, I3, q3⟩
noncomputable def tAsg (te : TE) (g : TG) : TS := fun D σ H => te σ H fun x H1 => g x σ H1 D.nx
theorem ps_asg {tg e : Expr} {te : TE} {g : TG} (he : PE X e te) (hg : PG X tg g) (hs : swapsWithSole [tg] e pos.line X.env = pure false := by rfl) (hw : swappedStores [tg] e X.env = pure none := by rfl)
    (h1 : (assignEach [tg] X.env).map (·.2) = [assign tg X.env] := by rfl) : PS X (.Assign [tg] e pos) (tAsg te g) := by
  intro pins s σ H D I h
  refine wpAny_Assign_stores (thn (he pins s σ H _ I h) fun v s1 ⟨x, H1, I1, r1, q1⟩ => ?_) hs hw
  rw [h1]
  exact thn (hg pins s1 σ H1 x v _ I1 r1 q1) fun _ s2 q => q
theorem ps_set {i : Nat} {x : Str} {e : Expr} {te : TE} {pos' : Pos} (hN : X.N.Nodup) (hi : X.N[i]? = some x) (hx : Loc X.env.scope x) (he : PE X e te) (hs : swapsWith e (some (.Name x pos')) pos.line X.env = pure false := by rfl) (hf : X.fn x = true ∨ X.env.scope.names.lookup x = some .local := by first | exact .inl rfl | exact .inr rfl | assumption) :
    PS X (.Assign [.Name x pos'] e pos) (tAsg te (gName i)) := by
  intro pins s σ H D I h
  refine wpAny_Assign_Name (thn (he pins s σ H _ I h) fun v s1 ⟨y, H1, I1, r1, q1⟩ => ?_) hs
  exact store_ok I1 hN hi hx r1 (fun s2 I2 => ⟨_, H1, I2, q1⟩) hf
end
section
variable {X : Cx} {pos : Pos}
end
structure It where
  go : Nat → Hp → Prop
  yld : Nat → Hp → V → Hp → Prop
  stop : Nat → Hp → Prop
noncomputable def FpOk (X : Cx) (pins : List (Addr × Obj)) (H : Hp) (b : Addr) : Prop :=
  H b = none ∧ b ≠ X.env.locals ∧ b ∉ X.fs ∧ (b ∈ X.ex ∨ X.s₀.heap.objs.size ≤ b) ∧ (∀ x c, X.env.cells.lookup x = some c → c ≠ b) ∧ ∀ p ∈ X.pn ++ pins, p.1 ≠ b
theorem Inv.fpOk {X : Cx} {pins : List (Addr × Obj)} {σ : St} {H H' : Hp} {s : Shared} {b : Addr} (I : Inv X pins σ H s) (hb : s.heap.objs.size ≤ b) (hn : H' b = none) : FpOk X pins H' b := by
  refine ⟨hn, Nat.ne_of_gt (Nat.lt_of_lt_of_le I.lt hb), I.nofs hb, .inr (Nat.le_trans I.sz hb), fun x c e z => ?_, fun p hp z => ?_⟩
  · obtain ⟨v, q⟩ := I.cell x c e
    exact absurd (Nat.lt_of_lt_of_le q.lt (by rw [z]; exact hb)) (Nat.lt_irrefl _)
  · exact absurd (Nat.lt_of_lt_of_le (Heap.lt_size (I.pin p hp).1) (by rw [z]; exact hb)) (Nat.lt_irrefl _)
structure Turn (P : Program) (w : World) (K : PySem.W.Frag) (tg : Expr) (J : It) (fp : List Addr) (it : Addr) (tn : Nat → Heap → Prop) : Prop where
  mem : it ∈ fp
  obj : ∀ i h, tn i h → ∀ b ∈ fp, ∃ o, h.get? b = some o ∧ ∀ v, o.data ≠ .cell v
  keep : ∀ i h h', tn i h → (∀ b ∈ fp, ∀ o, h.get? b = some o → h'.get? b = some o) → tn i h'
  item : ∀ (X : Cx), X.prog = P → X.w = w → X.K = K → X.calm = true → ∀ (i : Nat) (pins : List (Addr × Obj)) (s : Shared) (σ : St) (H : Hp) (E : Value → Shared → Prop), Inv X pins σ H s → (∀ b ∈ fp, FpOk X pins H b) → tn i s.heap → J.go i H →
    wpAny (model P w) X.A (pyNext (.ref it)) (fun r s1 => ∃ u, r = some u ∧
      wpAny (model P w) X.A (letOwnedTupleGo tg (.ref it) u) (fun _ s2 => ∃ x H', Inv X pins σ H' s2 ∧ RelV x u ∧ J.yld i H x H' ∧ tn (i + 1) s2.heap ∧ ∀ b ∈ fp, H' b = none) E s1) E s
  done : ∀ (X : Cx), X.prog = P → X.w = w → X.K = K → X.calm = true → ∀ (i : Nat) (pins : List (Addr × Obj)) (s : Shared) (σ : St) (H : Hp) (E : Value → Shared → Prop), Inv X pins σ H s → (∀ b ∈ fp, FpOk X pins H b) → tn i s.heap → J.stop i H →
    wpAny (model P w) X.A (pyNext (.ref it)) (fun r s1 => r = none ∧ Inv X pins σ H s1) E s
  self : ∀ (A : Around) (i : Nat) (s : Shared) (Q : Value → Shared → Prop) (E : Value → Shared → Prop), tn i s.heap → Q (.ref it) s → wpAny (model P w) A (pyIter (.ref it)) Q E s
abbrev TI := St → Hp → (It → Hp → Prop) → Prop
noncomputable def PIE (X : Cx) (pins : List (Addr × Obj)) (σ : St) (tg : Expr) (R : It → Hp → Prop) (itv : Value) (s2 : Shared) : Prop :=
  ∃ (it : Addr) (fp : List Addr) (tn : Nat → Heap → Prop) (J : It) (H' : Hp), itv = .ref it ∧ Inv X pins σ H' s2 ∧ Turn X.prog X.w X.K tg J fp it tn ∧ tn 0 s2.heap ∧ (∀ b ∈ fp, FpOk X pins H' b) ∧ R J H'
noncomputable def PI (X : Cx) (tg iter : Expr) (wi : TI) : Prop :=
  ∀ (pins : List (Addr × Obj)) (s : Shared) (σ : St) (H : Hp) (R : It → Hp → Prop), Inv X pins σ H s → wi σ H R →
    wpAny (model X.prog X.w) X.A (eval iter X.env) (fun v s1 => wpAny (model X.prog X.w) X.A (pyIter v) (PIE X pins σ tg R) X.xe s1) X.xe s
theorem go_of {M : Model} {A : Around} {E : Value → Shared → Prop} {s : Shared} {tg : Expr} {it : Addr} {u : Value} {o : Obj} {n : String} {vs : Array Value} {Q : Unit → Shared → Prop} (ho : s.heap.get? it = some o) (hc : o.cls = .type n) (hd : o.data = .fields vs)
    (hn : ["enumerate", "zip", "dict_itemiterator", "dict_reverseitemiterator", "odict_iterator", "itertools.zip_longest", "itertools.pairwise"].contains n = false) (hQ : Q () s) : wpAny M A (letOwnedTupleGo tg (.ref it) u) Q E s := by
  unfold letOwnedTupleGo
  cases tg <;> first
    | exact wpAny_pure hQ
    | (cases u <;> first
        | exact wpAny_pure hQ
        | (refine wpAny_bind (wpAny_load ho ?_)
           rw [hc, hd]
           show wpAny M A (if (["enumerate", "zip", "dict_itemiterator", "dict_reverseitemiterator", "odict_iterator", "itertools.zip_longest", "itertools.pairwise"].contains n && vs[0]? == some (rawInt _)) = true then _ else _) Q E s
           rw [if_neg (by intro h; rw [hn, Bool.false_and] at h; cases h)]
           exact wpAny_pure hQ))
noncomputable def Itl (K : PySem.W.Frag) (a : Addr) : It :=
  ⟨fun i H => ∃ xs x, SqL K H a xs ∧ xs[i]? = some x, fun i H x H' => H' = H ∧ ∀ xs, SqL K H a xs → xs[i]? = some x, fun i H => ∃ xs, SqL K H a xs ∧ xs.length ≤ i⟩
noncomputable def Itt (K : PySem.W.Frag) (a : Addr) : It :=
  ⟨fun i H => ∃ xs x, SqT K H a xs ∧ xs[i]? = some x, fun i H x H' => H' = H ∧ ∀ xs, SqT K H a xs → xs[i]? = some x, fun i H => ∃ xs, SqT K H a xs ∧ xs.length ≤ i⟩
noncomputable def Itr (lo : Int) (n : Nat) : It := ⟨fun i _ => i < n, fun i H x H' => H' = H ∧ x = .int (lo + i), fun i _ => n ≤ i⟩
theorem turn_list {P : Program} {w : World} {K : PySem.W.Frag} {tg : Expr} (a it : Addr) : Turn P w K tg (Itl K a) [it] it (fun i h => h.IsListIter it a i) where
  mem := by simp
  obj := fun i h st b hb => by
    have e : b = it := by simpa using hb
    subst e
    obtain ⟨o, e, c, d⟩ := st
    exact ⟨o, e, fun v z => by rw [d] at z; cases z⟩
  keep := fun i h h' st k => st.at fun o e => k it (by simp) o e
  item := by
    intro X hP hw hK hc i pins s σ H E I hf st hg
    subst hP hw hK
    obtain ⟨xs, x, hq, hx⟩ := hg
    obtain ⟨its, rv, p, hz⟩ := I.list hq
    obtain ⟨u, hu, ru⟩ := rv.get hx
    obtain ⟨f0, f1, f2, f3, f4, f5⟩ := hf it (by simp)
    refine wpAny_pyNext_list_item st p.isList (x := u) (by simpa using hu) fun h' st' sb => ?_
    have I1 : Inv X pins σ H { s with heap := h' } := I.turned (t' := s.toks) (fun b o hb e => (sb.2 b hb).trans e) f0 f1 f3 f4 f5
    obtain ⟨o, e, c, d⟩ := id st'
    exact ⟨u, rfl, go_of (s := { s with heap := h' }) e c d (by decide) ⟨x, H, I1, ru, ⟨rfl, fun ys hy => by rw [I.list_inj hy hq]; exact hx⟩, st', fun b hb => (hf b hb).1⟩⟩
  done := by
    intro X hP hw hK hc i pins s σ H E I hf st hg
    subst hP hw hK
    obtain ⟨xs, hq, hx⟩ := hg
    obtain ⟨its, rv, p, hz⟩ := I.list hq
    obtain ⟨f0, f1, f2, f3, f4, f5⟩ := hf it (by simp)
    have hl := rv.length
    exact wpAny_pyNext_list_end (I.ok.hd hc) st p.isList (by simp; omega) fun h' eb => ⟨rfl, I.turned (t' := s.toks) (fun b o hb e => eb b o hb e) f0 f1 f3 f4 f5⟩
  self := fun _ _ _ _ _ st h => wpAny_pyIter_listiter st h
theorem turn_tuple {P : Program} {w : World} {K : PySem.W.Frag} {tg : Expr} (a it : Addr) : Turn P w K tg (Itt K a) [it] it (fun i h => h.IsTupleIter it a i) where
  mem := by simp
  obj := fun i h st b hb => by
    have e : b = it := by simpa using hb
    subst e
    obtain ⟨o, e, c, d⟩ := st
    exact ⟨o, e, fun v z => by rw [d] at z; cases z⟩
  keep := fun i h h' st k => st.at fun o e => k it (by simp) o e
  item := by
    intro X hP hw hK hc i pins s σ H E I hf st hg
    subst hP hw hK
    obtain ⟨xs, x, hq, hx⟩ := hg
    obtain ⟨its, rv, p, hz⟩ := I.tuple hq
    obtain ⟨u, hu, ru⟩ := rv.get hx
    obtain ⟨f0, f1, f2, f3, f4, f5⟩ := hf it (by simp)
    refine wpAny_pyNext_tuple_item st (show s.heap.IsTuple a its.toArray from p) (x := u) (by simpa using hu) fun h' st' sb => ?_
    have I1 : Inv X pins σ H { s with heap := h' } := I.turned (t' := s.toks) (fun b o hb e => (sb.2 b hb).trans e) f0 f1 f3 f4 f5
    obtain ⟨o, e, c, d⟩ := id st'
    exact ⟨u, rfl, go_of (s := { s with heap := h' }) e c d (by decide) ⟨x, H, I1, ru, ⟨rfl, fun ys hy => by rw [I.tuple_inj hy hq]; exact hx⟩, st', fun b hb => (hf b hb).1⟩⟩
  done := by
    intro X hP hw hK hc i pins s σ H E I hf st hg
    subst hP hw hK
    obtain ⟨xs, hq, hx⟩ := hg
    obtain ⟨its, rv, p, hz⟩ := I.tuple hq
    obtain ⟨f0, f1, f2, f3, f4, f5⟩ := hf it (by simp)
    have hl := rv.length
    exact wpAny_pyNext_tuple_end (I.ok.hd hc) st (show s.heap.IsTuple a its.toArray from p) (by simp; omega) fun h' eb => ⟨rfl, I.turned (t' := s.toks) (fun b o hb e => eb b o hb e) f0 f1 f3 f4 f5⟩
  self := fun _ _ _ _ _ st h => wpAny_pyIter_tupleiter st h
theorem turn_range {P : Program} {w : World} {K : PySem.W.Frag} {tg : Expr} (it : Addr) (lo : Int) (n : Nat) : Turn P w K tg (Itr lo n) [it] it (fun i h => IsRangeIter h it (lo + (i : Nat) * 1) ((n : Int) - (i : Nat)) 1) where
  mem := by simp
  obj := fun i h st b hb => by
    have e : b = it := by simpa using hb
    subst e
    exact ⟨_, st, fun v z => by
      have z' : Data.fields _ = Data.cell v := z
      cases z'⟩
  keep := fun i h h' st k => k it (by simp) _ st
  item := by
    intro X hP hw hK hc i pins s σ H E I hf st hg
    subst hP hw hK
    obtain ⟨f0, f1, f2, f3, f4, f5⟩ := hf it (by simp)
    have W := Walks.range (prog := X.prog) (w := X.w) (I.ok.hd hc) it lo 1 n
    refine W.item i s _ _ hg st fun v h' tk hv st' kk => ?_
    obtain ⟨t, rfl⟩ := hv
    have I1 : Inv X pins σ H { s with heap := h', toks := tk } := I.turned (fun b o hb e => kk b o (by simpa using hb) e) f0 f1 f3 f4 f5
    refine ⟨_, rfl, go_of (s := { s with heap := h', toks := tk }) (n := "range_iterator") st' rfl rfl (by decide) ⟨.int (lo + i), H, I1, ⟨t, ?_⟩, ⟨rfl, rfl⟩, st', fun b hb => (hf b hb).1⟩⟩
    rw [Int.mul_one]
  done := by
    intro X hP hw hK hc i pins s σ H E I hf st hg
    subst hP hw hK
    obtain ⟨f0, f1, f2, f3, f4, f5⟩ := hf it (by simp)
    exact wpAny_pyNext_range_end (I.ok.hd hc) st (by have : n ≤ i := hg; omega) fun h' eb => ⟨rfl, I.turned (t' := s.toks) (fun b o hb e => eb b o hb e) f0 f1 f3 f4 f5⟩
  self := fun _ _ _ _ _ st h => wpAny_pyIter_rangeiter st h
end L2
namespace L2
open PySem PySem.Spec PyProof.Rows
section
variable {X : Cx} {tg : Expr}
noncomputable def iList (K : PySem.W.Frag) (tl : TE) : TI := fun σ H R => tl σ H fun x H1 => ∃ a, x = .ref a ∧ (∃ xs, SqL K H1 a xs) ∧ R (Itl K a) H1
noncomputable def iTup (K : PySem.W.Frag) (tl : TE) : TI := fun σ H R => tl σ H fun x H1 => ∃ a, x = .ref a ∧ (∃ xs, SqT K H1 a xs) ∧ R (Itt K a) H1
theorem pi_list {l : Expr} {tl : TE} (hl : PE X l tl) : PI X tg l (iList X.K tl) := by
  intro pins s σ H R I h
  refine thn (hl pins s σ H _ I h) fun v s1 ⟨x, H1, I1, r1, q1⟩ => ?_
  obtain ⟨a, e, ⟨xs, hq⟩, q⟩ := q1
  subst e
  cases r1
  obtain ⟨its, rv, p, hz⟩ := I1.list hq
  refine wpAny_pyIter_list p.isList ?_
  refine ⟨s1.heap.objs.size, [s1.heap.objs.size], _, _, H1, rfl, I1.kept (t' := s1.toks) fun b o e => Heap.get?_push_of_some _ e, turn_list a _, ⟨_, Heap.get?_push_size _ rfl, rfl, rfl⟩, fun b hb => ?_, q⟩
  have e : b = s1.heap.objs.size := by simpa using hb
  subst e
  exact I1.fpOk (Nat.le_refl _) (I1.hok.fresh (Nat.le_refl _))
theorem pi_tup {l : Expr} {tl : TE} (hl : PE X l tl) : PI X tg l (iTup X.K tl) := by
  intro pins s σ H R I h
  refine thn (hl pins s σ H _ I h) fun v s1 ⟨x, H1, I1, r1, q1⟩ => ?_
  obtain ⟨a, e, ⟨xs, hq⟩, q⟩ := q1
  subst e
  cases r1
  obtain ⟨its, rv, p, hz⟩ := I1.tuple hq
  refine wpAny_pyIter_tuple (show s1.heap.IsTuple a its.toArray from p) ?_
  refine ⟨s1.heap.objs.size, [s1.heap.objs.size], _, _, H1, rfl, I1.kept (t' := s1.toks) fun b o e => Heap.get?_push_of_some _ e, turn_tuple a _, ⟨_, Heap.get?_push_size _ rfl, rfl, rfl⟩, fun b hb => ?_, q⟩
  have e : b = s1.heap.objs.size := by simpa using hb
  subst e
  exact I1.fpOk (Nat.le_refl _) (I1.hok.fresh (Nat.le_refl _))
theorem range_it {pins : List (Addr × Obj)} {σ : St} {H : Hp} {s : Shared} {R : It → Hp → Prop} {E : Value → Shared → Prop} {lo hi : Int} {t u v : Tok} {tk : Nat} (I : Inv X pins σ H s) (h1 : -(2 ^ 62) ≤ lo) (h2 : lo < 2 ^ 62) (h3 : -(2 ^ 62) ≤ hi) (h4 : hi < 2 ^ 62)
    (q : R (Itr lo (hi - lo).toNat) H) : wpAny (model X.prog X.w) X.A (pyIter (.ref s.heap.objs.size)) (PIE X pins σ tg R) E { s with heap := s.heap.push { cls := .type "range", data := .fields #[.int lo t, .int hi u, .int 1 v] }, toks := tk } := by
  refine wpAny_pyIter_range (IsRange.new ..) (small_one h1 h2 h3 h4) ?_
  have I1 : Inv X pins σ H { s with heap := s.heap.push { cls := .type "range", data := .fields #[.int lo t, .int hi u, .int 1 v] }, toks := tk } := I.kept fun b o e => Heap.get?_push_of_some _ e
  refine ⟨(s.heap.push { cls := .type "range", data := .fields #[.int lo t, .int hi u, .int 1 v] }).objs.size, [(s.heap.push { cls := .type "range", data := .fields #[.int lo t, .int hi u, .int 1 v] }).objs.size], _, _, H, rfl,
    I1.kept (t' := tk) fun b o e => Heap.get?_push_of_some _ e, turn_range _ lo (hi - lo).toNat, ?_, fun b hb => ?_, q⟩
  · have e1 : lo + ((0 : Nat) : Int) * 1 = lo := by simp
    have e2 : (((hi - lo).toNat : Nat) : Int) - ((0 : Nat) : Int) = Builtin.Range.rangeSize lo hi 1 := by rw [rangeSize_one]; split <;> omega
    show IsRangeIter _ _ (lo + ((0 : Nat) : Int) * 1) ((((hi - lo).toNat : Nat) : Int) - ((0 : Nat) : Int)) 1
    rw [e1, e2]
    exact Heap.get?_push_size _ rfl
  · have e : b = (s.heap.push { cls := .type "range", data := .fields #[.int lo t, .int hi u, .int 1 v] }).objs.size := by simpa using hb
    subst e
    exact I1.fpOk (Nat.le_refl _) (I1.hok.fresh (Nat.le_refl _))
noncomputable def iRng1 (ta : TA) : TI := fun σ H R => ta σ H fun vs H1 => ∃ j : Int, vs = [.int j] ∧ -(2 ^ 62) ≤ j ∧ j < 2 ^ 62 ∧ R (Itr 0 j.toNat) H1
theorem pi_range1 {a : Expr} {ta : TA} {p pos : Pos} (hg : Gl X "range") (hm : X.mg "range" = none) (ha : PA X [a] ta) (hs : starEach [a] X.env = [(false, eval a X.env)] := by rfl) : PI X tg (.Call (.Name "range" p) [a] [] pos) (iRng1 ta) := by
  intro pins s σ H R I h
  refine Call_ (ld_blt I hg hm boot_range (PyProof.Rows.callWith_type1 (thn (ha pos pins s σ H _ I h) fun us s1 ⟨vs, H1, I1, r1, q1⟩ => ?_) hs rfl))
  obtain ⟨j, e, q1, q2, q⟩ := q1
  subst e
  cases r1 with
  | cons r rr =>
    cases rr
    obtain ⟨t, rfl⟩ := r
    exact call_range_1 (range_it I1 (by omega) (by omega) q1 q2 (by simpa using q))
noncomputable def tFor (wi : TI) (g : TG) (tb : TS) : TS := fun D σ H => wi σ H fun J H1 => ∃ W : Nat → Nat → St → Hp → Prop, (∃ m, W 0 m σ H1) ∧ ∀ i m σ H, W i m σ H →
  (J.stop i H ∧ D.nx σ H) ∨ (J.go i H ∧ ∃ N : St → Hp → Prop, (∀ σ' H', N σ' H' → ∃ m', m' < m ∧ W (i + 1) m' σ' H') ∧ ∀ x H', J.yld i H x H' → g x σ H' fun σ2 H2 => tb { D with nx := N, ct := N, bk := D.nx } σ2 H2)
noncomputable def pinsAt (fp : List Addr) (h : Heap) : List (Addr × Obj) := fp.filterMap fun b => (h.get? b).map fun o => (b, o)
theorem mem_pinsAt {fp : List Addr} {h : Heap} {b : Addr} {o : Obj} (hb : b ∈ fp) (e : h.get? b = some o) : (b, o) ∈ pinsAt fp h := List.mem_filterMap.mpr ⟨b, hb, by rw [e]; rfl⟩
theorem of_pinsAt {fp : List Addr} {h : Heap} {p : Addr × Obj} (hp : p ∈ pinsAt fp h) : p.1 ∈ fp ∧ h.get? p.1 = some p.2 := by
  obtain ⟨b, hb, e⟩ := List.mem_filterMap.mp hp
  cases q : h.get? b with
  | none => rw [q] at e; cases e
  | some o =>
    rw [q] at e
    have e' : (b, o) = p := Option.some.inj e
    subst e'
    exact ⟨hb, q⟩
theorem Inv.pinned {pins : List (Addr × Obj)} {σ : St} {H : Hp} {s : Shared} {fp : List Addr} (I : Inv X pins σ H s) (hf : ∀ b ∈ fp, FpOk X pins H b) (ho : ∀ b ∈ fp, ∃ o, s.heap.get? b = some o ∧ ∀ v, o.data ≠ .cell v) : Inv X (pins ++ pinsAt fp s.heap) σ H s :=
  I.pins_of fun p hp => (List.mem_append.mp hp).elim (fun z => I.pin p (List.mem_append_right _ z)) fun z => by
    obtain ⟨hb, e⟩ := of_pinsAt z
    obtain ⟨f0, f1, f2, _⟩ := hf p.1 hb
    obtain ⟨o, e', d⟩ := ho p.1 hb
    rw [e] at e'; cases e'
    exact ⟨e, f0, f1, f2, d⟩
theorem Inv.unpinned {pins pl : List (Addr × Obj)} {σ : St} {H : Hp} {s : Shared} (I : Inv X (pins ++ pl) σ H s) : Inv X pins σ H s := I.pins_of fun p hp => I.pin p (List.mem_append_right _ (List.mem_append_left _ hp))
theorem ps_for {iter : Expr} {body : List Stmt} {wi : TI} {g : TG} {tb : TS} {pos : Pos} (hp : PassesOwn (model X.prog X.w) X.A X.env X.xe) (hc : X.calm = true) (hi : PI X tg iter wi) (hg : PG X tg g) (hb : PSs X body tb)
    (hs : ∀ x, foldedSetIterable iter X.env x = pure x := by intro _; rfl) : PS X (.For tg iter body [] pos) (tFor wi g tb) := by
  intro pins s σ H D I h
  refine wpAny_For (thn (hi pins s σ H _ I h) fun v s1 h1 => thn h1 fun itv s2 h2 => ?_) hs
  obtain ⟨it, fp, tn, J, H2, e, I2, T, st2, f2, W, ⟨m0, w0⟩, turn⟩ := h2
  subst e
  have stat : ∀ {H' : Hp}, (∀ b ∈ fp, H' b = none) → ∀ b ∈ fp, FpOk X pins H' b := fun hn b hb => ⟨hn b hb, (f2 b hb).2⟩
  refine codeAny_forLoop_any (fun n s' => ∃ i σ' H', Inv X pins σ' H' s' ∧ tn i s'.heap ∧ (∀ b ∈ fp, H' b = none) ∧ W i n σ' H') ?_ m0 ⟨0, σ, H2, I2, st2, fun b hb => (f2 b hb).1, w0⟩
  rintro n s3 ⟨i, σ3, H3, I3, st3, fr3, w3⟩
  rcases turn i n σ3 H3 w3 with ⟨stop, qn⟩ | ⟨go, N, hN, step⟩
  · refine wpAny_passesOwn hp (thn (T.done X rfl rfl rfl hc i pins s3 σ3 H3 X.xe I3 (stat fr3) st3 stop) fun r s4 ⟨hr, I4⟩ => ?_)
    subst hr
    exact wpAny_execs_nil ⟨σ3, H3, I4, qn⟩
  · refine wpAny_passesOwn hp (thn (T.item X rfl rfl rfl hc i pins s3 σ3 H3 X.xe I3 (stat fr3) st3 go) fun r s4 ⟨u, hr, h4⟩ => ?_)
    subst hr
    refine wpAny_passesOwn hp (thn h4 fun _ s5 ⟨x, H5, I5, r5, y5, st5, fr5⟩ => ?_)
    have I5' := I5.pinned (stat fr5) (T.obj _ _ st5)
    refine wpAny_passesOwn hp (thn (hg _ s5 σ3 H5 x u _ I5' r5 (step x H5 y5)) fun _ s6 ⟨σ6, H6, I6, q6⟩ => ?_)
    refine wpAny_passesOwn hp (thn (hb _ s6 σ6 H6 _ I6 q6) fun f s7 q7 => ?_)
    have again : ∀ {σ7 : St} {H7 : Hp}, Inv X (pins ++ pinsAt fp s5.heap) σ7 H7 s7 → N σ7 H7 → ∃ m, m < n ∧ ∃ i σ' H', Inv X pins σ' H' s7 ∧ tn i s7.heap ∧ (∀ b ∈ fp, H' b = none) ∧ W i m σ' H' := fun {σ7 H7} I7 n7 => by
      obtain ⟨m', hm, w7⟩ := hN σ7 H7 n7
      refine ⟨m', hm, i + 1, σ7, H7, I7.unpinned, T.keep _ _ _ st5 fun b hb o e => (I7.pin (b, o) (List.mem_append_right _ (List.mem_append_right _ (mem_pinsAt hb e)))).1, fun b hb => ?_, w7⟩
      obtain ⟨o, e, d⟩ := T.obj _ _ st5 b hb
      exact (I7.pin (b, o) (List.mem_append_right _ (List.mem_append_right _ (mem_pinsAt hb e)))).2.1
    cases f with
    | next => obtain ⟨σ7, H7, I7, n7⟩ := q7; exact again I7 n7
    | cont => obtain ⟨σ7, H7, I7, n7⟩ := q7; exact again I7 n7
    | brk => obtain ⟨σ7, H7, I7, q7⟩ := q7; exact ⟨σ7, H7, I7.unpinned, q7⟩
    | ret v => obtain ⟨x7, σ7, H7, I7, r7, q7⟩ := q7; exact ⟨x7, σ7, H7, I7.unpinned, r7, q7⟩
end
theorem for_list {K : PySem.W.Frag} {a : Addr} {xs : List V} {g : TG} {tb : TS} {D : Ends} {σ : St} {H : Hp} (Pv : Nat → St → Hp → Prop) (h0 : Pv 0 σ H) (hl : ∀ i σ H, i ≤ xs.length → Pv i σ H → SqL K H a xs)
    (hs : ∀ i x σ H, xs[i]? = some x → Pv i σ H → g x σ H fun σ2 H2 => tb { D with nx := Pv (i + 1), ct := Pv (i + 1), bk := D.nx } σ2 H2) (hd : ∀ σ H, Pv xs.length σ H → D.nx σ H) :
    ∃ W : Nat → Nat → St → Hp → Prop, (∃ m, W 0 m σ H) ∧ ∀ i m σ H, W i m σ H →
      ((Itl K a).stop i H ∧ D.nx σ H) ∨ ((Itl K a).go i H ∧ ∃ N : St → Hp → Prop, (∀ σ' H', N σ' H' → ∃ m', m' < m ∧ W (i + 1) m' σ' H') ∧ ∀ x H', (Itl K a).yld i H x H' → g x σ H' fun σ2 H2 => tb { D with nx := N, ct := N, bk := D.nx } σ2 H2) := by
  refine ⟨fun i m σ H => m = xs.length - i ∧ i ≤ xs.length ∧ Pv i σ H, ⟨xs.length, by simp, Nat.zero_le _, h0⟩, ?_⟩
  rintro i m σ H ⟨rfl, hi, p⟩
  have q := hl i σ H hi p
  by_cases hlt : i < xs.length
  · refine .inr ⟨⟨xs, xs[i], q, by simp [hlt]⟩, Pv (i + 1), fun σ' H' p' => ⟨xs.length - (i + 1), by omega, rfl, hlt, p'⟩, fun x H' y => ?_⟩
    obtain ⟨e, y⟩ := y
    subst e
    exact hs i x σ _ (y xs q) p
  · have e : i = xs.length := by omega
    subst e
    exact .inl ⟨⟨xs, q, Nat.le_refl _⟩, hd σ H p⟩
theorem for_range {lo : Int} {n : Nat} {g : TG} {tb : TS} {D : Ends} {σ : St} {H : Hp} (Pv : Nat → St → Hp → Prop) (h0 : Pv 0 σ H)
    (hs : ∀ i σ H, i < n → Pv i σ H → g (.int (lo + i)) σ H fun σ2 H2 => tb { D with nx := Pv (i + 1), ct := Pv (i + 1), bk := D.nx } σ2 H2) (hd : ∀ σ H, Pv n σ H → D.nx σ H) :
    ∃ W : Nat → Nat → St → Hp → Prop, (∃ m, W 0 m σ H) ∧ ∀ i m σ H, W i m σ H →
      ((Itr lo n).stop i H ∧ D.nx σ H) ∨ ((Itr lo n).go i H ∧ ∃ N : St → Hp → Prop, (∀ σ' H', N σ' H' → ∃ m', m' < m ∧ W (i + 1) m' σ' H') ∧ ∀ x H', (Itr lo n).yld i H x H' → g x σ H' fun σ2 H2 => tb { D with nx := N, ct := N, bk := D.nx } σ2 H2) := by
  refine ⟨fun i m σ H => m = n - i ∧ i ≤ n ∧ Pv i σ H, ⟨n, by simp, Nat.zero_le _, h0⟩, ?_⟩
  rintro i m σ H ⟨rfl, hi, p⟩
  by_cases hlt : i < n
  · refine .inr ⟨hlt, Pv (i + 1), fun σ' H' p' => ⟨n - (i + 1), by omega, rfl, hlt, p'⟩, fun x H' y => ?_⟩
    obtain ⟨e, y⟩ := y
    subst e y
    exact hs i σ _ hlt p
  · have e : i = n := by omega
    subst e
    exact .inl ⟨Nat.le_refl _, hd σ H p⟩
end L2
namespace L2
open PySem PySem.Spec PyProof.Rows
abbrev R2 := V → V → Hp → VK → Prop
noncomputable def OpR (X : Cx) (f : Value → Value → Sem Value) (r : R2) : Prop :=
  ∀ (pins : List (Addr × Obj)) (s : Shared) (σ : St) (H : Hp) (x y : V) (v u : Value) (Q : VK), Inv X pins σ H s → RelV x v → RelV y u → r x y H Q →
    wpAny (model X.prog X.w) X.A (f v u) (EP X pins σ Q) X.xe s
noncomputable def UnR (X : Cx) (f : Value → Sem Value) (r : V → Hp → VK → Prop) : Prop :=
  ∀ (pins : List (Addr × Obj)) (s : Shared) (σ : St) (H : Hp) (x : V) (v : Value) (Q : VK), Inv X pins σ H s → RelV x v → r x H Q →
    wpAny (model X.prog X.w) X.A (f v) (EP X pins σ Q) X.xe s
noncomputable def CallR (X : Cx) (f : Value) (r : List V → Hp → VK → Prop) : Prop :=
  ∀ (pins : List (Addr × Obj)) (s : Shared) (σ : St) (H : Hp) (xs : List V) (us : List Value) (Q : VK), Inv X pins σ H s → Vals xs us → r xs H Q →
    wpAny (model X.prog X.w) X.A (call f us) (EP X pins σ Q) X.xe s
noncomputable def tOp (r : R2) (ta tb : TE) : TE := fun σ H Q => ta σ H fun x H1 => tb σ H1 fun y H2 => r x y H2 Q
noncomputable def tUn (r : V → Hp → VK → Prop) (ta : TE) : TE := fun σ H Q => ta σ H fun x H1 => r x H1 Q
noncomputable def rI (C : Int → Int → Prop) (g : Int → Int → V) : R2 := fun x y H Q => ∃ i j, x = .int i ∧ y = .int j ∧ C i j ∧ Q (g i j) H
noncomputable def rI0 (g : Int → Int → V) : R2 := fun x y H Q => ∃ i j, x = .int i ∧ y = .int j ∧ Q (g i j) H
noncomputable def rU (g : Int → V) : V → Hp → VK → Prop := fun x H Q => ∃ i, x = .int i ∧ Q (g i) H
section
variable {X : Cx} {a b c : Expr} {ta tb tc : TE} {pos : Pos}
theorem binT (ha : PE X a ta) (hb : PE X b tb) {pins : List (Addr × Obj)} {s : Shared} {σ : St} {H : Hp} {R : V → V → Hp → Prop} (I : Inv X pins σ H s)
    (h : ta σ H fun x H1 => tb σ H1 fun y H2 => R x y H2) {Q : Value → Shared → Prop} {f : Value → Value → Sem Value}
    (hf : ∀ v u s2 x y H2, Inv X pins σ H2 s2 → RelV x v → RelV y u → R x y H2 → wpAny (model X.prog X.w) X.A (f v u) Q X.xe s2) :
    wpAny (model X.prog X.w) X.A (eval a X.env) (fun v s₁ => wpAny (model X.prog X.w) X.A (eval b X.env) (fun u s₂ => wpAny (model X.prog X.w) X.A (f v u) Q X.xe s₂) X.xe s₁) X.xe s := by
  refine thn (ha pins s σ H _ I h) fun v s1 ⟨x, H1, I1, r1, q1⟩ => ?_
  refine thn (hb pins s1 σ H1 _ I1 q1) fun u s2 ⟨y, H2, I2, r2, q2⟩ => ?_
  exact hf v u s2 x y H2 I2 r1 r2 q2
theorem pe_op {op : Operator} {r : R2} (ho : OpR X (binaryOp op) r) (ha : PE X a ta) (hb : PE X b tb) : PE X (.BinOp a op b pos) (tOp r ta tb) := by
  intro pins s σ H Q I h
  exact wpAny_BinOp (binT ha hb I h fun v u s2 x y H2 I2 rx ry q => ho pins s2 σ H2 x y v u Q I2 rx ry q)
theorem pe_un {op : UnaryOp} {r : V → Hp → VK → Prop} (ho : UnR X (unaryOp op) r) (ha : PE X a ta) : PE X (.UnaryOp op a pos) (tUn r ta) := by
  intro pins s σ H Q I h
  exact UnaryOp_ (thn (ha pins s σ H _ I h) fun v s1 ⟨x, H1, I1, r1, q1⟩ => ho pins s1 σ H1 x v Q I1 r1 q1)
theorem opI {f : Value → Value → Sem Value} {C : Int → Int → Prop} {g : Int → Int → Int}
    (rule : ∀ (i j : Int) (t u : Tok) (s : Shared) (Q : Value → Shared → Prop) (E : Value → Shared → Prop), C i j → Q (.int (g i j) s.toks) { s with toks := s.toks + 1 } → wpAny (model X.prog X.w) X.A (f (.int i t) (.int j u)) Q E s) :
    OpR X f (rI C fun i j => .int (g i j)) := by
  intro pins s σ H x y v u Q I rx ry h
  obtain ⟨i, j, rfl, rfl, hc, q⟩ := h
  obtain ⟨t, rfl⟩ := rx
  obtain ⟨t', rfl⟩ := ry
  exact rule i j t t' s _ _ hc ⟨.int (g i j), H, I.tok _, ⟨_, rfl⟩, q⟩
theorem opI0 {f : Value → Value → Sem Value} {g : Int → Int → Int}
    (rule : ∀ (i j : Int) (t u : Tok) (s : Shared) (Q : Value → Shared → Prop) (E : Value → Shared → Prop), Q (.int (g i j) s.toks) { s with toks := s.toks + 1 } → wpAny (model X.prog X.w) X.A (f (.int i t) (.int j u)) Q E s) :
    OpR X f (rI0 fun i j => .int (g i j)) := by
  intro pins s σ H x y v u Q I rx ry h
  obtain ⟨i, j, rfl, rfl, q⟩ := h
  obtain ⟨t, rfl⟩ := rx
  obtain ⟨t', rfl⟩ := ry
  exact rule i j t t' s _ _ ⟨.int (g i j), H, I.tok _, ⟨_, rfl⟩, q⟩
theorem opB0 {f : Value → Value → Sem Value} {g : Int → Int → Bool}
    (rule : ∀ (i j : Int) (t u : Tok) (s : Shared) (Q : Value → Shared → Prop) (E : Value → Shared → Prop), Q (.bool (g i j)) s → wpAny (model X.prog X.w) X.A (f (.int i t) (.int j u)) Q E s) :
    OpR X f (rI0 fun i j => .bl (g i j)) := by
  intro pins s σ H x y v u Q I rx ry h
  obtain ⟨i, j, rfl, rfl, q⟩ := h
  obtain ⟨t, rfl⟩ := rx
  obtain ⟨t', rfl⟩ := ry
  exact rule i j t t' s _ _ ⟨.bl (g i j), H, I, rfl, q⟩
noncomputable def CDiv (i j : Int) : Prop := 0 < j ∧ j < 1073741824
noncomputable def CMul (i j : Int) : Prop := (-(2 ^ 64) < i ∧ i < 2 ^ 64) ∨ (-(2 ^ 64) < j ∧ j < 2 ^ 64)
theorem CMul.ok {i j : Int} (h : CMul i j) : IntMulOk i j := by
  rcases h with ⟨h1, h2⟩ | ⟨h1, h2⟩
  · exact .of_left (intBits_le_64 h1 h2)
  · exact .of_right (intBits_le_64 h1 h2)
theorem op_add : OpR X (binaryOp .Add) (rI0 fun i j => .int (i + j)) := opI0 fun _ _ _ _ _ _ _ q => add_int q
theorem op_sub : OpR X (binaryOp .Sub) (rI0 fun i j => .int (i - j)) := opI0 fun _ _ _ _ _ _ _ q => sub_int q
theorem op_mul : OpR X (binaryOp .Mult) (rI CMul fun i j => .int (i * j)) := opI fun _ _ _ _ _ _ _ hc q => mul_int q hc.ok
theorem op_fdiv : OpR X (binaryOp .FloorDiv) (rI CDiv fun i j => .int (i / j)) := opI fun i j _ _ _ _ _ hc q => by
  have h1 : (0 : Int) < j := hc.1
  have h2 : j < 1073741824 := hc.2
  exact floordiv_int (by omega) (by rw [Int.fdiv_eq_ediv_of_nonneg i (by omega)]; exact q) (.inl (PyProof.noPylong_small (by omega)))
theorem op_mod : OpR X (binaryOp .Mod) (rI (fun _ j => 0 < j) fun i j => .int (i % j)) := opI fun i j _ _ _ _ _ hc q => by
  have h1 : (0 : Int) < j := hc
  exact mod_int' (by omega) (by rw [Int.fmod_eq_emod_of_nonneg i (by omega)]; exact q)
theorem unI {f : Value → Sem Value} {g : Int → Int}
    (rule : ∀ (i : Int) (t : Tok) (s : Shared) (Q : Value → Shared → Prop) (E : Value → Shared → Prop), Q (.int (g i) s.toks) { s with toks := s.toks + 1 } → wpAny (model X.prog X.w) X.A (f (.int i t)) Q E s) :
    UnR X f (rU fun i => .int (g i)) := by
  intro pins s σ H x v Q I rx h
  obtain ⟨i, rfl, q⟩ := h
  obtain ⟨t, rfl⟩ := rx
  exact rule i t s _ _ ⟨.int (g i), H, I.tok _, ⟨_, rfl⟩, q⟩
theorem un_neg : UnR X (unaryOp .USub) (rU fun i => .int (-i)) := unI fun _ _ _ _ _ q => neg_int q
end
noncomputable def scal : V → V → Bool
  | .non, .non => true | .non, .int _ => true | .int _, .non => true | .non, .bl _ => true | .bl _, .non => true | .non, .str _ => true | .str _, .non => true
  | .int _, .int _ => true | .bl _, .bl _ => true | .str _, .str _ => true | .byt _, .byt _ => true
  | .int _, .str _ => true | .str _, .int _ => true | .bl _, .str _ => true | .str _, .bl _ => true
  | _, _ => false
noncomputable def rEq : R2 := fun x y H Q => scal x y = true ∧ Q (.bl (decide (x = y))) H
noncomputable def rNe : R2 := fun x y H Q => scal x y = true ∧ Q (.bl (!decide (x = y))) H
theorem dec_int {i j : Int} : decide (V.int i = V.int j) = (i == j) := by
  rw [Bool.eq_iff_iff]
  simp
theorem dec_bl {i j : Bool} : decide (V.bl i = V.bl j) = (i == j) := by
  rw [Bool.eq_iff_iff]
  simp
theorem dec_str {i j : Str} : decide (V.str i = V.str j) = (i == j) := by
  rw [Bool.eq_iff_iff]
  simp
theorem dec_byt {i j : Array UInt8} : decide (V.byt i = V.byt j) = (i.toList == j.toList) := by
  rw [Bool.eq_iff_iff]
  cases i
  cases j
  simp
section
variable {X : Cx} {a b c : Expr} {ta tb tc : TE} {pos : Pos}
theorem fin_bl {pins : List (Addr × Obj)} {σ : St} {H : Hp} {s : Shared} {Q : VK} {k k' : Bool} (I : Inv X pins σ H s) (q : Q (.bl k) H) (e : k = k') : EP X pins σ Q (.bool k') s := by
  subst e
  exact ⟨.bl k, H, I, rfl, q⟩
theorem op_eq : OpR X (compareOp .Eq) rEq := by
  intro pins s σ H x y v u Q I rx ry h
  obtain ⟨hs, q⟩ := h
  cases x with
  | non =>
    cases rx
    cases y with
    | non => cases ry; exact PySem.EqNone.eq_none_none (fin_bl I q (by simp))
    | bl j => cases ry; exact PySem.EqNone.eq_none_bool (fin_bl I q (by simp))
    | int j => obtain ⟨t', rfl⟩ := ry; exact PySem.EqNone.eq_none_int (fin_bl I q (by simp))
    | str j => obtain ⟨t', rfl⟩ := ry; exact PySem.EqNone.eq_none_str (fin_bl I q (by simp))
    | _ => exact absurd (show false = true from hs) Bool.false_ne_true
  | bl i =>
    cases rx
    cases y with
    | non => cases ry; exact PySem.EqNone.eq_bool_none (fin_bl I q (by simp))
    | bl j => cases ry; exact eq_bool (fin_bl I q dec_bl)
    | str j => obtain ⟨t', rfl⟩ := ry; exact PySem.EqMixed.eq_bool_str (fin_bl I q (by simp))
    | _ => exact absurd (show false = true from hs) Bool.false_ne_true
  | int i =>
    obtain ⟨t, rfl⟩ := rx
    cases y with
    | non => cases ry; exact PySem.EqNone.eq_int_none (fin_bl I q (by simp))
    | int j => obtain ⟨t', rfl⟩ := ry; exact eq_int (fin_bl I q dec_int)
    | str j => obtain ⟨t', rfl⟩ := ry; exact PySem.EqMixed.eq_int_str (fin_bl I q (by simp))
    | _ => exact absurd (show false = true from hs) Bool.false_ne_true
  | str i =>
    obtain ⟨t, rfl⟩ := rx
    cases y with
    | non => cases ry; exact PySem.EqNone.eq_str_none (fin_bl I q (by simp))
    | bl j => cases ry; exact PySem.EqMixed.eq_str_bool (fin_bl I q (by simp))
    | int j => obtain ⟨t', rfl⟩ := ry; exact PySem.EqMixed.eq_str_int (fin_bl I q (by simp))
    | str j => obtain ⟨t', rfl⟩ := ry; exact eq_str (fin_bl I q dec_str)
    | _ => exact absurd (show false = true from hs) Bool.false_ne_true
  | byt i =>
    obtain ⟨t, rfl⟩ := rx
    cases y with
    | byt j => obtain ⟨t', rfl⟩ := ry; exact PySem.W.eq_bytes (fin_bl I q dec_byt)
    | _ => exact absurd (show false = true from hs) Bool.false_ne_true
  | _ => cases y <;> exact absurd (show false = true from hs) Bool.false_ne_true
theorem op_ne : OpR X (compareOp .NotEq) rNe := by
  intro pins s σ H x y v u Q I rx ry h
  obtain ⟨hs, q⟩ := h
  cases x with
  | non =>
    cases rx
    cases y with
    | non => cases ry; exact PySem.EqNone.ne_none_none (fin_bl I q (by simp))
    | bl j => cases ry; exact PySem.EqNone.ne_none_bool (fin_bl I q (by simp))
    | int j => obtain ⟨t', rfl⟩ := ry; exact PySem.EqNone.ne_none_int (fin_bl I q (by simp))
    | str j => obtain ⟨t', rfl⟩ := ry; exact PySem.EqNone.ne_none_str (fin_bl I q (by simp))
    | _ => exact absurd (show false = true from hs) Bool.false_ne_true
  | bl i =>
    cases rx
    cases y with
    | non => cases ry; exact PySem.EqNone.ne_bool_none (fin_bl I q (by simp))
    | bl j => cases ry; exact ne_bool (fin_bl I q (congrArg not dec_bl))
    | str j => obtain ⟨t', rfl⟩ := ry; exact PySem.EqMixed.ne_bool_str (fin_bl I q (by simp))
    | _ => exact absurd (show false = true from hs) Bool.false_ne_true
  | int i =>
    obtain ⟨t, rfl⟩ := rx
    cases y with
    | non => cases ry; exact PySem.EqNone.ne_int_none (fin_bl I q (by simp))
    | int j => obtain ⟨t', rfl⟩ := ry; exact ne_int (fin_bl I q (congrArg not dec_int))
    | str j => obtain ⟨t', rfl⟩ := ry; exact PySem.EqMixed.ne_int_str (fin_bl I q (by simp))
    | _ => exact absurd (show false = true from hs) Bool.false_ne_true
  | str i =>
    obtain ⟨t, rfl⟩ := rx
    cases y with
    | non => cases ry; exact PySem.EqNone.ne_str_none (fin_bl I q (by simp))
    | bl j => cases ry; exact PySem.EqMixed.ne_str_bool (fin_bl I q (by simp))
    | int j => obtain ⟨t', rfl⟩ := ry; exact PySem.EqMixed.ne_str_int (fin_bl I q (by simp))
    | str j => obtain ⟨t', rfl⟩ := ry; exact ne_str (fin_bl I q (congrArg not dec_str))
    | _ => exact absurd (show false = true from hs) Bool.false_ne_true
  | byt i =>
    obtain ⟨t, rfl⟩ := rx
    cases y with
    | byt j => obtain ⟨t', rfl⟩ := ry; exact PySem.W.ne_bytes (fin_bl I q (congrArg not dec_byt))
    | _ => exact absurd (show false = true from hs) Bool.false_ne_true
  | _ => cases y <;> exact absurd (show false = true from hs) Bool.false_ne_true
theorem op_lt : OpR X (compareOp .Lt) (rI0 fun i j => .bl (decide (i < j))) := opB0 fun _ _ _ _ _ _ _ q => lt_int q
theorem op_gt : OpR X (compareOp .Gt) (rI0 fun i j => .bl (decide (j < i))) := opB0 fun _ _ _ _ _ _ _ q => gt_int q
theorem op_notN : OpR X (compareOp .IsNot) (fun x y H Q => y = .non ∧ Q (.bl (!decide (x = .non))) H) := by
  intro pins s σ H x y v u Q I rx ry h
  obtain ⟨rfl, q⟩ := h
  cases ry
  refine isnot_none_gen (fin_bl I q ?_)
  cases x <;> first
    | (cases rx; rfl)
    | (obtain ⟨t, rfl⟩ := rx; rfl)
theorem nomark (b : Expr) {op : CmpOp} (h : op ≠ .In := by decide) (h2 : op ≠ .NotIn := by decide) : behindInMarks op b = false := by
  have e1 : (op == CmpOp.In) = false := by cases op <;> first | rfl | exact absurd rfl h
  have e2 : (op == CmpOp.NotIn) = false := by cases op <;> first | rfl | exact absurd rfl h2
  cases b <;> simp [behindInMarks, e1, e2]
theorem pe_cmpR {op : CmpOp} {r : R2} (ho : OpR X (compareOp op) r) (ha : PE X a ta) (hb : PE X b tb) (hm : behindInMarks op b = false) : PE X (.Compare a [op] [b] pos) (tOp r ta tb) := by
  intro pins s σ H Q I h
  exact wpAny_Compare1 (binT ha hb I h fun v u s2 x y H2 I2 rx ry q => ho pins s2 σ H2 x y v u Q I2 rx ry q) hm
noncomputable def tTest (t : TE) : TT := fun σ H Q => t σ H fun x H' => ∃ k, x = .bl k ∧ Q k H'
theorem pt_cmpR {op : CmpOp} {r : R2} (ho : OpR X (compareOp op) r) (ha : PE X a ta) (hb : PE X b tb) (hm : behindInMarks op b = false) : PT X (.Compare a [op] [b] pos) (tTest (tOp r ta tb)) := by
  intro pins s σ H Q I h
  refine wpAny_isTrue_Compare1 (thn (ha pins s σ H _ I h) fun v s1 ⟨x, H1, I1, r1, q1⟩ => thn (hb pins s1 σ H1 _ I1 q1) fun u s2 ⟨y, H2, I2, r2, q2⟩ =>
    thn (ho pins s2 σ H2 x y v u _ I2 r1 r2 q2) fun c s3 ⟨z, H3, I3, r3, k, e, q3⟩ => ?_) hm
  subst e
  cases r3
  exact wpAny_truthy_bool ⟨H3, I3, q3⟩
theorem line63 : (sizeLine : Nat) < 2 ^ 63 := by rw [sizeLine_eq]; decide
theorem op_add_str : OpR X (binaryOp .Add) (fun x y H Q => ∃ i j, x = .str i ∧ y = .str j ∧ i.length + j.length ≤ sizeLine ∧ Q (.str (i ++ j)) H) := by
  intro pins s σ H x y v u Q I rx ry h
  obtain ⟨i, j, rfl, rfl, hz, q⟩ := h
  obtain ⟨t, rfl⟩ := rx
  obtain ⟨t', rfl⟩ := ry
  exact add_str (fun t' tk => ⟨.str (i ++ j), H, I.tok _, ⟨_, rfl⟩, q⟩) hz
theorem vals1 {x : V} {us : List Value} (r : Vals [x] us) : ∃ u, us = [u] ∧ RelV x u := by
  cases r with
  | cons r1 r2 => cases r2; exact ⟨_, rfl, r1⟩
theorem vals2 {x y : V} {us : List Value} (r : Vals [x, y] us) : ∃ u w', us = [u, w'] ∧ RelV x u ∧ RelV y w' := by
  cases r with
  | cons r1 r2 =>
    cases r2 with
    | cons r3 r4 => cases r4; exact ⟨_, _, rfl, r1, r3⟩
theorem call_max2 (hc : X.calm = true) : CallR X (.builtin "max") (fun xs H Q => ∃ i j, xs = [.int i, .int j] ∧ Q (.int (if j > i then j else i)) H) := by
  intro pins s σ H xs us Q I r h
  obtain ⟨i, j, rfl, q⟩ := h
  obtain ⟨u, w', rfl, ⟨t, rfl⟩, ⟨t', rfl⟩⟩ := vals2 r
  refine max_two_ints (I.ok.hd hc) fun h' tk k => ⟨_, H, I.kept k, ?_, q⟩
  by_cases hj : j > i
  · rw [if_pos hj, if_pos hj]; exact ⟨_, rfl⟩
  · rw [if_neg hj, if_neg hj]; exact ⟨_, rfl⟩
theorem call_min2 (hc : X.calm = true) : CallR X (.builtin "min") (fun xs H Q => ∃ i j, xs = [.int i, .int j] ∧ Q (.int (if j < i then j else i)) H) := by
  intro pins s σ H xs us Q I r h
  obtain ⟨i, j, rfl, q⟩ := h
  obtain ⟨u, w', rfl, ⟨t, rfl⟩, ⟨t', rfl⟩⟩ := vals2 r
  refine min_two_ints (I.ok.hd hc) fun h' tk k => ⟨_, H, I.kept k, ?_, q⟩
  by_cases hj : j < i
  · rw [if_pos hj, if_pos hj]; exact ⟨_, rfl⟩
  · rw [if_neg hj, if_neg hj]; exact ⟨_, rfl⟩
theorem call_str_int : CallR X (.type "str") (fun xs H Q => ∃ i, xs = [.int i] ∧ i.natAbs.log2 < 1920 ∧ Q (.str (toString i)) H) := by
  intro pins s σ H xs us Q I r h
  obtain ⟨i, rfl, hz, q⟩ := h
  obtain ⟨u, rfl, t, rfl⟩ := vals1 r
  exact PySem.P.str_of_int hz ⟨.str _, H, I.tok _, ⟨_, rfl⟩, q⟩
end
end L2
namespace L2
open PySem PySem.Spec PyProof.Rows
section
variable {prog : Program} {w : World} {A : Around} {E : Value → Shared → Prop} {s : Shared} {K : PySem.W.Frag} {x dx C f : Addr} {mA : Str → Option Value} {name : Str} {v : Value}
end
section
variable {P : Program} {w : World} {H H' : Hp} {h h' : Heap} {a C dx : Addr} {fs fs' : List (Str × V)}
end
structure Con (K : PySem.W.Frag) (C : Addr) (f : Str) (v : V) (u : Value) : Prop where
  at_ : PySem.W.findIn K (.ref C) f = some (some u)
  rel : RelV v u
  get : PySem.W.specialIn K u "__get__" = some none
  cp : PySem.W.copiedNames.contains f = false
section
variable {X : Cx} {pins : List (Addr × Obj)} {σ : St} {H : Hp} {s : Shared} {a C dx : Addr} {fs : List (Str × V)} {f : Str} {v : V} {A : Around} {E : Value → Shared → Prop}
end
section
variable {X : Cx} {o e value : Expr} {f : Str} {pos pos' tpos : Pos} {ta tv : TE}
end
section
variable {X : Cx} {pins : List (Addr × Obj)} {σ : St} {H : Hp} {s : Shared} {A : Around} {E : Value → Shared → Prop} {Q : Value → Shared → Prop} {c : Value} {b : Bool}
end
end L2
namespace L2
open PySem PySem.Spec PyProof.Rows
structure Room (k : Nat) (A : Around) : Prop where
  hd : A.handled = none
  dp : A.depth + 3 * k + 5 < recursionLimit
  un : A.units + 16 * k + 200 < cLine
theorem Room.mono {j k : Nat} {A : Around} (r : Room k A) (h : j ≤ k) : Room j A := ⟨r.hd, by have := r.dp; omega, by have := r.un; omega⟩
theorem Room.deeper {k : Nat} {A : Around} (r : Room (k + 1) A) (env : Env) : Room k (A.deeper env) :=
  ⟨r.hd, by have := r.dp; show A.depth + 1 + 3 * k + 5 < _; omega, by have := r.un; show A.units + 3 + 16 * k + 200 < _; omega⟩
theorem Room.depth {k : Nat} {A : Around} (r : Room k A) : A.depth < recursionLimit := by have := r.dp; omega
theorem Room.units {k : Nat} {A : Around} (r : Room k A) : A.units + 64 < cLine := by have := r.un; omega
noncomputable def tNil : TA := fun _ H Q => Q [] H
noncomputable def tCons (ta : TE) (tr : TA) : TA := fun σ H Q => ta σ H fun x H1 => tr σ H1 fun xs H2 => Q (x :: xs) H2
section
variable {X : Cx} {e : Expr} {es : List Expr} {te : TE} {t : TA} {pos : Pos}
theorem pa_nil : PA X [] tNil := fun _ _ _ _ H Q I h => Calls.spliced_nil ⟨[], H, I, .nil, h⟩
theorem pa_cons (ha : PE X e te) (hr : PA X es t) (hs : starEach (e :: es) X.env = (false, eval e X.env) :: starEach es X.env := by rfl) : PA X (e :: es) (tCons te t) := by
  intro pos pins s σ H Q I h
  rw [hs]
  show wpAny _ _ (spliced ((false, eval e X.env) :: backTo pos (starEach es X.env))) _ _ s
  refine Calls.spliced_cons (thn (ha pins s σ H _ I h) fun u s1 ⟨x, H1, I1, r1, q1⟩ => ?_)
  exact thn (hr pos pins s1 σ H1 _ I1 q1) fun us s2 ⟨xs, H2, I2, r2, q2⟩ => ⟨x :: xs, H2, I2, .cons r1 r2, q2⟩
noncomputable def tTup (t : TA) : TE := fun σ H Q => t σ H fun xs H1 => xs.length ≤ sizeLine ∧ ∀ p, H1 p = none → Q (.ref p) (upd H1 p (.tup xs))
noncomputable def tLst (t : TA) : TE := fun σ H Q => t σ H fun xs H1 => xs.length ≤ sizeLine ∧ ∀ p, H1 p = none → Q (.ref p) (upd H1 p (.lst xs))
theorem pe_tup {x1} (h : PA X es t) : PE X (.Tuple es x1 pos) (tTup t) := by
  intro pins s σ H Q I hq
  refine wpAny_Tuple_spliced (thn (h pos pins s σ H _ I hq) fun us s1 ⟨xs, H1, I1, r, z, q⟩ => ⟨by rw [← r.length]; exact z, ?_⟩)
  have hf : H1 s1.heap.objs.size = none := I1.hok.fresh (Nat.le_refl _)
  refine ⟨.ref s1.heap.objs.size, upd H1 s1.heap.objs.size (.tup xs), I1.laid (t' := s1.toks) (fun b u e => Heap.get?_push_of_some _ e) (Nat.le_refl _) ?_, rfl, q _ hf⟩
  exact ⟨z, us, r, ⟨_, Heap.get?_push_size _ rfl, rfl, _, rfl⟩⟩
theorem pe_lst (h : PA X es t) : PE X (.List es pos) (tLst t) := by
  intro pins s σ H Q I hq
  refine wpAny_List_spliced (thn (h pos pins s σ H _ I hq) fun us s1 ⟨xs, H1, I1, r, z, q⟩ => ⟨by rw [← r.length]; exact z, ?_⟩)
  have hf : H1 s1.heap.objs.size = none := I1.hok.fresh (Nat.le_refl _)
  refine ⟨.ref s1.heap.objs.size, upd H1 s1.heap.objs.size (.lst xs), I1.laid (t' := s1.toks) (fun b u e => Heap.get?_push_of_some _ e) (Nat.le_refl _) ?_, rfl, q _ hf⟩
  exact ⟨z, us, 0, r, Heap.get?_push_size _ rfl⟩
end
abbrev Sp := List V → Hp → VK → XK → Prop
abbrev CXT := List Env → Hp → Shared → XK → Value → Shared → Prop
structure Env0 (P : Program) (w : World) (K : PySem.W.Frag) (mg : Str → Option Value) (base : Heap) (A : Around) (outer : List Env) (s : Shared) (H : Hp) : Prop where
  frames : A.frames = some outer
  mod : Mod K mg base
  bs : ∀ b o, base.get? b = some o → s.heap.get? b = some o ∧ H b = none
  bsz : base.objs.size ≤ s.heap.objs.size
  funs : s.heap.FunFrames base outer
  frf : ∀ b ∈ frs outer, H b = none
  hok : HOk P w H s.heap
  bare : AllBare s.gens
noncomputable def CE (outer : List Env) (P : Program) (w : World) (H : Hp) (s : Shared) (Q : VK) (u : Value) (s' : Shared) : Prop :=
  ∃ v H', s'.os = s.os ∧ AllBare s'.gens ∧ Un (frs outer) [] H H' s.heap s'.heap ∧ HOk P w H' s'.heap ∧ RelV v u ∧ Q v H'
noncomputable def CR (CX : CXT) (outer : List Env) (P : Program) (w : World) (H : Hp) (s : Shared) (Q : VK) (E : XK) (r : Result) (s' : Shared) : Prop :=
  match r with
  | .ok (.ret u) => CE outer P w H s Q u s'
  | .ok _ => False
  | .error e => CX outer H s E e s'
structure FnOk (P : Program) (w : World) (K : PySem.W.Frag) (mg : Str → Option Value) (base : Heap) (CX : CXT) (k : Nat) (f : Addr) (fd : FuncData) (ps : List Str) (sp : Sp) : Prop where
  len : ∀ vs H Q E, sp vs H Q E → vs.length = ps.length
  run : ∀ (A : Around) (outer : List Env) (s : Shared) (H : Hp) (args : Args) (us : List Value) (vs : List V) (Q : VK) (E : XK), Room k A → Env0 P w K mg base A outer s H → BindsTo s fd args (ps.zip us) → Vals vs us → sp vs H Q E →
    codeAny (model P w) A (.call (.ref f) args) (CR CX outer P w H s Q E) s
section
variable {X : Cx} {pins : List (Addr × Obj)} {σ : St} {H : Hp} {s s' : Shared}
theorem Inv.env0 (I : Inv X pins σ H s) : Env0 X.prog X.w X.K X.mg X.base X.A X.stack s H :=
  ⟨I.ok.frames, I.ok.mod, I.bs, Nat.le_trans I.ok.bsz I.sz, I.stack, I.stkFree, I.hok, I.bare⟩
theorem Inv.after {Q : VK} {u : Value} (I : Inv X pins σ H s) (h : CE X.stack X.prog X.w H s Q u s') : EP X pins σ Q u s' := by
  obtain ⟨v, H', os, bare, un, hok, r, q⟩ := h
  obtain ⟨hh, g, d, t, os'⟩ := s'
  obtain rfl : os' = s.os := os
  exact ⟨v, H', I.call (h' := hh) (g' := g) (d' := d) (t' := t) (ch := []) un hok bare (fun b z => absurd z (by simp)), r, q⟩
end
noncomputable def tCall (sp : Sp) (dvs : List V) (E : XK) (t : TA) : TE := fun σ H Q => t σ H fun vs H1 => sp (vs ++ dvs) H1 Q E
noncomputable def Binds (K : PySem.W.Frag) (fd : FuncData) (ps : List Str) (ds : List Value) : Prop :=
  ∀ (s : Shared) (us : List Value), K.In s.heap → (us ++ ds).length = ps.length → BindsTo s fd ⟨us, []⟩ (ps.zip (us ++ ds))
theorem Binds.all {K : PySem.W.Frag} {fd : FuncData} {ps : List Str} (h : ∀ us : List Value, us.length = ps.length → bindArgs fd ⟨us, []⟩ = pure (ps.zip us)) : Binds K fd ps [] := fun s us _ hl => by
  rw [List.append_nil] at hl ⊢
  exact .of_eq (h us hl)
noncomputable def Passes (CX : CXT) (X : Cx) (E : XK) : Prop := ∀ (pins : List (Addr × Obj)) (σ : St) (H : Hp) (s : Shared) (e : Value) (s' : Shared), Inv X pins σ H s → CX X.stack H s E e s' → X.xe e s'
section
variable {X : Cx} {CX : CXT} {k : Nat} {f C : Addr} {fd : FuncData} {ps : List Str} {sp : Sp} {dvs : List V} {ds : List Value} {E : XK} {x m : Str} {p pos apos : Pos} {e o : Expr} {es : List Expr} {ta : TE} {t : TA}
theorem run_fn {pins : List (Addr × Obj)} {σ : St} {H : Hp} {s : Shared} {Q : VK} {us : List Value} {vs : List V} (F : FnOk X.prog X.w X.K X.mg X.base CX k f fd ps sp) (hr : Room k X.A) (hb : Binds X.K fd ps ds) (hd : Vals dvs ds) (hx : Passes CX X E)
    (I : Inv X pins σ H s) (r : Vals vs us) (h : sp (vs ++ dvs) H Q E) : wpAny (model X.prog X.w) X.A (call (.ref f) us) (EP X pins σ Q) X.xe s := by
  have r2 : Vals (vs ++ dvs) (us ++ ds) := r.append hd
  have hl : (us ++ ds).length = ps.length := by rw [← r2.length]; exact F.len _ _ _ _ h
  refine wpAny_call (codeAny_mono (F.run X.A X.stack s H ⟨us, []⟩ (us ++ ds) (vs ++ dvs) Q E hr I.env0 (hb s us I.kIn hl) r2 h) fun r s' hq => ?_)
  cases r with
  | error e => exact hx pins σ H s e s' I hq
  | ok fl =>
    cases fl with
    | ret u => exact I.after hq
    | next => exact False.elim hq
    | brk => exact False.elim hq
    | cont => exact False.elim hq
theorem pe_call (F : FnOk X.prog X.w X.K X.mg X.base CX k f fd ps sp) (hr : Room k X.A) (hg : Gl X x) (hm : X.mg x = some (.ref f)) (hk : PySem.W.keepIn X.K (.ref f) = true) (hb : Binds X.K fd ps ds) (hd : Vals dvs ds) (hx : Passes CX X E)
    (ha : PA X (e :: es) t) (hdb : (x == ("__debug__" : Str)) = false := by decide) (he : starEach (e :: es) X.env = (false, eval e X.env) :: starEach es X.env := by rfl) (hpl : (backTo pos (starEach es X.env)).any (·.1) = false := by rfl) :
    PE X (.Call (.Name x p) (e :: es) [] pos) (tCall sp dvs E t) := by
  intro pins s σ H Q I h
  refine wpAny_Call_Name_kw (ld_glob I hg hm ?_ hdb)
  refine PySem.W.callWith_K (h₀ := X.base) I.ok.mod.kin hk (thn (ha pos pins s σ H _ I h) fun us s1 ⟨vs, H1, I1, r, q⟩ => ⟨I1.kIn, ?_⟩) he hpl
  exact run_fn F hr hb hd hx I1 r q
end
noncomputable def PK (X : Cx) (kws : List Keyword) (t : TA) : Prop :=
  ∀ (pos : Pos) (pins : List (Addr × Obj)) (s : Shared) (σ : St) (H : Hp) (Q : List V → Hp → Prop), Inv X pins σ H s → t σ H Q → wpAny (model X.prog X.w) X.A (evalAll ((backToKw pos (keywordEach kws X.env)).map (·.2))) (AP X pins σ Q) X.xe s
section
variable {X : Cx} {CX : CXT} {k : Nat} {f C : Addr} {fd : FuncData} {ps ks : List Str} {sp : Sp} {E : XK} {x m : Str} {p pos apos kpos : Pos} {e o : Expr} {es : List Expr} {kws : List Keyword} {te ta : TE} {t tk : TA} {nm : Option Str}
variable {g : List Value → List Value → List Value} {gV : List V → List V → List V}
end
structure FnScope (N P : List Str) (sc : Scope) : Prop where
  kind : sc.kind = .function
  co : sc.isCoroutine = false
  gen : sc.isGenerator = false
  nd : N.Nodup
  pre : N.take P.length = P
  par : ∀ x ∈ P, sc.names.lookup x = some .local ∨ sc.names.lookup x = some .cell
  nofree : ∀ y ∈ sc.names, y.2 ≠ .free
theorem bindL_out {kindOf : Str → Option NameKind} {x : Str} : ∀ {binds : List (Str × Value)} {m : Str → Option Value}, (∀ v, (x, v) ∉ binds) → bindL kindOf binds m x = m x
  | [], _, _ => rfl
  | (n, v) :: r, m, h => by
    unfold bindL
    rw [bindL_out fun w hw => h w (List.mem_cons_of_mem _ hw)]
    split
    · have : x ≠ n := by rintro rfl; exact h v List.mem_cons_self
      simp [this]
    · rfl
theorem bindC_out {kindOf : Str → Option NameKind} {x : Str} : ∀ {binds : List (Str × Value)} {m : Str → Option Value}, (∀ v, (x, v) ∉ binds) → bindC kindOf binds m x = m x
  | [], _, _ => rfl
  | (n, v) :: r, m, h => by
    unfold bindC
    rw [bindC_out fun w hw => h w (List.mem_cons_of_mem _ hw)]
    split
    · rfl
    · have : x ≠ n := by rintro rfl; exact h v List.mem_cons_self
      simp [this]
theorem bindL_get {kindOf : Str → Option NameKind} {x : Str} {v : Value} : ∀ {P : List Str} {vs : List Value} {i : Nat} {m : Str → Option Value}, P.Nodup → P[i]? = some x → vs[i]? = some v → kindOf x = some .local →
    bindL kindOf (P.zip vs) m x = some v
  | [], _, _, _, _, h, _, _ => by simp at h
  | _ :: _, [], _, _, _, _, h, _ => by simp at h
  | p :: P, w :: vs, 0, m, nd, h1, h2, hk => by
    simp at h1 h2; subst h1; subst h2
    show bindL kindOf ((p, w) :: P.zip vs) m p = _
    unfold bindL
    rw [bindL_out fun v hv => (List.nodup_cons.mp nd).1 (List.of_mem_zip hv).1, if_pos hk]
    simp
  | p :: P, w :: vs, i + 1, m, nd, h1, h2, hk => by
    show bindL kindOf ((p, w) :: P.zip vs) m x = _
    unfold bindL
    exact bindL_get (i := i) (List.nodup_cons.mp nd).2 (by simpa using h1) (by simpa using h2) hk
theorem bindC_get {kindOf : Str → Option NameKind} {x : Str} {v : Value} : ∀ {P : List Str} {vs : List Value} {i : Nat} {m : Str → Option Value}, P.Nodup → P[i]? = some x → vs[i]? = some v → kindOf x ≠ some .local →
    bindC kindOf (P.zip vs) m x = some v
  | [], _, _, _, _, h, _, _ => by simp at h
  | _ :: _, [], _, _, _, _, h, _ => by simp at h
  | p :: P, w :: vs, 0, m, nd, h1, h2, hk => by
    simp at h1 h2; subst h1; subst h2
    show bindC kindOf ((p, w) :: P.zip vs) m p = _
    unfold bindC
    rw [bindC_out fun v hv => (List.nodup_cons.mp nd).1 (List.of_mem_zip hv).1, if_neg hk]
    simp
  | p :: P, w :: vs, i + 1, m, nd, h1, h2, hk => by
    show bindC kindOf ((p, w) :: P.zip vs) m x = _
    unfold bindC
    exact bindC_get (i := i) (List.nodup_cons.mp nd).2 (by simpa using h1) (by simpa using h2) hk
noncomputable def start (N : List Str) (vs : List V) : St := vs.map some ++ List.replicate (N.length - vs.length) none
noncomputable def cxOf (CX : CXT) (P : Program) (w : World) (K : PySem.W.Frag) (mg : Str → Option Value) (base : Heap) (N : List Str) (qual : Str) (scope : Scope) (f : Addr) (cd : Value) (A : Around) (outer : List Env) (s : Shared) (H : Hp) (E : XK) : Cx where
  prog := P
  w := w
  K := K
  mg := mg
  base := base
  A := A.deeper (envOfC qual scope s.heap.objs.size f cd)
  N := N
  s₀ := s
  H₀ := H
  env := envOfC qual scope s.heap.objs.size f cd
  outer := outer
  stack := envOfC qual scope s.heap.objs.size f cd :: outer
  ex := []
  calm := true
  fn := fun _ => true
  pn := []
  xe := fun e s' => wpAny (model P w) (A.deeper (envOfC qual scope s.heap.objs.size f cd)) (leaving (envOfC qual scope s.heap.objs.size f cd) e) (fun _ s'' => CX outer H s E e s'') (fun e' s'' => CX outer H s E e' s'') s'
theorem cell_has {sc : Scope} {n : Nat} {x : Str} (h : sc.names.lookup x = some .cell) : ∃ c, (cellsFrom n sc.names []).lookup x = some c := by
  have q := PySem.W.cellsFrom_some sc.names n [] (.inl h)
  exact Option.isSome_iff_exists.mp q
theorem inv_start {CX : CXT} {P : Program} {w : World} {K : PySem.W.Frag} {mg : Str → Option Value} {base : Heap} {N ps : List Str} {qual : Str} {scope : Scope} {f : Addr} {cd : Value} {A : Around} {outer : List Env} {s s1 : Shared} {H : Hp} {E : XK} {us : List Value} {vs : List V}
    (S : FnScope N ps scope) (hd : A.handled = none) (e0 : Env0 P w K mg base A outer s H) (hl : vs.length = ps.length) (r : Vals vs us)
    (x : InCallC s s.heap.objs.size (bindL (envOfC qual scope s.heap.objs.size f cd).kindOf (ps.zip us) fun _ => none) (cellsFrom (s.heap.objs.size + 1) scope.names []) (bindC (envOfC qual scope s.heap.objs.size f cd).kindOf (ps.zip us) fun _ => none) s1) :
    Inv (cxOf CX P w K mg base N qual scope f cd A outer s H E) [] (start N vs) H s1 := by
  have hpl : ps.length ≤ N.length := by have := congrArg List.length S.pre; rw [List.length_take] at this; omega
  obtain ⟨h1, tk, rfl, hk⟩ := x.done
  have noA : ∀ b : Addr, b ∉ (cxOf CX P w K mg base N qual scope f cd A outer s H E).ex := fun b z => absurd (show b ∈ ([] : List Addr) from z) (by simp)
  refine ⟨⟨e0.mod, S.kind, rfl, rfl, Nat.le_refl _, fun y z c h1 h2 => ?_, fun y hy => ?_, fun y c _ h => ?_, fun _ => hd, Around.frames_deeper e0.frames, .inr ⟨rfl, rfl⟩, fun b z => absurd z (noA b), e0.bs, e0.bsz, fun b _ _ => noA b, fun b z => absurd z (noA b), e0.funs, e0.frf⟩,
    rfl, e0.bare, Un.kept hk, ⟨_, x.toInCall.ns, fun i y v h1 h2 h3 => ?_⟩, fun y c h => ⟨_, x.cell y c h⟩, e0.hok.fresh (Nat.le_refl _), fun y c h => ?_, fun p hp => absurd (show p ∈ ([] : List (Addr × Obj)) from hp) (by simp), e0.hok.kept hk, ?_⟩
  · exact name_of_addr x.apart (PySem.mem_of_lookup h1) (PySem.mem_of_lookup h2)
  · have hy : scope.names.lookup y = some .cell ∨ scope.names.lookup y = some .free := hy
    rcases hy with hy | hy
    · exact cell_has hy
    · exact absurd rfl (S.nofree _ (PySem.mem_of_lookup hy))
  · exact Nat.le_of_lt (x.above y c (PySem.mem_of_lookup h))
  · have hi : i < vs.length := by
      unfold start at h2
      by_cases hi : i < vs.length
      · exact hi
      · rw [List.getElem?_append_right (by simpa using hi)] at h2
        rw [List.getElem?_replicate] at h2
        split at h2 <;> cases h2
    have ha : vs[i]? = some v := by
      unfold start at h2
      rw [List.getElem?_append_left (by simpa using hi), List.getElem?_map] at h2
      cases e : vs[i]? with
      | none => rw [e] at h2; cases h2
      | some a => rw [e] at h2; cases h2; rfl
    obtain ⟨u, hu, rv⟩ := r.get ha
    have hp : ps[i]? = some y := by
      rw [← S.pre, List.getElem?_take_of_lt (by omega)]; exact h1
    have ndP : ps.Nodup := by rw [← S.pre]; exact S.nd.sublist (List.take_sublist _ _)
    refine ⟨u, rv, ?_⟩
    rcases S.par y (List.mem_of_getElem? hp) with k | k
    · exact .inl ⟨k, bindL_get ndP hp hu k⟩
    · obtain ⟨c, e⟩ := cell_has (n := s.heap.objs.size + 1) k
      refine .inr ⟨.inl k, c, e, ?_⟩
      have q := x.cell y c e
      rw [bindC_get ndP hp hu (by show scope.names.lookup y ≠ _; rw [k]; decide)] at q
      exact q
  · exact e0.hok.fresh (Nat.le_of_lt (x.above y c (PySem.mem_of_lookup h)))
  · unfold start
    show _ = N.length
    rw [List.length_append, List.length_map, List.length_replicate]
    omega
theorem fn_of {CX : CXT} {P : Program} {w : World} {K : PySem.W.Frag} {mg : Str → Option Value} {base : Heap} {k : Nat} {f : Addr} {name qual : Str} {params : Arguments} {body : List Stmt} {scope : Scope} {dV kV doc pm cdv ct oc : Value} {an od : Option Addr}
    {osl : Array (Option Value)} {N ps : List Str} {sp : Sp} (lk : K.lookup f = some ⟨oc, od, .func (PySem.W.fnOf name qual params body scope dV kV doc pm an cdv ct), osl⟩) (hcd : PySem.W.codeIn K cdv qual = true) (S : FnScope N ps scope)
    (len : ∀ vs H Q E, sp vs H Q E → vs.length = ps.length)
    (hbody : ∀ (A : Around) (outer : List Env) (s : Shared) (H : Hp) (vs : List V) (Q : VK) (E : XK), Room k (A.deeper (envOfC qual scope s.heap.objs.size f cdv)) → sp vs H Q E →
      ∃ t, PSs (cxOf CX P w K mg base N qual scope f cdv A outer s H E) body t ∧ t { nx := fun _ H' => Q .non H', rt := Q } (start N vs) H) :
    FnOk P w K mg base CX (k + 1) f (PySem.W.fnOf name qual params body scope dV kV doc pm an cdv ct) ps sp := by
  refine ⟨len, fun A outer s H args us vs Q E hr e0 hb r hsp => ?_⟩
  have hl := len _ _ _ _ hsp
  have KX : K.In s.heap := e0.mod.kin.keeps fun b o e => (e0.bs b o e).1
  have lim : s.heap.NoLimit := e0.mod.nolimit.keeps fun b o e => (e0.bs b o e).1
  have hkind : ∀ y ∈ ps.zip us, scope.names.lookup y.1 = some .local ∨ (scope.names.lookup y.1 = some .cell ∧ ((cellsFrom (s.heap.objs.size + 1) scope.names []).lookup y.1).isSome = true) := fun ⟨n, v⟩ hy => by
    rcases S.par n (List.of_mem_zip hy).1 with q | q
    · exact .inl q
    · exact .inr ⟨q, PySem.W.cellsFrom_some _ _ _ (.inl q)⟩
  refine codeAny_call_function hr.depth (KX _ _ lk) rfl S.co S.gen rfl (PySem.W.codeRec_of KX hcd) (hb _ _ _ _ ?_)
  refine wpAny_newFunctionEnv_cells S.kind hkind fun env he s1 x => ?_
  subst he
  refine ⟨lim.keeps x.toInCall.keep, codeAny_func ?_⟩
  obtain ⟨t, ht, hq⟩ := hbody A outer s H vs Q E (hr.deeper _) hsp
  have I : Inv (cxOf CX P w K mg base N qual scope f cdv A outer s H E) [] (start N vs) H s1 := inv_start S hr.hd e0 hl r x
  refine wpAny_mono (ht [] s1 (start N vs) H _ I hq) (fun fl s' hs => ?_) fun e s' hs => hs
  have fin : ∀ {σ' : St} {H' : Hp} {v : V} {u : Value}, Inv (cxOf CX P w K mg base N qual scope f cdv A outer s H E) [] σ' H' s' → RelV v u → Q v H' → CE outer P w H s Q u s' :=
    fun {σ' H' v u} J rv q => ⟨v, H', J.os, J.bare, J.base, J.hok, rv, q⟩
  cases fl with
  | ret u =>
    obtain ⟨v, σ', H', J, rv, q⟩ := hs
    exact fin J rv q
  | next =>
    obtain ⟨σ', H', J, q⟩ := hs
    exact fin (v := V.non) (u := Value.none) J rfl q
  | brk =>
    obtain ⟨_, _, _, q⟩ := hs
    exact False.elim q
  | cont =>
    obtain ⟨_, _, _, q⟩ := hs
    exact False.elim q
end L2
namespace L2
open PySem PySem.Spec PyProof.Rows
section
variable {X : Cx} {x : Str} {p pos : Pos} {e : Expr} {es : List Expr} {t : TA} {id T : String} {r : List V → Hp → VK → Prop}
noncomputable def tCB (r : List V → Hp → VK → Prop) (t : TA) : TE := fun σ H Q => t σ H fun vs H1 => r vs H1 Q
theorem pe_callB (hc : CallR X (.builtin id) r) (hg : Gl X x) (hm : X.mg x = none) (hv : bootBuiltins x = some (.builtin id)) (ha : PA X (e :: es) t) (hn : x ≠ "__name__" := by decide) (hdb : (x == ("__debug__" : Str)) = false := by decide)
    (he : starEach (e :: es) X.env = (false, eval e X.env) :: starEach es X.env := by rfl) (hpl : (backTo pos (starEach es X.env)).any (·.1) = false := by rfl) : PE X (.Call (.Name x p) (e :: es) [] pos) (tCB r t) := by
  intro pins s σ H Q I h
  refine wpAny_Call_Name_kw (ld_blt I hg hm hv ?_ hn hdb)
  exact PyProof.Rows.callWith_builtin1 (thn (ha pos pins s σ H _ I h) fun us s1 ⟨vs, H1, I1, r1, q1⟩ => hc pins s1 σ H1 vs us Q I1 r1 q1) he hpl
theorem pe_callTy (hc : CallR X (.type T) r) (hg : Gl X x) (hm : X.mg x = none) (hv : bootBuiltins x = some (.type T)) (ha : PA X (e :: es) t) (hn : x ≠ "__name__" := by decide) (hdb : (x == ("__debug__" : Str)) = false := by decide)
    (he : starEach (e :: es) X.env = (false, eval e X.env) :: starEach es X.env := by rfl) (hpl : (backTo pos (starEach es X.env)).any (·.1) = false := by rfl) : PE X (.Call (.Name x p) (e :: es) [] pos) (tCB r t) := by
  intro pins s σ H Q I h
  refine wpAny_Call_Name_kw (ld_blt I hg hm hv ?_ hn hdb)
  exact PyProof.Rows.callWith_type1 (thn (ha pos pins s σ H _ I h) fun us s1 ⟨vs, H1, I1, r1, q1⟩ => hc pins s1 σ H1 vs us Q I1 r1 q1) he hpl
end
end L2
namespace HT
open PySem PyProof.Rows
noncomputable def lexLt : List Int → List Int → Bool
  | [], [] => false
  | [], _ :: _ => true
  | _ :: _, [] => false
  | x :: xs, y :: ys => if x = y then lexLt xs ys else decide (x < y)
theorem lexLt_cons (x y : Int) (xs ys : List Int) : lexLt (x :: xs) (y :: ys) = if x = y then lexLt xs ys else decide (x < y) := rfl
theorem lexLt_nil_nil : lexLt [] [] = false := rfl
theorem lexLt_nil_cons (y : Int) (ys : List Int) : lexLt [] (y :: ys) = true := rfl
theorem lexLt_cons_nil (x : Int) (xs : List Int) : lexLt (x :: xs) [] = false := rfl
theorem eqAt_int (A : Around) (s : Shared) (a : Int) (t : Tok) (c : Int) (u : Tok) : ∃ e, SeqAt.EqAt A s (.int a t) (.int c u) e ∧ (e = true ↔ a = c) :=
  ⟨(a == c), SeqAt.EqAt.int_int a t c u, by simp⟩
theorem rcLt_int (A : Around) (s : Shared) (a : Int) (t : Tok) (c : Int) (u : Tok) (prog : Program) (w : World) (E : Value → Shared → Prop) (Q : Value → Shared → Prop) (h : Q (.bool (decide (a < c))) s) :
    wpAny (model prog w) A (richCompare .Lt (.int a t) (.int c u)) Q E s :=
  (PyProof.Rows.lt_int h : wpAny (model prog w) A (compareOp .Lt (.int a t) (.int c u)) Q E s)
section
open PySem.SeqAt
open PySem.AutoSeq1 (wpAny_loadPart')
open PySem.MeetsSeq PySem.MeetsSeq2 PySem.MeetsSeq3
theorem tuple_lt_ints (l b : Addr) (items items2 : Array Value) (n n2 : Nat) (dd dd2 : Option Addr) (sl sl2 : Array (Option Value)) (ns ms : List Int) (hi : IntsAre items.toList ns) (hj : IntsAre items2.toList ms) :
    Meets (Builtin.«tuple.__lt__» ⟨[.ref l, .ref b], []⟩)
      (fun _ R s => s.heap.get? l = some { cls := .type "tuple", dict := dd, data := .seq items n, slots := sl } ∧ s.heap.get? b = some { cls := .type "tuple", dict := dd2, data := .seq items2 n2, slots := sl2 } ∧
        R (.ok (.ret (.bool (lexLt ns ms)))) s) :=
  .of_wp fun prog w A R s h => by
    obtain ⟨hp, g, d, tk, os⟩ := s; obtain ⟨hl, hb, h⟩ := h
    have f2 := AutoSeq1.sub_tuple_tuple
    have z1 : items.size = ns.length := by rw [← hi.length]; simp
    have z2 : items2.size = ms.length := by rw [← hj.length]; simp
    wp_walk using wpAny_loadPart' hl, wpAny_loadPart' hb, wpAny_forIn_list _ (fun rest b s' => b.1 = none ∧ s' = ⟨hp, g, d, tk, os⟩ ∧ ∃ (vs ws : List Value) (ns' ms' : List Int), rest = vs.zip ws ∧
      IntsAre vs ns' ∧ IntsAre ws ms' ∧ ns'.length + items2.size = ms'.length + items.size ∧ R (.ok (.ret (.bool (lexLt ns' ms')))) ⟨hp, g, d, tk, os⟩) _
    case turn =>
      rintro ⟨y, x⟩ rest b s' ⟨hb', rfl, vs, ws, ns', ms', hz, hvi, hwi, hlen, hR⟩
      cases hvi with
      | nil => rw [List.zip_nil_left] at hz; cases hz
      | cons a t hvi' =>
        cases hwi with
        | nil => rw [List.zip_nil_right] at hz; cases hz
        | cons c u hwi' =>
          rw [List.zip_cons_cons] at hz
          injection hz with hyx hrest
          injection hyx with hy hx
          subst hy hx
          rw [lexLt_cons] at hR
          simp only [List.length_cons] at hlen
          obtain ⟨e, he, hiff⟩ := eqAt_int A.in1 ⟨hp, g, d, tk, os⟩ a t c u
          refine wpAny_bind (he prog w _ _ ?_)
          cases e with
          | true =>
            rw [if_pos (hiff.mp rfl)] at hR
            wp_walk
            exact ⟨rfl, rfl, _, _, _, _, hrest, hvi', hwi', by omega, hR⟩
          | false =>
            rw [if_neg (fun q => absurd (hiff.mpr q) Bool.false_ne_true)] at hR
            have hri := rcLt_int A.in1 ⟨hp, g, d, tk, os⟩ a t c u prog w
            wp_walk using hri
            exact ⟨_, rfl, by simpa using hR⟩
    case fin =>
      rintro ⟨b1, b2⟩ s' ⟨hb', rfl, vs, ws, ns', ms', hz, hvi, hwi, hlen, hR⟩
      simp only at hb'
      subst hb'
      have hv : lexLt ns' ms' = decide (items.size < items2.size) := by
        cases hvi with
        | nil =>
          cases hwi with
          | nil =>
            simp only [List.length_nil] at hlen
            rw [lexLt_nil_nil]
            exact (decide_eq_false (by omega)).symm
          | cons c u hw =>
            simp only [List.length_nil, List.length_cons] at hlen
            rw [lexLt_nil_cons]
            exact (decide_eq_true (by omega)).symm
        | cons a t hv =>
          cases hwi with
          | nil =>
            simp only [List.length_nil, List.length_cons] at hlen
            rw [lexLt_cons_nil]
            exact (decide_eq_false (by omega)).symm
          | cons c u hw =>
            rw [List.zip_cons_cons] at hz
            cases hz
      rw [hv] at hR
      wp_walk
      exact ⟨_, rfl, by simpa [Builtin.Tuple.tupleCompareSizes] using hR⟩
    case h =>
      exact ⟨rfl, rfl, items.toList, items2.toList, ns, ms, rfl, hi, hj, by omega, h⟩
end
section
variable {prog : Program} {w : World} {A : Around} {E : Value → Shared → Prop} {s : Shared}
theorem lt_tupInts {l b : Addr} {items items2 : Array Value} {ns ms : List Int} {Q : Value → Shared → Prop} (hl : IsTup s.heap l items) (hb : IsTup s.heap b items2) (hi : IntsAre items.toList ns) (hj : IntsAre items2.toList ms)
    (hu : A.units < cLine) (h : Q (.bool (lexLt ns ms)) s) : wpAny (model prog w) A (compareOp .Lt (.ref l) (.ref b)) Q E s := by
  obtain ⟨⟨cls, dd, data, sl⟩, ho, hc, n, hd⟩ := id hl
  obtain ⟨⟨cls2, dd2, data2, sl2⟩, ho2, hc2, n2, hd2⟩ := id hb
  simp only at hc hd hc2 hd2
  subst hc hd hc2 hd2
  exact richCompare_meets_room (op := .Lt) ⟨_, ho, rfl⟩ ⟨_, ho2, rfl⟩ PySem.F.slot_tuple_lt PySem.F.entry_tuple_lt (PySem.F.args_tuple_lt_2 _ _) (tuple_lt_ints l b items items2 n n2 dd dd2 sl sl2 ns ms hi hj)
    ⟨ho, ho2, show Value.bool (lexLt ns ms) ≠ Value.notImplemented ∧ Q (.bool (lexLt ns ms)) s from ⟨(fun x => nomatch x), h⟩⟩ hu
theorem cat_tup {t b : Addr} {vs ws : List Value} {Q : Value → Shared → Prop} (ht : IsTup s.heap t vs.toArray) (hb : IsTup s.heap b ws.toArray) (hv : vs ≠ [])
    (h1 : ws = [] → Q (.ref t) s) (h2 : ws ≠ [] → Q (.ref s.heap.objs.size) { s with heap := s.heap.push { cls := .type "tuple", data := .seq (vs ++ ws).toArray } })
    (hsz : vs.length + ws.length ≤ sizeLine) : wpAny (model prog w) A (binaryOp .Add (.ref t) (.ref b)) Q E s := by
  obtain ⟨⟨cls, dd, data, sl⟩, ho, hc, n, hd⟩ := id ht
  obtain ⟨⟨cls2, dd2, data2, sl2⟩, ho2, hc2, n2, hd2⟩ := id hb
  simp only at hc hd hc2 hd2
  subst hc hd hc2 hd2
  have e : vs.toArray ++ ws.toArray = (vs ++ ws).toArray := by simp
  by_cases hw : ws = []
  · exact concat_meets ⟨_, ho, rfl⟩ ⟨_, ho2, rfl⟩ noFill_tuple_add seq_tuple_add PySem.F.slot_tuple_add PySem.F.entry_tuple_add (PySem.F.args_tuple_add_2 _ _)
      (tuple_addW1 t b vs.toArray ws.toArray n n2 dd dd2 sl sl2 (by simpa using hv) (by simp [hw])) ⟨ho, ho2, h1 hw⟩
  · refine concat_meets ⟨_, ho, rfl⟩ ⟨_, ho2, rfl⟩ noFill_tuple_add seq_tuple_add PySem.F.slot_tuple_add PySem.F.entry_tuple_add (PySem.F.args_tuple_add_2 _ _)
      (tuple_addW2 t b vs.toArray ws.toArray n n2 dd dd2 sl sl2 (by simpa using hv) (by simpa using hw) (by rw [List.size_toArray, List.size_toArray]; exact hsz)) ⟨ho, ho2, ?_⟩
    rw [e]
    exact h2 hw
noncomputable def sIx (n d : Nat) : Option Int → Nat
  | none => d
  | some v => if v < 0 then (v + (n : Int)).toNat else min v.toNat n
theorem sIx_none (n d : Nat) : sIx n d none = d := rfl
theorem sIx_nat (n d k : Nat) : sIx n d (some (k : Int)) = min k n := by
  show (if (k : Int) < 0 then ((k : Int) + (n : Int)).toNat else min (k : Int).toNat n) = min k n
  rw [if_neg (by omega), Int.toNat_natCast]
theorem sIx_le (n d : Nat) (hd : d ≤ n) (o : Option Int) : sIx n d o ≤ n := by
  cases o with
  | none => exact hd
  | some v =>
    show (if v < 0 then (v + (n : Int)).toNat else min v.toNat n) ≤ n
    by_cases hv : v < 0
    · rw [if_pos hv]; omega
    · rw [if_neg hv]; exact Nat.min_le_right _ _
theorem clip_eq (v : Int) (n d : Nat) : (if v < 0 then max (v + (n : Int)) 0 else min v (n : Int)) = ((sIx n d (some v) : Nat) : Int) := by
  show (if v < 0 then max (v + (n : Int)) 0 else min v (n : Int)) = (((if v < 0 then (v + (n : Int)).toNat else min v.toNat n) : Nat) : Int)
  by_cases hv : v < 0
  · simp only [if_pos hv]; omega
  · simp only [if_neg hv]; omega
theorem adjust_gen (lo hi : Option Int) (n : Nat) : Builtin.Slice.sliceAdjust lo hi 1 (n : Int) = (((sIx n 0 lo : Nat) : Int), ((sIx n n hi : Nat) : Int)) := by
  have h1 : ¬ ((1 : Int) < 0) := by omega
  unfold Builtin.Slice.sliceAdjust
  simp only [h1, if_false]
  refine Prod.ext ?_ ?_
  · cases lo with
    | none => rfl
    | some v => exact clip_eq v n 0
  · cases hi with
    | none => rfl
    | some v => exact clip_eq v n n
theorem places_gen (i j : Nat) : Builtin.Slice.slicePlaces (i : Int) (j : Int) 1 = j - i := by
  unfold Builtin.Slice.slicePlaces
  have h1 : (1 : Int) > 0 := by omega
  simp only [h1, if_true, Int.ediv_one]
  split <;> omega
theorem slicePart_ {v : Value} {o : Option Int} {Q : Option Int → Shared → Prop} (p : IsPart v o) (h : Q o s) : wpAny (model prog w) A (Builtin.Slice.slicePartIndex v) Q E s := by
  cases p with
  | none => exact slicePart_none h
  | int i t => exact slicePart_int h
theorem sliceApplied_gen {sl : Addr} {vl vu : Value} {lo hi : Option Int} {n : Nat} {Q : Int × Int × Nat → Shared → Prop} (hs : s.heap.IsSliceOf sl vl vu .none) (pl : IsPart vl lo) (pu : IsPart vu hi)
    (h : Q (((sIx n 0 lo : Nat) : Int), 1, sIx n n hi - sIx n 0 lo) s) : wpAny (model prog w) A (Builtin.Slice.sliceApplied (.ref sl) (pure (n : Int))) Q E s := by
  obtain ⟨os, hos, hcs, hds⟩ := id hs
  unfold Builtin.Slice.sliceApplied Builtin.Slice.sliceFields
  refine wpAny_bind (wpAny_bind (wpAny_field hos hds (x := vl) rfl (wpAny_bind (wpAny_field hos hds (x := vu) rfl (wpAny_bind (wpAny_field hos hds (x := .none) rfl (wpAny_pure ?_)))))))
  refine wpAny_bind (slicePart_none ?_)
  show wpAny _ _ (if ((1 : Int) == 0) = true then _ else _) _ _ s
  rw [if_neg (by decide)]
  refine wpAny_bind (slicePart_ pl (wpAny_bind (slicePart_ pu (wpAny_bind (wpAny_pure ?_)))))
  show wpAny _ _ (match Builtin.Slice.sliceAdjust lo hi 1 (n : Int) with | (lo, hi) => pure (lo, (1 : Int), Builtin.Slice.slicePlaces lo hi 1)) _ _ s
  rw [adjust_gen lo hi n]
  show wpAny _ _ (pure (((sIx n 0 lo : Nat) : Int), (1 : Int), Builtin.Slice.slicePlaces ((sIx n 0 lo : Nat) : Int) ((sIx n n hi : Nat) : Int) 1)) _ _ s
  rw [places_gen]
  exact wpAny_pure h
theorem pick_gen (xs : Array Value) (i k : Nat) : ((List.range k).filterMap fun (m : Nat) => xs[((i : Int) + (m : Int) * 1).toNat]?).toArray = ((xs.toList.drop i).take k).toArray := by
  have e : (fun (m : Nat) => xs[((i : Int) + (m : Int) * 1).toNat]?) = fun m => xs[i + m]? := by
    funext m
    have : ((i : Int) + (m : Int) * 1).toNat = i + m := by omega
    rw [this]
  rw [e]
  have := pick_run xs i k
  rw [List.filterMap_map] at this
  have e2 : ((fun x => xs[x]?) ∘ fun x => i + x) = fun m => xs[i + m]? := rfl
  rw [e2] at this
  rw [this]
theorem getItem_tuple_cut {t sl : Addr} {items : Array Value} {vl vu : Value} {lo hi : Option Int} {Q : Value → Shared → Prop} (ht : IsTup s.heap t items) (hs : s.heap.IsSliceOf sl vl vu .none) (pl : IsPart vl lo) (pu : IsPart vu hi)
    (hw : ¬ (sIx items.size 0 lo = 0 ∧ sIx items.size items.size hi = items.size))
    (h : Q (.ref s.heap.objs.size) { s with heap := s.heap.push { cls := .type "tuple", data := .seq ((items.toList.drop (sIx items.size 0 lo)).take (sIx items.size items.size hi - sIx items.size 0 lo)).toArray } })
    (hsz : items.size ≤ sizeLine) : wpAny (model prog w) A (getItem (.ref t) (.ref sl)) Q E s := by
  have htake : sizeOk (.seq ((items.toList.drop (sIx items.size 0 lo)).take (sIx items.size items.size hi - sIx items.size 0 lo)).toArray) := by
    show ((items.toList.drop (sIx items.size 0 lo)).take (sIx items.size items.size hi - sIx items.size 0 lo)).toArray.size ≤ sizeLine
    rw [List.size_toArray, List.length_take, List.length_drop, Array.length_toList]
    omega
  have hj : sIx items.size items.size hi ≤ items.size := sIx_le _ _ (Nat.le_refl _) hi
  obtain ⟨os, hos, hcs, hds⟩ := id hs
  have hTs : s.TypeIs (.ref sl) "slice" := ⟨os, hos, hcs⟩
  unfold getItem
  try with_reducible refine wpAny_holding ?_
  first | refine wpAny_bind (wpAny_pure ?_) | skip
  refine wpAny_bind (wpAny_sequenceKey ht.typeIs (by decide) ?_)
  refine wpAny_bind (wpAny_callSpecial?_slot (name := Str.ofString "__getitem__") ht.typeIs PyProof.Rows.slot_tuple_getitem
    (wpAny_call_entry PyProof.Rows.slot_tuple_getitem ht.typeIs entry_tuple_getitem ?_ (args_tuple_getitem _ _)))
  show wpAny _ _ (Builtin.Tuple.tupleItemsOf (.ref t) >>= _) _ _ s
  refine wpAny_bind (tupleItemsOf_ ht ?_)
  refine wpAny_bind (wpAny_typeOf hTs ?_)
  rw [if_pos (by decide)]
  refine wpAny_bind (sliceApplied_gen hs pl pu ?_)
  have hno : ¬ ((((sIx items.size 0 lo : Nat) : Int) == 0 && (1 : Int) == 1 && (sIx items.size items.size hi - sIx items.size 0 lo) == items.size) = true) := by
    intro q
    rw [Bool.and_eq_true, Bool.and_eq_true] at q
    have q1 : ((sIx items.size 0 lo : Nat) : Int) = 0 := eq_of_beq q.1.1
    have q2 : sIx items.size items.size hi - sIx items.size 0 lo = items.size := eq_of_beq q.2
    exact hw ⟨by omega, by omega⟩
  show wpAny _ _ (if (((sIx items.size 0 lo : Nat) : Int) == 0 && (1 : Int) == 1 && (sIx items.size items.size hi - sIx items.size 0 lo) == items.size) = true then _ else _) _ _ s
  rw [if_neg hno, pick_gen]
  first
    | exact wpAny_bind (m := Builtin.Tuple.tupleExact _) (wpAny_newObj_type (wpAny_pure ⟨_, rfl, wpAny_pure h⟩) htake)
    | exact wpAny_bind (m := Builtin.Tuple.tupleExact _) (wpAny_newObj_type (wpAny_bind (wpAny_pure (wpAny_pure ⟨_, rfl, wpAny_pure h⟩))) htake)
    | exact wpAny_bind (wpAny_bind (m := Builtin.Tuple.tupleExact _) (wpAny_newObj_type (wpAny_pure (wpAny_pure ⟨_, rfl, wpAny_pure h⟩)) htake))
    | exact wpAny_bind (wpAny_bind (m := Builtin.Tuple.tupleExact _) (wpAny_newObj_type (wpAny_pure ⟨_, rfl, wpAny_pure h⟩) htake))
end
end HT
namespace L2
open PySem PySem.Spec PyProof.Rows
abbrev TO := St → Hp → (Option Int → Hp → Prop) → Prop
noncomputable def PO (X : Cx) (e : Option Expr) (t : TO) : Prop :=
  ∀ (pins : List (Addr × Obj)) (s : Shared) (σ : St) (H : Hp) (Q : Option Int → Hp → Prop), Inv X pins σ H s → t σ H Q →
    wpAny (model X.prog X.w) X.A (evalPart e X.env) (fun u s' => ∃ o H', Inv X pins σ H' s' ∧ IsPart u o ∧ Q o H') X.xe s
noncomputable def tNoPart : TO := fun _ H Q => Q none H
noncomputable def tPart (t : TE) : TO := fun σ H Q => t σ H fun x H1 => ∃ i, x = .int i ∧ Q (some i) H1
theorem intsAre_of {ns : List Int} : ∀ {us : List Value}, Vals (ns.map V.int) us → IntsAre us ns := by
  induction ns with
  | nil => intro us r; rw [List.map_nil] at r; cases r; exact .nil
  | cons n ns ih =>
    intro us r
    rw [List.map_cons] at r
    cases r with
    | cons r1 r2 =>
      obtain ⟨t, e⟩ := r1
      subst e
      exact .cons n t (ih r2)
section
variable {X : Cx} {e : Expr} {te : TE} {lo hi : Option Expr} {tl th : TO} {pos p2 : Pos}
theorem po_none : PO X none tNoPart := by
  intro pins s σ H Q I h
  rw [evalPart_none]
  exact wpAny_pure ⟨none, H, I, .none, h⟩
theorem po_some (h : PE X e te) : PO X (some e) (tPart te) := by
  intro pins s σ H Q I hw
  rw [evalPart_some]
  refine thn (h pins s σ H _ I hw) fun u s1 ⟨x, H1, I1, r1, q1⟩ => ?_
  obtain ⟨i, rfl, q⟩ := q1
  obtain ⟨t, rfl⟩ := r1
  exact ⟨some i, H1, I1, .int i t, q⟩
noncomputable def SlR (X : Cx) (r : V → Option Int → Option Int → Hp → VK → Prop) : Prop :=
  ∀ (pins : List (Addr × Obj)) (s : Shared) (σ : St) (H : Hp) (x : V) (v vl vu : Value) (lo hi : Option Int) (sl : Addr) (Q : VK), Inv X pins σ H s → RelV x v → s.heap.IsSliceOf sl vl vu .none → IsPart vl lo → IsPart vu hi → r x lo hi H Q →
    ∃ T id, typeLookup (.type T) "__getitem__" = pure (some (.builtin id)) ∧ s.TypeIs v T ∧ wpAny (model X.prog X.w) X.A (getItem v (.ref sl)) (EP X pins σ Q) X.xe s
noncomputable def tSl (r : V → Option Int → Option Int → Hp → VK → Prop) (te : TE) (tl th : TO) : TE := fun σ H Q => te σ H fun x H1 => tl σ H1 fun l H2 => th σ H2 fun u H3 => r x l u H3 Q
theorem pe_slice {r : V → Option Int → Option Int → Hp → VK → Prop} (hr : SlR X r) (he : PE X e te) (hl : PO X lo tl) (hu : PO X hi th) : PE X (.Subscript e (.Slice lo hi none p2) pos) (tSl r te tl th) := by
  intro pins s σ H Q I h
  refine Subscript_ (thn (he pins s σ H _ I h) fun v s1 ⟨x, H1, I1, r1, q1⟩ => ?_)
  refine wpAny_Slice (thn (hl pins s1 σ H1 _ I1 q1) fun vl s2 ⟨l, H2, I2, pl, q2⟩ => thn (hu pins s2 σ H2 _ I2 q2) fun vu s3 ⟨u, H3, I3, pu, q3⟩ => ?_)
  rw [evalPart_none]
  refine wpAny_pure ?_
  have I4 : Inv X pins σ H3 { s3 with heap := s3.heap.push { cls := .type "slice", data := .fields #[vl, vu, .none] } } := I3.kept (t' := s3.toks) fun b ob q => Heap.get?_push_of_some _ q
  obtain ⟨T, id, hT, ht, hg⟩ := hr pins { s3 with heap := s3.heap.push { cls := .type "slice", data := .fields #[vl, vu, .none] } } σ H3 x v vl vu l u s3.heap.objs.size Q I4 r1 (Heap.IsSliceOf.new ..) pl pu q3
  show wpAny (model X.prog X.w) X.A (subscriptTail e (.Slice lo hi none p2) v (.ref s3.heap.objs.size)) (EP X pins σ Q) X.xe { s3 with heap := s3.heap.push { cls := .type "slice", data := .fields #[vl, vu, .none] } }
  exact tail_any (ops := [.ref s3.heap.objs.size, v]) ht hT hg (by with_unfolding_all rfl)
noncomputable def cutV (xs : List V) (lo hi : Option Int) : List V := (xs.drop (HT.sIx xs.length 0 lo)).take (HT.sIx xs.length xs.length hi - HT.sIx xs.length 0 lo)
theorem cutV_length (xs : List V) (lo hi : Option Int) : (cutV xs lo hi).length ≤ xs.length := by
  unfold cutV
  rw [List.length_take, List.length_drop]
  omega
noncomputable def rSlT (K : PySem.W.Frag) : V → Option Int → Option Int → Hp → VK → Prop := fun x lo hi H Q => ∃ a xs, x = .ref a ∧ SqT K H a xs ∧
  ¬ (HT.sIx xs.length 0 lo = 0 ∧ HT.sIx xs.length xs.length hi = xs.length) ∧ ∀ p, H p = none → Q (.ref p) (upd H p (.tup (cutV xs lo hi)))
theorem sl_tup : SlR X (rSlT X.K) := by
  intro pins s σ H x v vl vu lo hi sl Q I rx hs pl pu h
  obtain ⟨a, xs, rfl, hx, hw, q⟩ := h
  cases rx
  obtain ⟨its, r, ht, hz⟩ := I.tuple hx
  have hlen : its.toArray.size = xs.length := by rw [List.size_toArray]; exact r.length.symm
  refine ⟨"tuple", _, PyProof.Rows.slot_tuple_getitem.lookup, ht.typeIs, ?_⟩
  refine HT.getItem_tuple_cut ht hs pl pu (by rw [hlen]; exact hw) ?_ (by rw [hlen]; exact hz)
  rw [hlen]
  refine ⟨.ref s.heap.objs.size, _, I.laid (t' := s.toks) (o := .tup (cutV xs lo hi)) (fun b ob q => Heap.get?_push_of_some _ q) (Nat.le_refl _) ?_, rfl, q _ (I.hok.fresh (Nat.le_refl _))⟩
  exact ⟨Nat.le_trans (cutV_length xs lo hi) hz, _, (r.drop (HT.sIx xs.length 0 lo)).take (HT.sIx xs.length xs.length hi - HT.sIx xs.length 0 lo), IsTup.new _ _⟩
noncomputable def rLtT (K : PySem.W.Frag) : R2 := fun x y H Q => ∃ a b ns ms, x = .ref a ∧ y = .ref b ∧ SqT K H a (ns.map V.int) ∧ SqT K H b (ms.map V.int) ∧ Q (.bl (HT.lexLt ns ms)) H
theorem op_ltT (hu : X.A.units < cLine) : OpR X (compareOp .Lt) (rLtT X.K) := by
  intro pins s σ H x y v u Q I rx ry h
  obtain ⟨a, b, ns, ms, rfl, rfl, ha, hb, q⟩ := h
  cases rx
  cases ry
  obtain ⟨its, r1, p1, _⟩ := I.tuple ha
  obtain ⟨its2, r2, p2, _⟩ := I.tuple hb
  have i1 : IntsAre its.toArray.toList ns := intsAre_of r1
  have i2 : IntsAre its2.toArray.toList ms := intsAre_of r2
  exact HT.lt_tupInts p1 p2 i1 i2 hu ⟨.bl (HT.lexLt ns ms), H, I, rfl, q⟩
noncomputable def rCatT (K : PySem.W.Frag) : R2 := fun x y H Q => ∃ a b xs ys, x = .ref a ∧ y = .ref b ∧ SqT K H a xs ∧ SqT K H b ys ∧ xs ≠ [] ∧ xs.length + ys.length ≤ sizeLine ∧
  (ys = [] → Q (.ref a) H) ∧ (ys ≠ [] → ∀ p, H p = none → Q (.ref p) (upd H p (.tup (xs ++ ys))))
theorem Vals.nil_iff {xs : List V} {us : List Value} (r : Vals xs us) : us = [] ↔ xs = [] := by
  cases r with
  | nil => simp
  | cons _ _ => simp
theorem op_catT : OpR X (binaryOp .Add) (rCatT X.K) := by
  intro pins s σ H x y v u Q I rx ry h
  obtain ⟨a, b, xs, ys, rfl, rfl, ha, hb, hx, hz, q1, q2⟩ := h
  cases rx
  cases ry
  obtain ⟨its, r1, p1, _⟩ := I.tuple ha
  obtain ⟨its2, r2, p2, _⟩ := I.tuple hb
  refine HT.cat_tup p1 p2 (fun z => hx (r1.nil_iff.mp z)) (fun z => ⟨.ref a, H, I, rfl, q1 (r2.nil_iff.mp z)⟩) (fun z => ?_) (by rw [← r1.length, ← r2.length]; exact hz)
  refine ⟨.ref s.heap.objs.size, _, I.laid (t' := s.toks) (o := .tup (xs ++ ys)) (fun b ob q => Heap.get?_push_of_some _ q) (Nat.le_refl _) ?_, rfl, q2 (fun w => z (r2.nil_iff.mpr w)) _ (I.hok.fresh (Nat.le_refl _))⟩
  exact ⟨by rw [List.length_append]; exact hz, _, r1.append r2, IsTup.new _ _⟩
end
end L2
namespace L2
open PySem PySem.Spec PyProof.Rows
noncomputable def ixN (n : Nat) (i : Int) : Option Nat := if 0 ≤ i then (if i < n then some i.toNat else none) else if -(n : Int) ≤ i then some (i + n).toNat else none
noncomputable def atI {α : Type} (xs : List α) (i : Int) : Option α := (ixN xs.length i).bind fun j => xs[j]?
theorem ixN_seq {n : Nat} {i : Int} {j : Nat} (h : ixN n i = some j) : seqIndex? i n = some j ∧ j < n ∧ -(n : Int) ≤ i ∧ i < n := by
  unfold ixN at h
  by_cases h0 : 0 ≤ i
  · rw [if_pos h0] at h
    by_cases h1 : i < n
    · rw [if_pos h1] at h
      have e : i.toNat = j := Option.some.inj h
      exact ⟨by rw [seqIndex_of h0 h1, e], by omega, by omega, h1⟩
    · rw [if_neg h1] at h; cases h
  · rw [if_neg h0] at h
    by_cases h1 : -(n : Int) ≤ i
    · rw [if_pos h1] at h
      have e : (i + n).toNat = j := Option.some.inj h
      exact ⟨by rw [seqIndex_neg (by omega) h1, e], by omega, h1, by omega⟩
    · rw [if_neg h1] at h; cases h
theorem atI_get {α : Type} {xs : List α} {i : Int} {v : α} (h : atI xs i = some v) : ∃ j, seqIndex? i xs.length = some j ∧ xs[j]? = some v ∧ j < xs.length ∧ -(xs.length : Int) ≤ i ∧ i < xs.length := by
  unfold atI at h
  cases e : ixN xs.length i with
  | none => rw [e] at h; cases h
  | some j =>
    rw [e] at h
    obtain ⟨h1, h2, h3, h4⟩ := ixN_seq e
    exact ⟨j, h1, h, h2, h3, h4⟩
theorem atI_nat {α : Type} {xs : List α} {j : Nat} {v : α} (h : xs[j]? = some v) : atI xs (j : Int) = some v := by
  have hj : j < xs.length := (List.getElem?_eq_some_iff.mp h).1
  have e : ixN xs.length (j : Int) = some j := by
    unfold ixN
    rw [if_pos (by omega), if_pos (by omega)]; simp
  unfold atI; rw [e]; exact h
noncomputable def PlainIx (b : Expr) : Prop := ∀ o i, subscripted b false o i = operate [o, i] (getItem o i)
noncomputable def IxR (X : Cx) (r : R2) : Prop :=
  ∀ (value slice : Expr) (pins : List (Addr × Obj)) (s : Shared) (σ : St) (H : Hp) (x y : V) (v u : Value) (Q : VK), Inv X pins σ H s → RelV x v → RelV y u → r x y H Q →
    subscripted slice false v u = operate [v, u] (getItem v u) → wpAny (model X.prog X.w) X.A (subscriptTail value slice v u) (EP X pins σ Q) X.xe s
noncomputable def MtR (X : Cx) (id : String) (r : V → List V → Hp → VK → Prop) : Prop :=
  ∀ (pins : List (Addr × Obj)) (s : Shared) (σ : St) (H : Hp) (x : V) (xs : List V) (v : Value) (us : List Value) (Q : VK), Inv X pins σ H s → RelV x v → Vals xs us → r x xs H Q →
    wpAny (model X.prog X.w) X.A (call (.builtin id) (v :: us)) (EP X pins σ Q) X.xe s
section
variable {X : Cx} {a b : Expr} {ta tb : TE} {pos : Pos}
theorem pe_ix {r : R2} (hr : IxR X r) (ha : PE X a ta) (hb : PE X b tb) (hs : PlainIx b) : PE X (.Subscript a b pos) (tOp r ta tb) := by
  intro pins s σ H Q I h
  exact Subscript_ (binT ha hb I h fun v u s2 x y H2 I2 rx ry q => hr a b pins s2 σ H2 x y v u Q I2 rx ry q (hs _ _))
noncomputable def rIxL (K : PySem.W.Frag) : R2 := fun x y H Q => ∃ p xs i v, x = .ref p ∧ y = .int i ∧ SqL K H p xs ∧ atI xs i = some v ∧ Q v H
noncomputable def rIxT (K : PySem.W.Frag) : R2 := fun x y H Q => ∃ p xs i v, x = .ref p ∧ y = .int i ∧ SqT K H p xs ∧ atI xs i = some v ∧ Q v H
noncomputable def rIxS : R2 := fun x y H Q => ∃ z i c, x = .str z ∧ y = .int i ∧ z.length ≤ sizeLine ∧ atI z.cps.toList i = some c ∧ Q (.str ⟨#[c]⟩) H
theorem ix_list : IxR X (rIxL X.K) := by
  intro value slice pins s σ H x y v u Q I rx ry h hs
  obtain ⟨p, xs, i, z, rfl, rfl, hq, he, q⟩ := h
  cases rx
  obtain ⟨t, rfl⟩ := ry
  obtain ⟨its, r, pl, hz⟩ := I.list hq
  obtain ⟨j, h1, h2, h3, h4, h5⟩ := atI_get he
  obtain ⟨w, ew, rw'⟩ := r.get h2
  have hl := r.length
  have hn := line63
  have fin : EP X pins σ Q w s := ⟨z, H, I, rw', q⟩
  by_cases h0 : 0 ≤ i
  · have hj : i.toNat = j := by
      rw [seqIndex_of h0 h5] at h1
      exact Option.some.inj h1
    exact item_listR pl.isList h0 (by omega) (by rw [hj]; simpa using ew) fin hs
  · have hj : (i + (its.toArray.size : Int)).toNat = j := by
      rw [seqIndex_neg (by omega) h4] at h1
      rw [List.size_toArray, ← hl]
      exact Option.some.inj h1
    exact subscriptTail_builtinR (x := w) pl.isList.typeIs slot_list_getitem.lookup
      (wpAny_getItem_list_neg (Q := fun r s' => r = w ∧ EP X pins σ Q r s') pl.isList (by omega) (by rw [List.size_toArray] <;> omega) (by omega) (by rw [hj]; simpa using ew) ⟨rfl, fin⟩) hs
theorem ix_tup : IxR X (rIxT X.K) := by
  intro value slice pins s σ H x y v u Q I rx ry h hs
  obtain ⟨p, xs, i, z, rfl, rfl, hq, he, q⟩ := h
  cases rx
  obtain ⟨t, rfl⟩ := ry
  obtain ⟨its, r, pl, hz⟩ := I.tuple hq
  obtain ⟨j, h1, h2, h3, h4, h5⟩ := atI_get he
  obtain ⟨w, ew, rw'⟩ := r.get h2
  have hl := r.length
  have hn := line63
  have fin : EP X pins σ Q w s := ⟨z, H, I, rw', q⟩
  exact subscriptTail_builtinR (x := w) pl.typeIs slot_tuple_getitem.lookup
    (getItem_tuple (j := j) (Q := fun r s' => r = w ∧ EP X pins σ Q r s') pl (by omega) (by omega) (by rw [List.size_toArray, ← hl]; exact h1) (by simpa using ew) ⟨rfl, fin⟩) hs
theorem ix_str : IxR X rIxS := by
  intro value slice pins s σ H x y v u Q I rx ry h hs
  obtain ⟨z, i, c, rfl, rfl, hz, he, q⟩ := h
  obtain ⟨t, rfl⟩ := rx
  obtain ⟨t', rfl⟩ := ry
  obtain ⟨j, h1, h2, h3, h4, h5⟩ := atI_get he
  have hl : z.cps.toList.length = z.length := by simp [Str.length]
  rw [hl] at h1 h4 h5
  have hn := line63
  exact tail_any (typeIs_str s z t) slot_str_getitem.lookup (getItem_str (c := c) (by
    have e1 : decide (i < -(2 ^ 63 : Int)) = false := decide_eq_false (by omega)
    have e2 : decide (i ≥ 2 ^ 63) = false := decide_eq_false (by omega)
    rw [e1, e2, Bool.or_false]) (by rw [h1]; simpa using h2) ⟨.str ⟨#[c]⟩, H, I.tok _, ⟨_, rfl⟩, q⟩) hs
theorem mapSeq_set (its : List Value) (n j : Nat) (u : Value) : Obj.mapSeq (·.setIfInBounds j u) { cls := .type "list", data := .seq its.toArray n } = { cls := .type "list", data := .seq (its.set j u).toArray n } := by
  simp [Obj.mapSeq]
theorem Inv.lst {pins : List (Addr × Obj)} {σ : St} {H : Hp} {s : Shared} {p : Addr} {xs : List V} (I : Inv X pins σ H s) (h : H p = some (.lst xs)) :
    ∃ (its : List Value) (n : Nat), Vals xs its ∧ s.heap.get? p = some { cls := .type "list", data := .seq its.toArray n } ∧ xs.length ≤ sizeLine := by
  obtain ⟨z, its, n, r, e⟩ := I.hok p _ h
  exact ⟨its, n, r, e, z⟩
theorem Inv.lstUpd {pins : List (Addr × Obj)} {σ : St} {H : Hp} {s : Shared} {p : Addr} {xs ys : List V} {its its' : List Value} {n n' : Nat} {f : Obj → Obj} (I : Inv X pins σ H s) (h : H p = some (.lst xs))
    (ho : s.heap.get? p = some { cls := .type "list", data := .seq its.toArray n }) (hf : f { cls := .type "list", data := .seq its.toArray n } = { cls := .type "list", data := .seq its'.toArray n' }) (r : Vals ys its') (hz : ys.length ≤ sizeLine) (t : Nat) :
    Inv X pins σ (upd H p (.lst ys)) { s with heap := s.heap.update p f, toks := t } := by
  have e : (s.heap.update p f).get? p = some { cls := .type "list", data := .seq its'.toArray n' } := by
    rw [Heap.get?_update_self f ho (by rw [hf] <;> rfl), hf]
  refine I.write (x := p) (e := p) (by rw [h]; trivial) (.inl rfl) (fun b u hb q => (Heap.get?_update_other _ _ (Ne.symm hb)).trans q) ⟨_, e⟩ ?_
  exact ⟨hz, its', n', r, e⟩
noncomputable def rSetL : V → V → V → Hp → (Hp → Prop) → Prop := fun o i v H Q => ∃ p xs k j, o = .ref p ∧ i = .int k ∧ H p = some (.lst xs) ∧ ixN xs.length k = some j ∧ Q (upd H p (.lst (xs.set j v)))
theorem set_list : PSet X rSetL := by
  intro pins s σ H o i v ov iv u Q I ro ri rv h
  obtain ⟨p, xs, k, j, rfl, rfl, hp, hj, q⟩ := h
  cases ro
  obtain ⟨t, rfl⟩ := ri
  obtain ⟨its, n, r, ho, hz⟩ := I.lst hp
  obtain ⟨h1, h2, h3, h4⟩ := ixN_seq hj
  have hl := r.length
  have hn := line63
  have I' : Inv X pins σ (upd H p (.lst (xs.set j v))) { s with heap := s.heap.update p (Obj.mapSeq (·.setIfInBounds j u)) } :=
    I.lstUpd hp ho (mapSeq_set its n j u) (r.set rv j) (by rw [List.length_set]; exact hz) s.toks
  by_cases h0 : 0 ≤ k
  · have hk : k.toNat = j := by
      rw [seqIndex_of h0 h4] at h1
      exact Option.some.inj h1
    exact PySem.W.ki_setAt ho h0 (by omega) (by rw [List.size_toArray, ← hl]; exact h4) (by rw [hk]; exact ⟨_, I', q⟩)
  · have hk : (k + (its.toArray.size : Int)).toNat = j := by
      rw [seqIndex_neg (by omega) h3] at h1
      rw [List.size_toArray, ← hl]
      exact Option.some.inj h1
    exact PySem.W.ki_setBack ho (by omega) (by rw [List.size_toArray, ← hl]; exact h3) (by omega) (by rw [hk]; exact ⟨_, I', q⟩)
theorem slice_bounds (lo hi : Option Int) (n : Nat) : (sliceBounds lo hi none n).1 = ((HT.sIx n 0 lo : Nat) : Int) ∧ (sliceBounds lo hi none n).2.1 = ((HT.sIx n n hi : Nat) : Int) ∧ (sliceBounds lo hi none n).2.2 = 1 := by
  refine ⟨?_, ?_, rfl⟩
  · cases lo with
    | none => simp [sliceBounds, HT.sIx]
    | some i =>
      simp only [sliceBounds, HT.sIx, Option.getD_none, show (1 : Int) > 0 by decide, if_true]
      by_cases h : i < 0
      · simp only [h, if_true] <;> omega
      · simp only [h, if_false] <;> omega
  · cases hi with
    | none => simp [sliceBounds, HT.sIx]
    | some i =>
      simp only [sliceBounds, HT.sIx, Option.getD_none, show (1 : Int) > 0 by decide, if_true]
      by_cases h : i < 0
      · simp only [h, if_true] <;> omega
      · simp only [h, if_false] <;> omega
theorem slicePick_cut (its : List Value) (lo hi : Option Int) : slicePick its.toArray lo hi none = ((its.drop (HT.sIx its.length 0 lo)).take (HT.sIx its.length its.length hi - HT.sIx its.length 0 lo)).toArray := by
  obtain ⟨h1, h2, h3⟩ := slice_bounds lo hi its.toArray.size
  unfold slicePick
  rw [h1, h2, h3]
  simp only [sliceRange_one, pick_run, List.size_toArray] <;> rfl
noncomputable def rSlL (K : PySem.W.Frag) : V → Option Int → Option Int → Hp → VK → Prop := fun x lo hi H Q => ∃ a xs, x = .ref a ∧ SqL K H a xs ∧ ∀ p, H p = none → Q (.ref p) (upd H p (.lst (cutV xs lo hi)))
theorem sl_list : SlR X (rSlL X.K) := by
  intro pins s σ H x v vl vu lo hi sl Q I rx hs pl pu h
  obtain ⟨a, xs, rfl, hx, q⟩ := h
  cases rx
  obtain ⟨its, r, ht, hz⟩ := I.list hx
  have hlen := r.length
  refine ⟨"list", _, slot_list_getitem.lookup, ht.isList.typeIs, ?_⟩
  refine wpAny_getItem_list_slice ht.isList hs pl pu .none (by simp) ?_ (by rw [List.size_toArray] <;> omega)
  rw [slicePick_cut, ← hlen]
  refine ⟨.ref s.heap.objs.size, _, I.laid (t' := s.toks) (o := .lst (cutV xs lo hi)) (fun b ob q => Heap.get?_push_of_some _ q) (Nat.le_refl _) ?_, rfl, q _ (I.hok.fresh (Nat.le_refl _))⟩
  exact ⟨Nat.le_trans (cutV_length xs lo hi) hz, _, 0, (r.drop (HT.sIx xs.length 0 lo)).take (HT.sIx xs.length xs.length hi - HT.sIx xs.length 0 lo), Heap.get?_push_size _ rfl⟩
noncomputable def flatV : V → Bool
  | .non => true
  | .bl _ => true
  | .int _ => true
  | .str _ => true
  | _ => false
noncomputable def eqV : V → V → Bool
  | .non, .non => true
  | .bl a, .bl b => a == b
  | .bl a, .int b => (if a then 1 else 0) == b
  | .int a, .bl b => a == (if b then 1 else 0)
  | .int a, .int b => a == b
  | .str a, .str b => a == b
  | _, _ => false
theorem eqAt_V {A : Around} {s : Shared} {y x : V} {u v : Value} (ry : RelV y u) (rx : RelV x v) (fy : flatV y = true) (fx : flatV x = true) : SeqAt.EqAt A s u v (eqV y x) := by
  cases y with
  | non =>
    cases ry
    cases x with
    | non => cases rx; exact SeqAt.EqAt.same _
    | bl b => cases rx; exact SeqAt.EqAt.none_bool b
    | int b => obtain ⟨t, rfl⟩ := rx; exact SeqAt.EqAt.none_int b t
    | str b => obtain ⟨t, rfl⟩ := rx; exact SeqAt.EqAt.none_str b t
    | _ => exact absurd (show false = true from fx) Bool.false_ne_true
  | bl a =>
    cases ry
    cases x with
    | non => cases rx; exact SeqAt.EqAt.bool_none a
    | bl b => cases rx; exact SeqAt.EqAt.bool_bool a b
    | int b => obtain ⟨t, rfl⟩ := rx; exact SeqAt.EqAt.bool_int a b t
    | str b => obtain ⟨t, rfl⟩ := rx; exact SeqAt.EqAt.bool_str a b t
    | _ => exact absurd (show false = true from fx) Bool.false_ne_true
  | int a =>
    obtain ⟨t', rfl⟩ := ry
    cases x with
    | non => cases rx; exact SeqAt.EqAt.int_none a t'
    | bl b => cases rx; exact SeqAt.EqAt.int_bool a t' b
    | int b => obtain ⟨t, rfl⟩ := rx; exact SeqAt.EqAt.int_int a t' b t
    | str b => obtain ⟨t, rfl⟩ := rx; exact SeqAt.EqAt.int_str a t' b t
    | _ => exact absurd (show false = true from fx) Bool.false_ne_true
  | str a =>
    obtain ⟨t', rfl⟩ := ry
    cases x with
    | non => cases rx; exact SeqAt.EqAt.str_none a t'
    | bl b => cases rx; exact SeqAt.EqAt.str_bool a t' b
    | int b => obtain ⟨t, rfl⟩ := rx; exact SeqAt.EqAt.str_int a t' b t
    | str b => obtain ⟨t, rfl⟩ := rx; exact SeqAt.EqAt.str_str a t' b t
    | _ => exact absurd (show false = true from fx) Bool.false_ne_true
  | _ => exact absurd (show false = true from fy) Bool.false_ne_true
noncomputable def eqU (x : V) (u : Value) : Bool := match u with
  | .none => eqV .non x
  | .bool b => eqV (.bl b) x
  | .int i _ => eqV (.int i) x
  | .str z _ => eqV (.str z) x
  | _ => false
theorem eqU_of {x y : V} {u : Value} (r : RelV y u) (f : flatV y = true) : eqU x u = eqV y x := by
  cases y with
  | non => cases r; rfl
  | bl b => cases r; rfl
  | int i => obtain ⟨t, rfl⟩ := r; rfl
  | str z => obtain ⟨t, rfl⟩ := r; rfl
  | _ => exact absurd (show false = true from f) Bool.false_ne_true
theorem any_eqU {x : V} : ∀ {xs : List V} {us : List Value}, Vals xs us → xs.all flatV = true → us.any (eqU x) = xs.any fun y => eqV y x
  | _, _, .nil, _ => rfl
  | y :: xs, u :: us, .cons r t, f => by
    rw [List.all_cons, Bool.and_eq_true] at f
    rw [List.any_cons, List.any_cons, eqU_of r f.1, any_eqU t f.2]
theorem mem_eqAt {A : Around} {s : Shared} {x : V} {v : Value} (rx : RelV x v) (fx : flatV x = true) : ∀ {xs : List V} {us : List Value}, Vals xs us → xs.all flatV = true → ∀ u ∈ us, SeqAt.EqAt A s u v (eqU x u)
  | _, _, .nil, _ => fun u hu => by cases hu
  | y :: xs, u :: us, .cons r t, f => fun u' hu => by
    rw [List.all_cons, Bool.and_eq_true] at f
    rcases List.mem_cons.mp hu with rfl | hu
    · rw [eqU_of r f.1]; exact eqAt_V r rx f.1 fx
    · exact mem_eqAt rx fx t f.2 u' hu
noncomputable def inV (x : V) (xs : List V) : Bool := xs.any fun y => eqV y x
noncomputable def rIn (K : PySem.W.Frag) (neg : Bool) : R2 := fun x y H Q => ∃ p xs, y = .ref p ∧ (SqL K H p xs ∨ SqT K H p xs) ∧ flatV x = true ∧ xs.all flatV = true ∧ Q (.bl (if neg then !inV x xs else inV x xs)) H
theorem op_in_seq : OpR X (compareOp .In) (rIn X.K false) := by
  intro pins s σ H x y v u Q I rx ry h
  obtain ⟨p, xs, rfl, hq, fx, fs, q⟩ := h
  cases ry
  rcases hq with hq | hq
  · obtain ⟨its, r, pl, hz⟩ := I.list hq
    refine SeqAt.in_listAt (eqU x) pl.isList (fun w hw => mem_eqAt rx fx r fs w (by simpa using hw)) ⟨.bl _, H, I, rfl, ?_⟩
    rw [show its.toArray.any (eqU x) = its.any (eqU x) by simp, any_eqU r fs]
    exact q
  · obtain ⟨its, r, pl, hz⟩ := I.tuple hq
    refine SeqAt.in_tupleAt (eqU x) pl (fun w hw => mem_eqAt rx fx r fs w (by simpa using hw)) ⟨.bl _, H, I, rfl, ?_⟩
    rw [show its.toArray.any (eqU x) = its.any (eqU x) by simp, any_eqU r fs]
    exact q
theorem op_notIn_seq : OpR X (compareOp .NotIn) (rIn X.K true) := by
  intro pins s σ H x y v u Q I rx ry h
  obtain ⟨p, xs, rfl, hq, fx, fs, q⟩ := h
  cases ry
  rcases hq with hq | hq
  · obtain ⟨its, r, pl, hz⟩ := I.list hq
    refine SeqAt.notIn_listAt (eqU x) pl.isList (fun w hw => mem_eqAt rx fx r fs w (by simpa using hw)) ⟨.bl _, H, I, rfl, ?_⟩
    rw [show its.toArray.any (eqU x) = its.any (eqU x) by simp, any_eqU r fs]
    exact q
  · obtain ⟨its, r, pl, hz⟩ := I.tuple hq
    refine SeqAt.notIn_tupleAt (eqU x) pl (fun w hw => mem_eqAt rx fx r fs w (by simpa using hw)) ⟨.bl _, H, I, rfl, ?_⟩
    rw [show its.toArray.any (eqU x) = its.any (eqU x) by simp, any_eqU r fs]
    exact q
theorem call_len_seq : CallR X (.builtin "len") (fun xs H Q => ∃ p ys, xs = [.ref p] ∧ (SqL X.K H p ys ∨ SqT X.K H p ys) ∧ Q (.int ys.length) H) := by
  intro pins s σ H xs us Q I r h
  obtain ⟨p, ys, rfl, hq, q⟩ := h
  obtain ⟨u, rfl, rx⟩ := vals1 r
  cases rx
  have hn := line63
  rcases hq with hq | hq
  · obtain ⟨its, r', pl, hz⟩ := I.list hq
    have hlen := r'.length
    exact Calls.call_len_list pl.isList (by simp only [List.size_toArray] <;> omega) ⟨.int ys.length, H, I.tok _, ⟨s.toks + 1, by rw [List.size_toArray, hlen]⟩, q⟩
  · obtain ⟨its, r', pl, hz⟩ := I.tuple hq
    have hlen := r'.length
    exact len_tuple pl (by simp only [List.size_toArray] <;> omega) ⟨.int ys.length, H, I.tok _, ⟨s.toks + 1, by rw [List.size_toArray, hlen]⟩, q⟩
theorem call_len_str : CallR X (.builtin "len") (fun xs H Q => ∃ z, xs = [.str z] ∧ z.length ≤ sizeLine ∧ Q (.int z.length) H) := by
  intro pins s σ H xs us Q I r h
  obtain ⟨z, rfl, hz, q⟩ := h
  obtain ⟨u, rfl, t, rfl⟩ := vals1 r
  have hn := line63
  exact len_str (by omega) ⟨.int z.length, H, I.tok _, ⟨_, rfl⟩, q⟩
theorem call_list_of : CallR X (.type "list") (fun xs H Q => ∃ p ys, xs = [.ref p] ∧ (SqL X.K H p ys ∨ SqT X.K H p ys) ∧ ∀ l, H l = none → Q (.ref l) (upd H l (.lst ys))) := by
  intro pins s σ H xs us Q I r h
  obtain ⟨p, ys, rfl, hq, q⟩ := h
  obtain ⟨u, rfl, rx⟩ := vals1 r
  cases rx
  have fin : ∀ (its : List Value), Vals ys its → ys.length ≤ sizeLine → ∀ (h' : Heap) (c' : Nat), (∀ b o', s.heap.get? b = some o' → h'.get? b = some o') →
      h'.get? s.heap.objs.size = some { cls := .type "list", dict := none, data := .seq its.toArray c', slots := #[] } → EP X pins σ Q (.ref s.heap.objs.size) { s with heap := h' } := fun its r' hz h' c' kp e =>
    ⟨.ref s.heap.objs.size, _, I.laid (t' := s.toks) kp (Nat.le_refl _) (show ObjOk X.prog X.w _ h' _ (.lst ys) from ⟨hz, its, c', r', e⟩), rfl, q _ (I.hok.fresh (Nat.le_refl _))⟩
  rcases hq with hq | hq
  · obtain ⟨its, r', pl, hz⟩ := I.list hq
    have hlen := r'.length
    obtain ⟨o, ho, hc, n, hd⟩ := pl.isList
    exact call_list_seq p (.inl rfl) ho hc hd (fun h' c' kp e => fin its r' hz h' c' kp e) (by simp only [List.size_toArray] <;> omega)
  · obtain ⟨its, r', pl, hz⟩ := I.tuple hq
    have hlen := r'.length
    obtain ⟨o, ho, hc, n, hd⟩ := pl
    exact call_list_seq p (.inr rfl) ho hc hd (fun h' c' kp e => fin its r' hz h' c' kp e) (by simp only [List.size_toArray] <;> omega)
theorem call_tuple_of : CallR X (.type "tuple") (fun xs H Q => ∃ p ys, xs = [.ref p] ∧ ((SqL X.K H p ys ∧ ∀ l, H l = none → Q (.ref l) (upd H l (.tup ys))) ∨ (SqT X.K H p ys ∧ Q (.ref p) H))) := by
  intro pins s σ H xs us Q I r h
  obtain ⟨p, ys, rfl, h⟩ := h
  obtain ⟨u, rfl, rx⟩ := vals1 r
  cases rx
  rcases h with ⟨hq, q⟩ | ⟨hq, q⟩
  · obtain ⟨its, r', pl, hz⟩ := I.list hq
    have hlen := r'.length
    refine call_tuple_list pl.isList (fun h' kp => ?_) (by simp only [List.size_toArray] <;> omega)
    have I1 : Inv X pins σ H { s with heap := h' } := I.kept (t' := s.toks) kp
    have I2 : Inv X pins σ (upd H h'.objs.size (.tup ys)) { s with heap := h'.push { cls := .type "tuple", data := .seq its.toArray } } :=
      I1.laid (t' := s.toks) (fun b o e => Heap.get?_push_of_some _ e) (Nat.le_refl _) (show ObjOk X.prog X.w _ _ _ (.tup ys) from ⟨hz, its, r', IsTup.new _ _⟩)
    exact ⟨.ref h'.objs.size, _, I2, rfl, q _ (I1.hok.fresh (Nat.le_refl _))⟩
  · obtain ⟨its, r', pl, hz⟩ := I.tuple hq
    exact call_tuple_same pl ⟨.ref p, H, I, rfl, q⟩
noncomputable def tyV (K : PySem.W.Frag) (T : String) (x : V) (H : Hp) : Prop := match x with
  | .str _ => T = "str"
  | .int _ => T = "int"
  | .ref p => (T = "list" ∧ ∃ xs, SqL K H p xs) ∨ (T = "tuple" ∧ ∃ o, K.lookup p = some o ∧ o.cls = .type "tuple" ∧ o.dict = none) ∨
      (T = "dict" ∧ ((∃ kvs, H p = some (.dK kvs)) ∨ ∃ kvs, H p = some (.dT kvs))) ∨ (T = "set" ∧ ∃ S n, H p = some (.set S n))
  | _ => False
theorem tyV_is {pins : List (Addr × Obj)} {σ : St} {H : Hp} {s : Shared} {T : String} {x : V} {v : Value} (I : Inv X pins σ H s) (r : RelV x v) (ty : tyV X.K T x H) :
    s.TypeIs v T ∧ ∀ a, v = .ref a → ∃ ob, s.heap.get? a = some ob ∧ ob.dict = none := by
  cases x with
  | str z =>
    obtain ⟨t, rfl⟩ := r
    cases (show T = "str" from ty)
    exact ⟨typeIs_str s z t, fun _ e => nomatch e⟩
  | int i =>
    obtain ⟨t, rfl⟩ := r
    cases (show T = "int" from ty)
    exact ⟨typeIs_int s i t, fun _ e => nomatch e⟩
  | ref p =>
    cases r
    rcases ty with ⟨rfl, xs, hq⟩ | ⟨rfl, o, hk, hc, hd⟩ | ⟨rfl, hk⟩ | ⟨rfl, S, n, hk⟩
    · obtain ⟨its, _, pl, _⟩ := I.list hq
      refine ⟨pl.isList.typeIs, fun a e => ?_⟩
      cases e
      obtain ⟨o, n, e, c, hd, _⟩ := pl
      exact ⟨o, e, hd⟩
    · refine ⟨⟨o, I.kIn p o hk, hc⟩, fun a e => ?_⟩
      cases e
      exact ⟨o, I.kIn _ o hk, hd⟩
    · have z : ∃ o, s.heap.get? p = some o ∧ o.ExactDict := by
        rcases hk with ⟨kvs, hk⟩ | ⟨kvs, hk⟩
        · obtain ⟨_, _, _, _, o, _, _, e, ex, _⟩ := I.hok p _ hk
          exact ⟨o, e, ex⟩
        · obtain ⟨_, _, _, _, o, _, _, e, ex, _⟩ := I.hok p _ hk
          exact ⟨o, e, ex⟩
      obtain ⟨o, e, ex⟩ := z
      refine ⟨⟨o, e, ex.1⟩, fun a e2 => ?_⟩
      cases e2
      exact ⟨o, e, ex.2.1⟩
    · obtain ⟨o, _, _, _, e, ex, _⟩ := I.hok p _ hk
      refine ⟨⟨o, e, ex.1⟩, fun a e2 => ?_⟩
      cases e2
      exact ⟨o, e, ex.2.1⟩
  | _ => exact False.elim ty
noncomputable def tBM0 (K : PySem.W.Frag) (T : String) (r : V → List V → Hp → VK → Prop) (to : TE) : TE := fun σ H Q => to σ H fun x H1 => tyV K T x H1 ∧ r x [] H1 Q
noncomputable def tBM (K : PySem.W.Frag) (T : String) (r : V → List V → Hp → VK → Prop) (to : TE) (t : TA) : TE := fun σ H Q => to σ H fun x H1 => tyV K T x H1 ∧ t σ H1 fun xs H2 => r x xs H2 Q
variable {o e : Expr} {es : List Expr} {to : TE} {t : TA} {name : Str} {apos cpos : Pos} {T id : String} {r : V → List V → Hp → VK → Prop}
theorem pe_bm0 (pa : PlainAttrs T) (slot : Slot T name id) (hty : typeOf (.builtin id) = pure (.type "method_descriptor")) (hm : MtR X id r) (ho : PE X o to)
    (hbase : attributeBase o name X.env (eval o X.env) = eval o X.env := by rfl) (hline : (apos.endLine == cpos.line) = true := by rfl) : PE X (.Call (.Attribute o name apos) [] [] cpos) (tBM0 X.K T r to) := by
  intro pins s σ H Q I h
  refine wpAny_Call_method0_late hbase hline (thn (ho pins s σ H _ I h) fun v s1 ⟨x, H1, I1, r1, ty, q1⟩ => ?_)
  obtain ⟨h1, h2⟩ := tyV_is I1 r1 ty
  exact ⟨T, id, pa, slot, hty, h1, h2, Calls.callWith_builtin rfl (PySem.evalArgs_none (hm pins s1 σ H1 x [] v [] Q I1 r1 .nil q1))⟩
theorem pe_bm (pa : PlainAttrs T) (slot : Slot T name id) (hty : typeOf (.builtin id) = pure (.type "method_descriptor")) (hm : MtR X id r) (ho : PE X o to) (ha : PA X (e :: es) t)
    (hbase : attributeBase o name X.env (eval o X.env) = eval o X.env := by rfl)
    (hfew : ((backTo cpos (starEach (e :: es) X.env)).all (fun x => !x.1) && (backToKw cpos (keywordEach [] X.env)).all (fun x => x.1.isSome)
      && decide ((e :: es).length + ([] : List Keyword).length + (if ([] : List Keyword).isEmpty then 0 else 1) < 30)) = true := by rfl)
    (hline : (apos.endLine == cpos.line) = true := by rfl) (hs : starEach (e :: es) X.env = (false, eval e X.env) :: starEach es X.env := by rfl) (hplain : (backTo cpos (starEach es X.env)).any (·.1) = false := by rfl) :
    PE X (.Call (.Attribute o name apos) (e :: es) [] cpos) (tBM X.K T r to t) := by
  intro pins s σ H Q I h
  refine wpAny_Call_method_late hbase hfew hline rfl (thn (ho pins s σ H _ I h) fun v s1 ⟨x, H1, I1, r1, ty, q1⟩ => ?_)
  obtain ⟨h1, h2⟩ := tyV_is I1 r1 ty
  refine ⟨T, id, pa, slot, hty, h1, h2, ?_⟩
  have hA := ha cpos pins s1 σ H1 _ I1 q1
  rw [hs] at hA ⊢
  refine Calls.callWith_builtin (by show (false || (backTo cpos (starEach es X.env)).any (·.1)) = false; rw [hplain] <;> rfl) (Calls.evalArgs_plain ?_)
  exact thn hA fun us s2 ⟨vs, H2, I2, r2, q2⟩ => hm pins s2 σ H2 x vs v us Q I2 r1 r2 q2
/- xs.append(e), list.index on a module's tuple .. are MtR facts of 06m -/
end
end L2
namespace L2
open PySem PySem.Spec PyProof.Rows
noncomputable def MtM (X : Cx) (id : String) (r : V → List V → Hp → VK → Prop) : Prop :=
  ∀ (pins : List (Addr × Obj)) (s : Shared) (σ : St) (H : Hp) (x : V) (xs : List V) (v : Value) (us : List Value) (Q : VK), Inv X pins σ H s → RelV x v → Vals xs us → r x xs H Q →
    wpAny (model X.prog X.w) X.A (call (.builtin id) (v :: us)) (EP X pins σ Q) X.xe s
theorem Vals.one : ∀ {x : V} {us : List Value}, Vals [x] us → ∃ u, us = [u] ∧ RelV x u
  | _, _, .cons r .nil => ⟨_, rfl, r⟩
theorem Vals.zero : ∀ {us : List Value}, Vals [] us → us = []
  | _, .nil => rfl
theorem Vals.dropLast {xs : List V} {us : List Value} (h : Vals xs us) : Vals xs.dropLast us.dropLast := by
  induction h with
  | nil => exact .nil
  | cons r t ih =>
    cases t with
    | nil => exact .nil
    | cons q t' => exact .cons r ih
theorem Vals.eraseIdx : ∀ {xs : List V} {us : List Value} (i : Nat), Vals xs us → Vals (xs.eraseIdx i) (us.eraseIdx i)
  | _, _, _, .nil => .nil
  | _, _, 0, .cons _ t => t
  | _, _, i + 1, .cons r t => .cons r (Vals.eraseIdx i t)
theorem erase_last {α : Type} (l : List α) : l.eraseIdx (l.length - 1) = l.dropLast := by
  induction l with
  | nil => rfl
  | cons a r ih =>
    cases r with
    | nil => rfl
    | cons b r =>
      have e : (a :: b :: r).length - 1 = ((b :: r).length - 1) + 1 := by
        have h1 : (a :: b :: r).length = r.length + 2 := rfl
        have h2 : (b :: r).length = r.length + 1 := rfl
        omega
      rw [e, List.eraseIdx_cons_succ, ih]
      all_goals rfl
theorem len_erase {α : Type} : ∀ (l : List α) (i : Nat), (l.eraseIdx i).length ≤ l.length
  | [], _ => Nat.le_refl _
  | _ :: _, 0 => Nat.le_succ _
  | _ :: r, i + 1 => Nat.succ_le_succ (len_erase r i)
section
variable {X : Cx} {pins : List (Addr × Obj)} {σ : St} {H : Hp} {s : Shared} {l b : Addr} {xs ys zs : List V}
theorem Inv.lset {its its' : List Value} {n : Nat} {f : Array Value → Array Value} {t' : Nat} (I : Inv X pins σ H s) (hH : H l = some (.lst xs))
    (e : s.heap.get? l = some { cls := .type "list", data := .seq its.toArray n }) (hf : f its.toArray = its'.toArray) (hv : Vals ys its') (hz : ys.length ≤ sizeLine) :
    Inv X pins σ (upd H l (.lst ys)) { s with heap := s.heap.update l (Obj.mapSeq f), toks := t' } := by
  have q := PySem.IsL.update e f
  rw [hf] at q
  refine I.write (x := l) (e := l) (by rw [hH]; exact trivial) (.inl rfl) (fun b' u hb hu => (Heap.get?_update_other s.heap (Obj.mapSeq f) (Ne.symm hb)).trans hu) ⟨_, q⟩ ?_
  exact ⟨hz, its', _, hv, q⟩
theorem Inv.lnew {its : List Value} {t' : Nat} (I : Inv X pins σ H s) (hv : Vals ys its) (hz : ys.length ≤ sizeLine) :
    Inv X pins σ (upd H s.heap.objs.size (.lst ys)) { s with heap := s.heap.push { cls := .type "list", data := .seq its.toArray }, toks := t' } :=
  I.laid (fun _ _ q => Heap.get?_push_of_some _ q) (Nat.le_refl _) ⟨hz, its, 0, hv, Heap.get?_push_size _ rfl⟩
theorem Inv.fresh (I : Inv X pins σ H s) : H s.heap.objs.size = none := I.hok.fresh (Nat.le_refl _)
theorem Inv.lstM (I : Inv X pins σ H s) (hH : H l = some (.lst xs)) : xs.length ≤ sizeLine ∧ ∃ (its : List Value) (n : Nat), Vals xs its ∧ xs.length = its.length ∧ s.heap.get? l = some { cls := .type "list", data := .seq its.toArray n } := by
  obtain ⟨z, its, n, r, e⟩ := I.hok l _ hH
  exact ⟨z, its, n, r, r.length, e⟩
theorem notLongL {n : Nat} (h : n ≤ sizeLine) : Builtin.List.listTooLong n = false := by
  unfold Builtin.List.listTooLong
  exact decide_eq_false (by omega)
end
section
variable {X : Cx}
noncomputable def rAppend : V → List V → Hp → VK → Prop := fun x vs H Q => ∃ l xs y, x = .ref l ∧ vs = [y] ∧ H l = some (.lst xs) ∧ xs.length < sizeLine ∧ Q .non (upd H l (.lst (xs ++ [y])))
theorem mt_append : MtM X "list.append" rAppend := by
  intro pins s σ H x vs v us Q I rx rv h
  obtain ⟨l, xs, y, rfl, rfl, hH, hz, q⟩ := h
  cases rx
  obtain ⟨u, rfl, ru⟩ := rv.one
  obtain ⟨z, its, n, r, hl, e⟩ := I.lstM hH
  refine call_meets F.slot_list_append ⟨_, e, rfl⟩ F.entry_list_append (F.args_list_append_2 _ _) (PySem.list_append l its.toArray n u (by rw [List.size_toArray]; omega)) ⟨e, ?_⟩
  refine ⟨.non, _, I.lset (its' := its ++ [u]) hH e (by simp) (r.append (.cons ru .nil)) ?_, rfl, q⟩
  rw [List.length_append, List.length_singleton]
  omega
noncomputable def rExtend : V → List V → Hp → VK → Prop := fun x vs H Q => ∃ l b xs zs, x = .ref l ∧ vs = [.ref b] ∧ H l = some (.lst xs) ∧ H b = some (.lst zs) ∧ xs.length + zs.length ≤ sizeLine ∧ Q .non (upd H l (.lst (xs ++ zs)))
theorem mt_extend : MtM X "list.extend" rExtend := by
  intro pins s σ H x vs v us Q I rx rv h
  obtain ⟨l, b, xs, zs, rfl, rfl, hH, hB, hz, q⟩ := h
  cases rx
  obtain ⟨u, rfl, ru⟩ := rv.one
  cases ru
  obtain ⟨z, its, n, r, hl, e⟩ := I.lstM hH
  obtain ⟨z2, its2, n2, r2, hl2, e2⟩ := I.lstM hB
  have hsz : its.toArray.size + its2.toArray.size ≤ sizeLine := by rw [List.size_toArray, List.size_toArray]; omega
  have hlong : ¬ (!its.toArray.isEmpty && Builtin.List.listTooLong (its.toArray.size + its2.toArray.size)) = true := by
    rw [notLongL hsz, Bool.and_false]
    exact Bool.false_ne_true
  refine call_meets F.slot_list_extend ⟨_, e, rfl⟩ F.entry_list_extend (F.args_list_extend_2 _ _)
    (AutoSeq1.list_extend_list_list_0 l its.toArray n b its2.toArray n2 hlong (by rw [List.size_toArray]; omega) (by omega)) ⟨e, e2, ?_⟩
  refine ⟨.non, _, I.lset (its' := its ++ its2) hH e (by simp) (r.append r2) ?_, rfl, q⟩
  rw [List.length_append]
  omega
noncomputable def rPop : V → List V → Hp → VK → Prop := fun x vs H Q => ∃ l xs y, x = .ref l ∧ vs = [] ∧ H l = some (.lst xs) ∧ xs[xs.length - 1]? = some y ∧ Q y (upd H l (.lst xs.dropLast))
theorem mt_pop : MtM X "list.pop" rPop := by
  intro pins s σ H x vs v us Q I rx rv h
  obtain ⟨l, xs, y, rfl, rfl, hH, hy, q⟩ := h
  cases rx
  have hus := rv.zero
  subst hus
  obtain ⟨z, its, n, r, hl, e⟩ := I.lstM hH
  obtain ⟨u, hu, ru⟩ := r.get hy
  have hy' : its.toArray[its.toArray.size - 1]? = some u := by
    show its.toArray[its.length - 1]? = some u
    rw [← Array.getElem?_toList, ← hl]
    exact hu
  refine call_meets F.slot_list_pop ⟨_, e, rfl⟩ F.entry_list_pop (F.args_list_pop_1 _) (MeetsSeq.list_pop_last l its.toArray n u hy' (by rw [List.size_toArray]; omega)) ⟨e, ?_⟩
  refine ⟨y, _, I.lset (its' := its.dropLast) hH e ?_ r.dropLast ?_, ru, q⟩
  · show its.toArray.eraseIdxIfInBounds (its.toArray.size - 1) = its.dropLast.toArray
    rw [List.size_toArray, List.eraseIdxIfInBounds_toArray, erase_last]
  · rw [List.length_dropLast]
    omega
noncomputable def rPopAt : V → List V → Hp → VK → Prop := fun x vs H Q => ∃ l xs i k y, x = .ref l ∧ vs = [.int i] ∧ H l = some (.lst xs) ∧ -(2 ^ 63) ≤ i ∧ i < 2 ^ 63 ∧ seqIndex? i xs.length = some k ∧ xs[k]? = some y ∧ Q y (upd H l (.lst (xs.eraseIdx k)))
theorem mt_popAt : MtM X "list.pop" rPopAt := by
  intro pins s σ H x vs v us Q I rx rv h
  obtain ⟨l, xs, i, k, y, rfl, rfl, hH, h1, h2, hk, hy, q⟩ := h
  cases rx
  obtain ⟨u, rfl, ru⟩ := rv.one
  obtain ⟨t, rfl⟩ := ru
  obtain ⟨z, its, n, r, hl, e⟩ := I.lstM hH
  obtain ⟨w, hw, rw'⟩ := r.get hy
  refine call_meets F.slot_list_pop ⟨_, e, rfl⟩ F.entry_list_pop (F.args_list_pop_2 _ _)
    (MeetsSeq.list_pop_at l its.toArray n i t k w (fitsIndex_both h1 h2) (by rw [List.size_toArray, ← hl]; exact hk) (by rw [← Array.getElem?_toList]; exact hw) (by rw [List.size_toArray]; omega)) ⟨e, ?_⟩
  refine ⟨y, _, I.lset (its' := its.eraseIdx k) hH e ?_ (r.eraseIdx k) ?_, rw', q⟩
  · show its.toArray.eraseIdxIfInBounds k = (its.eraseIdx k).toArray
    rw [List.eraseIdxIfInBounds_toArray]
  · have := len_erase xs k
    omega
noncomputable def rClear : V → List V → Hp → VK → Prop := fun x vs H Q => ∃ l xs, x = .ref l ∧ vs = [] ∧ H l = some (.lst xs) ∧ Q .non (upd H l (.lst []))
theorem mt_clear : MtM X "list.clear" rClear := by
  intro pins s σ H x vs v us Q I rx rv h
  obtain ⟨l, xs, rfl, rfl, hH, q⟩ := h
  cases rx
  have hus := rv.zero
  subst hus
  obtain ⟨z, its, n, r, hl, e⟩ := I.lstM hH
  refine call_meets F.slot_list_clear ⟨_, e, rfl⟩ F.entry_list_clear (F.args_list_clear_1 _) (AutoSeq1.list_clear_list_0 l its.toArray n (by rw [List.size_toArray]; omega)) ⟨e, ?_⟩
  exact ⟨.non, _, I.lset (its' := []) (ys := []) hH e rfl .nil (Nat.zero_le _), rfl, q⟩
noncomputable def rCat : R2 := fun x y H Q => ∃ l b xs zs, x = .ref l ∧ y = .ref b ∧ H l = some (.lst xs) ∧ H b = some (.lst zs) ∧ xs.length + zs.length ≤ sizeLine ∧ ∀ p, H p = none → Q (.ref p) (upd H p (.lst (xs ++ zs)))
theorem op_cat : OpR X (binaryOp .Add) rCat := by
  intro pins s σ H x y v u Q I rx ry h
  obtain ⟨l, b, xs, zs, rfl, rfl, hH, hB, hz, q⟩ := h
  cases rx
  cases ry
  obtain ⟨z, its, n, r, hl, e⟩ := I.lstM hH
  obtain ⟨z2, its2, n2, r2, hl2, e2⟩ := I.lstM hB
  refine PySem.P.add_list e e2 ?_ (by rw [List.size_toArray, List.size_toArray]; omega)
  have ea : its.toArray ++ its2.toArray = (its ++ its2).toArray := by simp
  rw [ea]
  exact ⟨.ref _, _, I.lnew (t' := s.toks) (r.append r2) (by rw [List.length_append]; omega), rfl, q _ I.fresh⟩
end
section
variable {prog : Program} {w : World} {A : Around} {E : Value → Shared → Prop} {s : Shared}
end
section
variable {X : Cx}
end
end L2
namespace Att
open PySem PySem.W PySem.Calls PyProof.Rows
theorem ints_of_wellAll {P : Params} {h : Heap} : ∀ (ns : List Int) (vs : List Value), WellAll P h vs (ns.map WData.int) → IntsAre vs ns := by
  intro ns
  induction ns with
  | nil =>
    intro vs w
    rw [List.map_nil] at w
    cases w
    exact .nil
  | cons n ns ih =>
    intro vs w
    rw [List.map_cons] at w
    cases w with
    | cons a b =>
      cases a
      exact .cons _ _ (ih _ b)
theorem script_of {l : OpenLaw} {n : Nat} (hn : l.most = some n) {P : Params} {h : Heap} {args : List WData} {vals : List Value}
    (hpre : l.row.toRowW.claim.pre args = true) (hwl : WellAll P h vals args) :
    ∃ a vs ns, vals = [Value.ref a] ∧ args = [WData.list (ns.map WData.int)] ∧ h.get? a = some { cls := .type "list", data := .seq vs.toArray } ∧ IntsAre vs ns ∧ ns.length ≤ n := by
  have hsh : WShape.hasAll [] args [.list .int] = true := (pre_splitW hpre).1
  have hc : l.pre.holds [] { args := args } = true := (pre_splitW hpre).2
  obtain ⟨d, r, rfl, h1, h2⟩ := hasAllW_cons hsh
  obtain rfl := hasAllW_nil h2
  obtain ⟨xs, rfl, h3⟩ := hasW_list h1
  obtain ⟨ns, rfl⟩ := items_int h3
  have hlen : ns.length ≤ n := by
    unfold OpenLaw.pre at hc
    have h4 : (WTm.not (.lt (.lit (.int (n : Int))) (.len (.arg 0)))).holds [] { args := [.list (ns.map .int)] } = true := by
      have h4 := (holds_andW hc).1
      rw [hn] at h4
      exact h4
    have h5 := condW_of h4 (w_not (w_lt w_lit (w_len_list (w_arg rfl))))
    rw [List.length_map] at h5
    refine Nat.le_of_not_lt fun q => ?_
    have q' : (n : Int) < ((ns.length : Nat) : Int) := by omega
    first
      | (rw [decide_eq_true q'] at h5; exact absurd h5 (by decide))
      | (simp at h5; omega)
  cases hwl with
  | cons w1 w2 =>
    cases w2
    cases w1 with
    | list ho hall => exact ⟨_, _, ns, rfl, rfl, ho, ints_of_wellAll ns _ hall, hlen⟩
theorem post_true (l : OpenLaw) (args : List WData) : l.row.toRowW.claim.post args (.bool true) args = true :=
  postW_of (r := l.row.toRowW) (X := (true == true))
    (show WShape.has [] (.bool true) .bool = true by first | rfl | decide | simp [WShape.has, WShape.arms, WShape.armsAll])
    (show (WTm.eq .res (.lit (.bool true))).value [] { args := args, res := some (.bool true), after := args } = some (.bool (true == true)) from w_eq_bool (w_res rfl) w_lit) rfl
theorem attach_call {l : OpenLaw} {n : Nat} {q : Program} {loose : List Str} {XP : (Str → Option Value) → Heap → Prop} {YP : World → Heap → Prop} {d : DefRec}
    (hn : l.most = some n) (hdf : d.params.defaults = [])
    (call : ∀ (w : World) (s₀ s₁ : Shared) (mg mb : Str → Option Value) (fa : Addr) (o : Obj) (pm cd doc : Value) (a : Addr) (vs : List Value) (ns : List Int),
      Ground q loose [] XP w s₀ mg mb s₁.heap → YP w s₁.heap →
      s₁.heap.get? fa = some o → o.data = .func (docDef d.name d.params d.body d.scope pm cd doc) → s₁.heap.CodeRec cd d.name → mg d.name = some (.ref fa) →
      s₁.heap.get? a = some { cls := .type "list", data := .seq vs.toArray } → IntsAre vs ns → ns.length ≤ n → s₁.gens = #[] →
      codeAny (model l.prog w) callerA (.call (.ref fa) ⟨[.ref a], []⟩) (fun r s' => r = .ok (.ret (.bool true)) ∧ OldK s₁.heap s'.heap ∧ s'.os = s₁.os ∧ AllBare s'.gens) s₁) :
    WalkO q loose XP YP l.row.toRowW d [] (fun f vs => PySem.call f vs) := by
  intro w s₀ s₁ mg mb G Y fa o pm cd doc dV kV ho hd hcd hD hmg hg args vals as hpre hlay hrd hwl hlo
  obtain rfl : dV = .none := Dflts.none hD hdf
  obtain rfl : kV = .none := Dflts.noKw hD
  obtain ⟨a, vs, ns, rfl, rfl, hobj, hints, hlen⟩ := script_of hn hpre hwl
  refine enter_call (codeAny_mono (call w s₀ s₁ mg mb fa o pm cd doc a vs ns G Y ho (fd_plain hd) hcd hmg hobj hints hlen hg) fun r s' hq => ?_)
  obtain ⟨rfl, h2, h3, h4⟩ := hq
  exact ⟨.inl ⟨.bool true, .bool true, [], rfl, fun _ => rfl, .bool true, post_true l _, fun _ => ⟨List.Pairwise.nil, fun _ hm => (nomatch hm)⟩⟩, h2, h3, h4⟩
section
variable {prog : Program} {w : World} {A : Around} {E : Value → Shared → Prop} {s : Shared} {K : Frag}
end
end Att
namespace L2
open PySem PySem.Spec PyProof.Rows
theorem vals_ints : ∀ {vs : List Value} {ns : List Int}, IntsAre vs ns → Vals (ns.map V.int) vs
  | _, _, .nil => .nil
  | _, _, .cons n t h => .cons ⟨t, rfl⟩ (vals_ints h)
noncomputable def Only (H : Hp) : Prop := ∀ b, H b = none ∨ ∃ o xs, H b = some (.frz o (.lst xs))
theorem law_call {P : Program} {w : World} {K : PySem.W.Frag} {mg mb : Str → Option Value} {CX : CXT} {k : Nat} {fa a : Addr} {fd : FuncData} {x : Str} {sp : Sp} {s₁ : Shared} {vs : List Value} {ns : List Int}
    (KX : K.In s₁.heap) (hns : s₁.heap.Ns mainGlobals mg) (hb : s₁.heap.Ns builtinsNs mb) (hbb : ∀ x : Str, x ≠ "__name__" → mb x = bootBuiltins x) (hlim : s₁.heap.NoLimit) (hg : s₁.gens = #[])
    (ha : s₁.heap.get? a = some { cls := .type "list", data := .seq vs.toArray }) (hi : IntsAre vs ns) (hl : ns.length ≤ sizeLine) (hr : Room k callerA)
    (F : ∀ base : Heap, K.In base → base.Ns mainGlobals mg → FnOk P w K mg base CX k fa fd [x] sp) (hbind : ∀ (s : Shared) (u : Value), BindsTo s fd ⟨[u], []⟩ [(x, u)])
    (hsp : ∀ H : Hp, Only H → SqL K H a (ns.map V.int) → sp [.ref a] H (fun v _ => v = .bl true) fun _ _ _ => False)
    (hCX : ∀ H e s', CX [] H s₁ (fun _ _ _ => False) e s' → False) :
    codeAny (model P w) callerA (.call (.ref fa) ⟨[.ref a], []⟩) (fun r s' => r = .ok (.ret (.bool true)) ∧ OldK s₁.heap s'.heap ∧ s'.os = s₁.os ∧ AllBare s'.gens) s₁ := by
  have rv := vals_ints hi
  have lenV := hi.length
  have core : ∀ H : Hp, Only H → SqL K H a (ns.map V.int) → HOk P w H s₁.heap → (∀ b, H b ≠ none → b = a) → (H a ≠ none → K.lookup a = none) →
      codeAny (model P w) callerA (.call (.ref fa) ⟨[.ref a], []⟩) (fun r s' => r = .ok (.ret (.bool true)) ∧ OldK s₁.heap s'.heap ∧ s'.os = s₁.os ∧ AllBare s'.gens) s₁ := by
    intro H hO hS hok hA hK
    have base_of : ∀ {b : Addr} {o : Obj}, s₁.heap.get? b = some o → H b = none → (hidT s₁.heap H).get? b = some o := fun e n => hidT_get e n
    have noA : ∀ {b : Addr} {o : Obj} {es : Array DictEntry} {ep : Nat}, s₁.heap.get? b = some o → o.data = .dict es ep → H b = none := fun {b o es ep} e d => by
      cases q : H b with
      | none => rfl
      | some u =>
        have e' : b = a := hA b (by rw [q]; simp)
        subst e'
        rw [ha] at e; cases e
        have d' : Data.seq vs.toArray _ = Data.dict es ep := d
        cases d'
    have nsK : ∀ {b : Addr} {m : Str → Option Value}, s₁.heap.Ns b m → (hidT s₁.heap H).Ns b m := fun {b m} ⟨o, es, ep, e, d, r⟩ => ⟨o, es, ep, base_of e (noA e d), d, r⟩
    have hKb : K.In (hidT s₁.heap H) := fun b o e => base_of (KX b o e) (by
      cases q : H b with
      | none => rfl
      | some u =>
        have e' : b = a := hA b (by rw [q]; simp)
        subst e'
        rw [hK (by rw [q]; simp)] at e; cases e)
    have hM : Mod K mg (hidT s₁.heap H) := ⟨hKb, nsK hns, ⟨mb, nsK hb, hbb⟩, let ⟨mc, h1, h2⟩ := hlim; ⟨mc, nsK h1, h2⟩⟩
    have e0 : Env0 P w K mg (hidT s₁.heap H) callerA [] s₁ H := ⟨rfl, hM, fun b o e => of_hidT e, Nat.le_of_eq (hidT_size _ _), trivial, fun b hb => absurd (show b ∈ ([] : List Addr) from hb) (by simp), hok, .of_eq hg⟩
    refine codeAny_mono ((F _ hKb (nsK hns)).run callerA [] s₁ H ⟨[.ref a], []⟩ [.ref a] [.ref a] _ _ hr e0 (hbind s₁ (.ref a)) (.cons rfl .nil) (hsp H hO hS)) fun r s' h => ?_
    cases r with
    | error e => exact (hCX H e s' h).elim
    | ok fl =>
      cases fl with
      | next => exact False.elim h
      | brk => exact False.elim h
      | cont => exact False.elim h
      | ret u =>
        obtain ⟨v, H', os, bare, un, hok', r', q⟩ := h
        have q' : v = .bl true := q
        subst q'
        obtain rfl : u = Value.bool true := r'
        refine ⟨rfl, OldK.of_keep fun b o e => ?_, os, bare⟩
        cases q : H b with
        | none => exact un.keep b o e q (by intro z; exact absurd (show b ∈ ([] : List Addr) from z) (by simp)) (by simp)
        | some u =>
          rcases hO b with z | ⟨ob, xs, z⟩
          · rw [q] at z; cases z
          · have z2 := un.frzs b ob _ z
            obtain ⟨e1, _⟩ := hok b _ z
            obtain ⟨e2, _⟩ := hok' b _ z2
            rw [e] at e1; cases e1
            exact e2
  cases hk : K.lookup a with
  | some o =>
    have e := KX a o hk
    rw [ha] at e
    cases e
    refine core (fun _ => none) (fun _ => .inl rfl) (.inr ⟨_, vs.toArray, _, hk, rfl, rfl, rfl, by rw [List.size_toArray, lenV]; exact hl, by simpa using rv⟩) (fun b u z => by have z' : (none : Option HO) = some u := z; cases z') (fun b z => absurd rfl z) fun z => absurd rfl z
  | none =>
    refine core (fun b => if b = a then some (.frz { cls := .type "list", data := .seq vs.toArray } (.lst (ns.map V.int))) else none) (fun b => ?_) (.inl (.inr ⟨{ cls := .type "list", data := .seq vs.toArray }, if_pos rfl⟩)) (fun b u z => ?_) (fun b z => ?_) fun _ => hk
    · by_cases hb : b = a
      · exact .inr ⟨_, _, if_pos hb⟩
      · exact .inl (if_neg hb)
    · by_cases hb : b = a
      · have z' := (if_pos hb).symm.trans z
        cases z'
        subst hb
        exact ⟨ha, by rw [List.length_map]; exact hl, vs, _, rv, ha⟩
      · have z' := (if_neg hb).symm.trans z
        cases z'
    · by_cases hb : b = a
      · exact hb
      · exact absurd (if_neg hb) z
end L2
namespace L2
open PySem PySem.Spec PyProof.Rows
theorem walk_of {l : PySem.W.OpenLaw} {n k : Nat} {q : Program} {loose : List Str} {XP : (Str → Option Value) → Heap → Prop} {YP : World → Heap → Prop} {d : DefRec} {K : Params → PySem.W.Frag} {CX : World → CXT} {sp : World → Sp} {x : Str}
    (hn : l.most = some n) (hn2 : n ≤ sizeLine) (hdf : d.params.defaults = []) (hr : Room k callerA)
    (hY : ∀ (w : World) (h : Heap), YP w h → (K w.params).In h)
    (F : ∀ (w : World) (mg : Str → Option Value) (fa : Addr) (h : Heap), (K w.params).In h → h.Ns mainGlobals mg → mg d.name = some (.ref fa) →
      ∃ fd : FuncData, (∀ (s : Shared) (u : Value), BindsTo s fd ⟨[u], []⟩ [(x, u)]) ∧
        ∀ base : Heap, (K w.params).In base → base.Ns mainGlobals mg → FnOk l.prog w (K w.params) mg base (CX w) k fa fd [x] (sp w))
    (hsp : ∀ (w : World) (H : Hp) (a : Addr) (ns : List Int), ns.length ≤ n → Only H → SqL (K w.params) H a (ns.map V.int) → sp w [.ref a] H (fun v _ => v = .bl true) fun _ _ _ => False)
    (hCX : ∀ (w : World) (H : Hp) (s : Shared) (e : Value) (s' : Shared), CX w [] H s (fun _ _ _ => False) e s' → False) :
    PySem.W.WalkO q loose XP YP l.row.toRowW d [] (fun f vs => PySem.call f vs) := by
  refine Att.attach_call hn hdf fun w s₀ s₁ mg mb fa o pm cd doc a vs ns G Y ho hd hcd hmg hobj hints hlen hg => ?_
  have KX := hY w _ Y
  obtain ⟨fd, hb, hF⟩ := F w mg fa _ KX G.T.g hmg
  exact law_call KX G.T.g G.T.b G.T.builtins G.T.nolimit hg hobj hints (Nat.le_trans hlen hn2) hr hF hb (fun H hO hS => hsp w H a ns hlen hO hS) fun H e s' => hCX w H s₁ e s'
end L2
/- THE LAST THEOREM (shape; LID, My.* are yours):
   My.Adr: a structure of the addresses that your layer names (classes, functions); My.Txt K t: a structure (Prop) of the equations over K;
   My.txt_mk : {K} {implicit addresses ..} (e1 : nsIn K mainGlobals "law" = some (some (.ref f))) (e2 : K.lookup f = some ⟨oc, od, .func (fnOf "law" "law" params body scope dV kV doc pm an cdv ct), sl⟩) (e3 : codeIn K cdv "law" = true) .. : ∃ t, My.Txt K t
(the tactic k_is has no namespace: write k_is) -/
namespace L2
open PySem PySem.Spec PyProof.Rows
noncomputable def defArgs (s : Stmt) : Arguments := match s with
  | .FunctionDef _ a _ _ _ _ _ _ _ _ => a
  | _ => { posonlyargs := [], args := [], vararg := none, kwonlyargs := [], kw_defaults := [], kwarg := none, defaults := [] }
noncomputable def defBody (s : Stmt) : List Stmt := match s with
  | .FunctionDef _ _ b _ _ _ _ _ _ _ => b
  | _ => []
noncomputable def defScope (s : Stmt) : Scope := match s with
  | .FunctionDef _ _ _ _ _ _ sc _ _ _ => sc
  | _ => { kind := .function, names := [], isGenerator := false, isCoroutine := false }
abbrev CX0 : CXT := fun _ _ _ _ _ _ => False
abbrev E0 : XK := fun _ _ _ => False
theorem pass0 {X : Cx} : Passes CX0 X E0 := fun _ _ _ _ _ _ _ h => h.elim
structure Fun (K : PySem.W.Frag) (x qual : Str) (st : Stmt) (f : Addr) (fd : FuncData) : Prop where
  ex : ∃ (oc : Value) (od : Option Addr) (kV doc pm : Value) (an : Option Addr) (cdv ct : Value) (osl : Array (Option Value)),
    fd = PySem.W.fnOf x qual (defArgs st) (defBody st) (defScope st) .none kV doc pm an cdv ct ∧ K.lookup f = some ⟨oc, od, .func fd, osl⟩ ∧ PySem.W.codeIn K cdv qual = true
  kp : PySem.W.keepIn K (.ref f) = true
section
variable {P : Program} {w : World} {K : PySem.W.Frag} {mg : Str → Option Value} {base : Heap}
theorem Fun.ok {x qual : Str} {st : Stmt} {f : Addr} {fd : FuncData} {N ps : List Str} {k : Nat} {sp : Sp} (F : Fun K x qual st f fd) (S : FnScope N ps (defScope st)) (len : ∀ vs H Q E, sp vs H Q E → vs.length = ps.length)
    (hbody : ∀ (cdv : Value) (A : Around) (outer : List Env) (s : Shared) (H : Hp) (vs : List V) (Q : VK) (E : XK), Room k (A.deeper (envOfC qual (defScope st) s.heap.objs.size f cdv)) → sp vs H Q E →
      ∃ t, PSs (cxOf CX0 P w K mg base N qual (defScope st) f cdv A outer s H E).nox (defBody st) t ∧ t { nx := fun _ H' => Q .non H', rt := Q } (start N vs) H) : FnOk P w K mg base CX0 (k + 1) f fd ps sp := by
  obtain ⟨oc, od, kV, doc, pm, an, cdv, ct, osl, rfl, lk, hcd⟩ := F.ex
  refine fn_of lk hcd S len fun A outer s H vs Q E hr hsp => ?_
  obtain ⟨t, h, q⟩ := hbody cdv A outer s H vs Q E hr hsp
  exact ⟨t, h.nox, q⟩
theorem Fun.binds {x qual : Str} {st : Stmt} {f : Addr} {fd : FuncData} {ps : List Str} (F : Fun K x qual st f fd)
    (h : ∀ (kV doc pm : Value) (an : Option Addr) (cdv ct : Value) (us : List Value), us.length = ps.length → bindArgs (PySem.W.fnOf x qual (defArgs st) (defBody st) (defScope st) .none kV doc pm an cdv ct) ⟨us, []⟩ = pure (ps.zip us)) : Binds K fd ps [] := by
  obtain ⟨oc, od, kV, doc, pm, an, cdv, ct, osl, rfl, lk, hcd⟩ := F.ex
  exact .all (h kV doc pm an cdv ct)
theorem fun_mk {x qual : Str} {st : Stmt} {f : Addr} {oc : Value} {od an : Option Addr} {osl : Array (Option Value)} {kV doc pm cdv ct : Value} (l : K.lookup f = some ⟨oc, od, .func (PySem.W.fnOf x qual (defArgs st) (defBody st) (defScope st) .none kV doc pm an cdv ct), osl⟩)
    (c : PySem.W.codeIn K cdv qual = true) (k : PySem.W.keepIn K (.ref f) = true) : Fun K x qual st f (PySem.W.fnOf x qual (defArgs st) (defBody st) (defScope st) .none kV doc pm an cdv ct) := ⟨⟨oc, od, kV, doc, pm, an, cdv, ct, osl, rfl, l, c⟩, k⟩
end
theorem small1000 {n : Nat} (h : n ≤ 1000) : n < sizeLine := Nat.lt_of_le_of_lt h (by decide)
section
variable {X : Cx}
theorem pv (i : Nat) {x : Str} {pos : Pos} (hN : X.N[i]? = some x := by rfl) (hv : Vis X.env.scope x := by first | exact Or.inl rfl | exact Or.inr (Or.inl rfl) | exact Or.inr (Or.inr rfl)) (hd : (x == ("__debug__" : Str)) = false := by decide)
    (hcd : (x == ("__classdict__" : Str)) = false := by decide) : PE X (.Name x pos) (tVar i) := pe_var hN hv hd hcd
end
noncomputable def Same (H H' : Hp) : Prop := ∀ b o, H b = some o → H' b = some o
theorem Same.refl (H : Hp) : Same H H := fun _ _ h => h
theorem Same.trans {H H1 H2 : Hp} (a : Same H H1) (b : Same H1 H2) : Same H H2 := fun c o h => b c o (a c o h)
theorem Same.free {H H' : Hp} (e : Same H H') {l : Addr} (h : H' l = Option.none) : H l = Option.none := by
  cases q : H l with
  | none => rfl
  | some o =>
    rw [e l o q] at h
    cases h
theorem Same.seq {K : PySem.W.Frag} {H H' : Hp} {a : Addr} {xs : List V} (e : Same H H') (h : SqL K H a xs) : SqL K H' a xs := by
  rcases h with (h | ⟨o, h⟩) | h
  · exact .inl (.inl (e _ _ h))
  · exact .inl (.inr ⟨o, e _ _ h⟩)
  · exact .inr h
end L2
set_option maxHeartbeats 16000000
namespace L2
open PySem PySem.Spec PyProof.Rows
noncomputable def blk (X : Cx) (N : List Str) (s : Shared) (H : Hp) (sc : Scope) (cl : List (Str × Addr)) (C : Addr) (ex : List Addr) : Cx where
  prog := X.prog
  w := X.w
  K := X.K
  mg := X.mg
  base := X.base
  A := X.A
  N := N
  s₀ := s
  H₀ := H
  env := compEnvC sc cl C X.env
  outer := X.stack
  stack := X.stack
  ex := ex
  fn := fun _ => false
  calm := X.calm
  pn := []
  xe := fun _ _ => False
section
variable {prog : Program} {w : World} {A : Around} {R : Result → Shared → Prop} {s : Shared}
theorem compLoop_go {elt target iter : Expr} {ifs : List Expr} {scope : Scope} {pos : Pos} {it acc : Value} {env : Env} (I : Nat → Shared → Prop)
    (turn : ∀ n s, I n s → wpAny (model prog w) A (pyNext it) (fun r s₁ => match r with
      | none => R (.ok .next) s₁
      | some v => wpAny (model prog w) A (letOwnedTupleGo target it v) (fun _ s₁' => wpAny (model prog w) A (assign target env v) (fun _ s₂ =>
          wpAny (model prog w) A (forIn ifs true fun c r => if r = true then do let ok ← isTrue c env (eval c env); pure (ForInStep.yield ok) else pure (ForInStep.yield r)) (fun ok s₃ =>
            if ok = true then wpAny (model prog w) A (eval elt env) (fun x s₄ =>
              wpAny (model prog w) A (call (.builtin "list.append") [acc, x]) (fun _ s₅ => ∃ m, m < n ∧ I m s₅) (fun _ _ => False) s₄) (fun _ _ => False) s₃
            else ∃ m, m < n ∧ I m s₃) (fun _ _ => False) s₂) (fun _ _ => False) s₁') (fun _ _ => False) s₁) (fun _ _ => False) s)
    (n : Nat) (h : I n s) :
    codeAny (model prog w) A (.compLoop (.ListComp elt [⟨target, iter, ifs, 0⟩] scope pos) 0 it acc env) R s := by
  refine codeAny_loop rfl I (fun n s hI => ?_) n h
  show wpAny _ A ((compTurn (.ListComp elt [⟨target, iter, ifs, 0⟩] scope pos) 0 it acc env).onRaise (fun x => do noteFrame x env; theTreesLotGoes x)) _ _ s
  refine wpAny_noted ?_
  rw [compTurn_list]
  refine wpAny_bind (wpAny_standAt (wpAny_bind (wpAny_mono (turn n s hI) (fun r s₁ h₁ => ?_) fun _ _ h' => h'.elim)))
  cases r with
  | none => exact wpAny_pure h₁
  | some v =>
    refine wpAny_bind (wpAny_mono h₁ (fun _ s₁' h₁' => ?_) fun _ _ h' => h'.elim)
    refine wpAny_bind (wpAny_mono h₁' (fun _ s₂ h₂ => wpAny_bind (wpAny_mono h₂ (fun ok s₃ h₃ => ?_) fun _ _ h' => h'.elim)) fun _ _ h' => h'.elim)
    cases ok with
    | false => exact wpAny_pure ⟨rfl, h₃⟩
    | true =>
      exact wpAny_bind (wpAny_bind (wpAny_mono h₃ (fun x s₄ h₄ => wpAny_bind (wpAny_mono h₄ (fun _ s₅ h₅ => wpAny_pure (wpAny_pure ⟨rfl, h₅⟩)) fun _ _ h' => h'.elim)) fun _ _ h' => h'.elim))
end
noncomputable def PTs (X : Cx) (ifs : List Expr) (t : TT) : Prop :=
  ∀ (pins : List (Addr × Obj)) (s : Shared) (σ : St) (H : Hp) (Q : Bool → Hp → Prop), Inv X pins σ H s → t σ H Q →
    wpAny (model X.prog X.w) X.A (forIn ifs true fun c r => if r = true then do let ok ← isTrue c X.env (eval c X.env); pure (ForInStep.yield ok) else pure (ForInStep.yield r)) (TP X pins σ Q) X.xe s
noncomputable def tYes : TT := fun _ H Q => Q true H
theorem pts_nil {X : Cx} : PTs X [] tYes := fun _ _ _ H _ I h => wpAny_tests_nil ⟨H, I, h⟩
theorem pts_one {X : Cx} {c : Expr} {t : TT} (h : PT X c t) : PTs X [c] t := fun pins s σ H Q I q => wpAny_tests_one (h pins s σ H Q I q)
noncomputable def frees (σ : St) (ix : List Nat) : St := ix.map fun j => (σ[j]?).getD none
noncomputable def CompGo (J : It) (H1 : Hp) (σ : St) (ix : List Nat) (tc : TT) (te : TE) (Q : VK) : Prop := ∀ D, H1 D = none →
  ∃ W : Nat → Nat → Hp → Prop, (∃ m, W 0 m (upd H1 D (.lst []))) ∧ ∀ i m H, W i m H →
    (J.stop i H ∧ Q (.ref D) H) ∨ (J.go i H ∧ ∀ x H', J.yld i H x H' → tc (some x :: frees σ ix) H' fun b H2 =>
      if b = true then te (some x :: frees σ ix) H2 fun y H3 => ∃ ys, H3 D = some (.lst ys) ∧ ys.length < sizeLine ∧ ∃ m', m' < m ∧ W (i + 1) m' (upd H3 D (.lst (ys ++ [y])))
      else ∃ m', m' < m ∧ W (i + 1) m' H2)
noncomputable def tComp (ix : List Nat) (wi : TI) (tc : TT) (te : TE) : TE := fun σ H Q => wi σ H fun J H1 => CompGo J H1 σ ix tc te Q
section
variable {X : Cx}
theorem inv_blk {pins : List (Addr × Obj)} {σ : St} {H : Hp} {s : Shared} {N : List Str} {x : Str} {sc : Scope} {cl : List (Str × Addr)} {fp : List Addr} {ix : List Nat} {h1 : Heap} {m : Str → Option Value} {tk : Nat}
    (I : Inv X pins σ H s) (hkind : sc.kind = .function) (hN : N = x :: ix.map fun j => (X.N[j]?).getD "")
    (hsub : ∀ y c, cl.lookup y = some c → X.env.cells.lookup y = some c) (hhas : ∀ y, ((relabel sc X.env).names.lookup y = some .cell ∨ (relabel sc X.env).names.lookup y = some .free) → ∃ c, cl.lookup y = some c)
    (hix : ∀ j ∈ ix, ∃ y, X.N[j]? = some y ∧ X.env.kindOf y = some .cell ∧ (relabel sc X.env).names.lookup y = some .cell)
    (hfp : ∀ b ∈ fp, FpOk X pins H b) (hlt : ∀ b ∈ fp, b < s.heap.objs.size)
    (hns : h1.Ns s.heap.objs.size m) (hk : ∀ b o, s.heap.get? b = some o → h1.get? b = some o) :
    Inv (blk X N s H sc cl s.heap.objs.size fp) [] (none :: frees σ ix) H { s with heap := h1, toks := tk } := by
  have fresh : H s.heap.objs.size = none := I.hok.fresh (Nat.le_refl _)
  refine ⟨⟨I.ok.mod, hkind, I.ok.glob, I.ok.blt, Nat.le_refl _, fun y z c h1 h2 => I.ok.inj y z c (hsub y c h1) (hsub z c h2), fun y hy => hhas y hy, fun y c z _ => absurd (show false = true from z) (by decide), I.ok.hd, I.ok.frames, .inl rfl,
    fun b hb => ⟨Nat.ne_of_lt (hlt b hb), fun y c e => (hfp b hb).2.2.2.2.1 y c (hsub y c e)⟩, I.bs, Nat.le_trans I.ok.bsz I.sz, fun b o e hb => ?_, fun b hb z => ?_, I.stack, I.stkFree⟩,
    rfl, I.bare, Un.kept hk, ⟨m, hns, fun i y v e1 e2 e3 => ?_⟩, fun y c e => ?_, fresh, fun y c e => I.freeC y c (hsub y c e), fun p hp => absurd (show p ∈ ([] : List (Addr × Obj)) from hp) (by simp), I.hok.kept hk, ?_⟩
  · rcases (hfp b hb).2.2.2.1 with z | z
    · exact I.ok.noex b o e z
    · exact absurd (Nat.lt_of_lt_of_le (Heap.lt_size e) (Nat.le_trans I.ok.bsz z)) (Nat.lt_irrefl _)
  · rcases List.mem_cons.mp (I.stkSub b z) with q | q
    · exact (hfp b hb).2.1 q
    · exact (hfp b hb).2.2.1 q
  · cases i with
    | zero =>
      have e2' : (some none : Option (Option V)) = some (some v) := e2
      cases e2'
    | succ i =>
      have e2' : (frees σ ix)[i]? = some (some v) := by simpa using e2
      unfold frees at e2'
      rw [List.getElem?_map] at e2'
      cases q : ix[i]? with
      | none => rw [q] at e2'; cases e2'
      | some j =>
        rw [q] at e2'
        have e3' : (σ[j]?).getD none = some v := by simpa using e2'
        have e4 : σ[j]? = some (some v) := by
          cases q2 : σ[j]? with
          | none => rw [q2] at e3'; cases e3'
          | some w => rw [q2] at e3'; simpa using e3'
        obtain ⟨y', hy, hc, hr⟩ := hix j (List.mem_of_getElem? q)
        have ey : y' = y := by
          have e1' : N[i + 1]? = some y := e1
          rw [hN, List.getElem?_cons_succ, List.getElem?_map, q] at e1'
          have := Option.some.inj e1'
          simpa [hy] using this
        subst ey
        obtain ⟨m0, hn0, hl0⟩ := I.loc
        obtain ⟨u, r, l⟩ := hl0 j y' v hy e4 (.inr (.inl hc))
        refine ⟨u, r, .inr ⟨.inl hr, ?_⟩⟩
        rcases l with ⟨k, _⟩ | ⟨_, c, ec, ic⟩
        · rw [hc] at k; cases k
        · obtain ⟨c', ec'⟩ := hhas y' (.inl hr)
          have := hsub y' c' ec'
          rw [ec] at this; cases this
          obtain ⟨o, ho, hd⟩ := ic
          exact ⟨c, ec', o, hk c o ho, hd⟩
  · obtain ⟨v, o, ho, hd⟩ := I.cell y c (hsub y c e)
    exact ⟨v, o, hk c o ho, hd⟩
  · show (none :: frees σ ix).length = N.length
    rw [hN]
    simp [frees]
theorem comp_core {elt iter : Expr} {x : Str} {px pos p0 : Pos} {ifs : List Expr} {sc : Scope} {cl : List (Str × Addr)} {ix : List Nat} {wi : TI} {tc : TT} {te : TE} (N : List Str)
    (hc : X.calm = true) (hi : PI X (.Name x px) iter wi) (hif : ∀ s H C ex, PTs (blk X N s H sc cl C ex) ifs tc) (he : ∀ s H C ex, PE (blk X N s H sc cl C ex) elt te)
    (hkind : sc.kind = .function) (hN : N = x :: ix.map fun j => (X.N[j]?).getD "") (hnd : N.Nodup) (hx : sc.names.lookup x = some .local)
    (hcl : closureFor sc X.env = pure cl) (hcell : ∀ y ∈ sc.names, y.2 ≠ .cell) (hnames : ∀ y ∈ sc.names, y.2 = .local → sc.names.lookup y.1 = some .local)
    (hsub : ∀ y c, cl.lookup y = some c → X.env.cells.lookup y = some c) (hhas : ∀ y, ((relabel sc X.env).names.lookup y = some .cell ∨ (relabel sc X.env).names.lookup y = some .free) → ∃ c, cl.lookup y = some c)
    (hix : ∀ j ∈ ix, ∃ y, X.N[j]? = some y ∧ X.env.kindOf y = some .cell ∧ (relabel sc X.env).names.lookup y = some .cell)
    (hs : ∀ x, foldedSetIterable iter X.env x = pure x)
    {use : Option (Value → Sem Unit)} {RP : Value → Shared → Prop} {Q : VK} {pins : List (Addr × Obj)} {s : Shared} {σ : St} {H : Hp} (I : Inv X pins σ H s) (h : tComp ix wi tc te σ H Q)
    (hfin : ∀ (D C : Addr) (s6 : Shared) (H5 : Hp) (mm : Str → Option Value), Inv X pins σ H5 s6 → s6.heap.Ns C mm → H5 C = none → C ≠ X.env.locals → (∀ z c, X.env.cells.lookup z = some c → c ≠ C) → X.s₀.heap.objs.size ≤ C → (∀ p ∈ X.pn ++ pins, p.1 ≠ C) → Q (.ref D) H5 → compPost (model X.prog X.w) X.A X.xe use RP (.ref D) C (.ok .next) s6) :
    wpAny (model X.prog X.w) X.A (comprehension (.ListComp elt [⟨.Name x px, iter, ifs, 0⟩] sc pos) sc X.env p0 (newList []) false (eval iter X.env) use) RP X.xe s := by
  refine wpAny_comprehension_free (use := use) rfl hs hcl hkind hnames (thn (hi pins s σ H _ I h) fun v s1 h1 => thn h1 fun itv s2 h2 => ?_)
  obtain ⟨it, fp, tn, J, H2, e, I2, T, st2, f2, q2⟩ := h2
  subst e
  have fr2 : H2 s2.heap.objs.size = none := I2.hok.fresh (Nat.le_refl _)
  obtain ⟨W, ⟨m0, w0⟩, turn⟩ := q2 s2.heap.objs.size fr2
  refine wpAny_newObj_type ?_
  have I3 : Inv X pins σ (upd H2 s2.heap.objs.size (.lst [])) { s2 with heap := s2.heap.push { cls := .type "list", dict := none, data := .seq ([] : List Value).toArray } } := by
    exact I2.lnew (its := []) (ys := []) (t' := s2.toks) .nil (Nat.zero_le _)
  have lt2 : ∀ b ∈ fp, b < s2.heap.objs.size := fun b hb => by
    obtain ⟨o, ho, _⟩ := T.obj _ _ st2 b hb
    exact Heap.lt_size ho
  have f3 : ∀ b ∈ fp, FpOk X pins (upd H2 s2.heap.objs.size (.lst [])) b := fun b hb => ⟨by rw [upd_ne (Nat.ne_of_lt (lt2 b hb))]; exact (f2 b hb).1, (f2 b hb).2⟩
  generalize hs3 : ({ s2 with heap := s2.heap.push { cls := .type "list", dict := none, data := .seq ([] : List Value).toArray } } : Shared) = s3 at I3
  have hsz3 : s2.heap.objs.size ≤ s3.heap.objs.size := by rw [← hs3]; show _ ≤ (s2.heap.push _).objs.size; rw [Heap.size_push]; exact Nat.le_succ _
  have tn3 : tn 0 s3.heap := T.keep _ _ _ st2 fun b _ o e => by rw [← hs3]; exact Heap.get?_push_of_some _ e
  have lt3 : ∀ b ∈ fp, b < s3.heap.objs.size := fun b hb => Nat.lt_of_lt_of_le (lt2 b hb) hsz3
  refine wpAny_newFunctionEnv hcell (by intro y hy; simp at hy) (fun h4 hns4 hsb4 => ?_) hkind
  have old : ∀ b o, s3.heap.get? b = some o → h4.get? b = some o := fun b o e => hsb4.extBut b o (Nat.ne_of_lt (Heap.lt_size e)) (Heap.get?_push_of_some _ e)
  have I4 := inv_blk (m := _) (tk := s3.toks + ([] : List (Str × Value)).length) (N := N) I3 hkind hN hsub hhas hix f3 lt3 hns4 old
  have tn4 : tn 0 h4 := T.keep _ _ _ tn3 fun b _ o e => old b o e
  have fpB : ∀ {H' : Hp}, (∀ b ∈ fp, H' b = none) → ∀ b ∈ fp, FpOk (blk X N s3 (upd H2 s2.heap.objs.size (.lst [])) sc cl s3.heap.objs.size fp) [] H' b := fun {H'} hn b hb =>
    ⟨hn b hb, Nat.ne_of_lt (lt3 b hb), I4.ok.exfs b hb, .inl hb, fun y c e => (I4.ok.exf b hb).2 y c e, fun p hp => absurd (show p ∈ ([] : List (Addr × Obj)) from hp) (by simp)⟩
  have loop : codeAny (model X.prog X.w) X.A (.compLoop (.ListComp elt [⟨.Name x px, iter, ifs, 0⟩] sc pos) 0 (.ref it) (.ref s2.heap.objs.size) (compEnvC sc cl s3.heap.objs.size X.env))
      (compPost (model X.prog X.w) X.A X.xe use RP (.ref s2.heap.objs.size) s3.heap.objs.size) { s3 with heap := h4, toks := s3.toks + ([] : List (Str × Value)).length } := by
    refine compLoop_go (fun n s' => ∃ i v0 H', Inv (blk X N s3 (upd H2 s2.heap.objs.size (.lst [])) sc cl s3.heap.objs.size fp) [] (v0 :: frees σ ix) H' s' ∧ tn i s'.heap ∧ (∀ b ∈ fp, H' b = none) ∧ W i n H') ?_ m0
      ⟨0, none, _, I4, tn4, fun b hb => (f3 b hb).1, w0⟩
    rintro n s5 ⟨i, v0, H5, I5, st5, fr5, w5⟩
    rcases turn i n H5 w5 with ⟨stop, qn⟩ | ⟨go, step⟩
    · refine thn (T.done (blk X N s3 (upd H2 s2.heap.objs.size (.lst [])) sc cl s3.heap.objs.size fp) rfl rfl rfl hc i [] s5 _ H5 _ I5 (fpB fr5) st5 stop) fun r s6 ⟨hr, I6⟩ => ?_
      subst hr
      obtain ⟨mm, hm, _⟩ := I6.loc
      have I7 : Inv X pins σ H5 s6 := by
        have hC : H5 s3.heap.objs.size = none := I6.free
        have hc3 : s3.heap.get? s3.heap.objs.size = none := Heap.get?_none_of_le (Nat.le_refl _)
        have up : ∀ b o, b ≠ s3.heap.objs.size → s6.heap.get? b = some o → s6.heap.get? b = some o := fun b o hb e => e
        have neC : ∀ b o, s3.heap.get? b = some o → b ≠ s3.heap.objs.size := fun b o e => Nat.ne_of_lt (Heap.lt_size e)
        have u := I6.base
        refine I3.call' (s' := s6) (ch := fp) I6.os ⟨fun b o e n hb hx => ?_, fun b o e n hb hx => ?_, fun b o e n hx => u.free b o e n hx, fun b o e hx => ?_, u.tups, u.frzs, u.tbls⟩ (fun b o e => ?_) I6.bare fun b hb => ⟨(f3 b hb).2.2.2.1, (f3 b hb).2.1, (f3 b hb).2.2.2.2.1, (f3 b hb).2.2.2.2.2⟩
        · exact up b o (neC b o e) (u.keep b o e n hb hx)
        · obtain ⟨sl, e1⟩ := u.slot b o e n hb hx
          exact ⟨sl, up b _ (neC b o e) e1⟩
        · obtain ⟨o', e1⟩ := u.there b o e hx
          exact ⟨o', up b _ (neC b o e) e1⟩
        · refine (I6.hok b o e).stay (fun c v hc' q => up c v ?_ q) (fun _ q => q) fun _ _ q => q
          rintro rfl
          rcases hc' with z | z
          · rw [← z, hC] at e; cases e
          · rw [hC] at z; cases z
      have hCn : H5 s3.heap.objs.size = none := I6.free
      have hCl : s3.heap.objs.size ≠ X.env.locals := Nat.ne_of_gt I3.lt
      have hCc : ∀ z c, X.env.cells.lookup z = some c → c ≠ s3.heap.objs.size := fun z c e e2 => by
        obtain ⟨v', q⟩ := I3.cell z c e
        exact absurd (e2 ▸ q.lt) (Nat.lt_irrefl _)
      exact hfin _ _ s6 H5 mm I7 hm hCn hCl hCc I3.sz (fun p hp e2 => absurd (e2 ▸ Heap.lt_size (I3.pin p hp).1) (Nat.lt_irrefl _)) qn
    · refine thn (T.item (blk X N s3 (upd H2 s2.heap.objs.size (.lst [])) sc cl s3.heap.objs.size fp) rfl rfl rfl hc i [] s5 _ H5 _ I5 (fpB fr5) st5 go) fun r s6 ⟨u, hr, h6⟩ => ?_
      subst hr
      refine thn h6 fun _ s7 ⟨y, H7, I7, r7, y7, st7, fr7⟩ => ?_
      have I7' := I7.pinned (fpB fr7) (T.obj _ _ st7)
      refine wpAny_assign_Name (store_ok (i := 0) I7' hnd (by show N[0]? = some x; rw [hN]; rfl) (.inl (lookup_relabel_local hx)) r7 (fun s8 I8 => ?_) (.inr (lookup_relabel_local hx)))
      have I8' : Inv (blk X N s3 (upd H2 s2.heap.objs.size (.lst [])) sc cl s3.heap.objs.size fp) ([] ++ pinsAt fp s7.heap) (some y :: frees σ ix) H7 s8 := I8
      refine thn (hif _ _ _ _ _ s8 _ H7 _ I8' (step y H7 y7)) fun ok s9 ⟨H9, I9, q9⟩ => ?_
      have again : ∀ {H' : Hp} {s' : Shared} {m' : Nat}, Inv (blk X N s3 (upd H2 s2.heap.objs.size (.lst [])) sc cl s3.heap.objs.size fp) ([] ++ pinsAt fp s7.heap) (some y :: frees σ ix) H' s' → m' < n → W (i + 1) m' H' →
          ∃ m, m < n ∧ ∃ i v0 H', Inv (blk X N s3 (upd H2 s2.heap.objs.size (.lst [])) sc cl s3.heap.objs.size fp) [] (v0 :: frees σ ix) H' s' ∧ tn i s'.heap ∧ (∀ b ∈ fp, H' b = none) ∧ W i m H' := fun {H' s' m'} Ia hm wa => by
        refine ⟨m', hm, i + 1, some y, H', Ia.unpinned, T.keep _ _ _ st7 fun b hb o e => (Ia.pin (b, o) (List.mem_append_right _ (List.mem_append_right _ (mem_pinsAt hb e)))).1, fun b hb => ?_, wa⟩
        obtain ⟨o, e, d⟩ := T.obj _ _ st7 b hb
        exact (Ia.pin (b, o) (List.mem_append_right _ (List.mem_append_right _ (mem_pinsAt hb e)))).2.1
      cases ok with
      | false =>
        rw [if_neg Bool.false_ne_true] at q9 ⊢
        obtain ⟨m', hm, wa⟩ := q9
        exact again I9 hm wa
      | true =>
        rw [if_pos rfl] at q9 ⊢
        refine thn (he _ _ _ _ _ s9 _ H9 _ I9 q9) fun v10 s10 ⟨z, H10, I10, r10, ys, hD, hl, m', hm, wa⟩ => ?_
        exact thn (mt_append _ s10 _ H10 (.ref s2.heap.objs.size) [z] (.ref s2.heap.objs.size) [v10] (fun _ H' => H' = upd H10 s2.heap.objs.size (.lst (ys ++ [z]))) I10 rfl (.cons r10 .nil) ⟨_, ys, z, rfl, rfl, hD, hl, rfl⟩)
          fun _ s11 ⟨_, H11, I11, _, e11⟩ => again I11 hm (by rw [e11]; exact wa)
  subst hs3
  exact codeAny_compStart_list loop (T.self _ 0 _ _ _ tn4 loop)
theorem pe_comp {elt iter : Expr} {x : Str} {px pos : Pos} {ifs : List Expr} {sc : Scope} {cl : List (Str × Addr)} {ix : List Nat} {wi : TI} {tc : TT} {te : TE} (N : List Str)
    (hc : X.calm = true) (hi : PI X (.Name x px) iter wi) (hif : ∀ s H C ex, PTs (blk X N s H sc cl C ex) ifs tc) (he : ∀ s H C ex, PE (blk X N s H sc cl C ex) elt te)
    (hkind : sc.kind = .function) (hN : N = x :: ix.map fun j => (X.N[j]?).getD "") (hnd : N.Nodup) (hx : sc.names.lookup x = some .local)
    (hcl : closureFor sc X.env = pure cl) (hcell : ∀ y ∈ sc.names, y.2 ≠ .cell) (hnames : ∀ y ∈ sc.names, y.2 = .local → sc.names.lookup y.1 = some .local)
    (hsub : ∀ y c, cl.lookup y = some c → X.env.cells.lookup y = some c) (hhas : ∀ y, ((relabel sc X.env).names.lookup y = some .cell ∨ (relabel sc X.env).names.lookup y = some .free) → ∃ c, cl.lookup y = some c)
    (hix : ∀ j ∈ ix, ∃ y, X.N[j]? = some y ∧ X.env.kindOf y = some .cell ∧ (relabel sc X.env).names.lookup y = some .cell)
    (hs : ∀ x, foldedSetIterable iter X.env x = pure x := by intro _; rfl) :
    PE X (.ListComp elt [⟨.Name x px, iter, ifs, 0⟩] sc pos) (tComp ix wi tc te) := by
  intro pins s σ H Q I h
  rw [eval_ListComp]
  exact comp_core N hc hi hif he hkind hN hnd hx hcl hcell hnames hsub hhas hix hs I h fun D C s6 H5 mm I7 hm hCn hCl hCc hsz hpin qn =>
    ⟨mm, hm, fun h7 sb7 => ⟨.ref D, H5, I7.turned (t' := s6.toks) (it := C) (fun b o hb e => sb7.extBut b o hb e) hCn hCl (.inr hsz) hCc hpin, rfl, qn⟩⟩
end
end L2
namespace L2
open PySem PySem.Spec PyProof.Rows
section
variable {X : Cx} {tg : Expr}
theorem call_isi_list : CallR X (.builtin "isinstance") (fun xs H Q => ∃ a ys, xs = [.ref a, .ty "list"] ∧ SqL X.K H a ys ∧ Q (.bl true) H) := by
  intro pins s σ H xs us Q I r h
  obtain ⟨a, ys, rfl, hq, q⟩ := h
  cases r with
  | cons r1 r =>
    cases r with
    | cons r2 r =>
      cases r
      cases r1
      cases r2
      obtain ⟨its, rv, p, hz⟩ := I.list hq
      obtain ⟨o, n, e, hc, _⟩ := p
      exact IsiPair.list_list e hc ⟨.bl true, H, I, rfl, q⟩
theorem call_isi_tuple : CallR X (.builtin "isinstance") (fun xs H Q => ∃ a ys, xs = [.ref a, .ty "tuple"] ∧ SqT X.K H a ys ∧ Q (.bl true) H) := by
  intro pins s σ H xs us Q I r h
  obtain ⟨a, ys, rfl, hq, q⟩ := h
  cases r with
  | cons r1 r =>
    cases r with
    | cons r2 r =>
      cases r
      cases r1
      cases r2
      obtain ⟨its, rv, p, hz⟩ := I.tuple hq
      obtain ⟨o, e, hc, _⟩ := p
      exact IsiPair.tuple_tuple e hc ⟨.bl true, H, I, rfl, q⟩
end
end L2
namespace L2
open PySem PySem.Spec PyProof.Rows
noncomputable def txtOf : Value → Str
  | .str x _ => x
  | _ => ⟨#[]⟩
noncomputable def SSet (P : Program) (w : World) (h : Heap) (a : Addr) (ss : List Str) : Prop :=
  ∃ o es ep t, h.get? a = some o ∧ o.ExactSet ∧ o.data = .set es ep t ∧ ElemsOf (strKind P w) es.toList ∧ es.toList.map (fun e => txtOf e.2) = ss ∧ ss.Nodup ∧ es.size < scanBound ∧ t.fits es.size = true ∧
    t.led = !w.params.followText "set-order" ∧ (1 ≤ es.size → t.plain = false)
section
variable {P : Program} {w : World} {A : Around} {E : Value → Shared → Prop} {s : Shared}
end
end L2
namespace L2
open PySem PySem.Spec PyProof.Rows
section
variable {P : Program} {w : World} {A : Around} {R : Result → Shared → Prop} {I : Addr} {fp wr : List Addr} {G : Array GenState → Array GenState → Prop} {n : Nat} {Pv : Nat → Value → Prop} {St : Nat → Shared → Prop}
end
section
variable {P : Program} {w : World} {A : Around} {E : Value → Shared → Prop} {s : Shared}
end
end L2
namespace L2
open PySem PySem.Spec PyProof.Rows
namespace SF
end SF
end L2
namespace L2
open PySem PySem.Spec PyProof.Rows
section
variable {P : Program} {w : World} {A : Around} {E : Value → Shared → Prop}
end
inductive Ord (w : World) (S : Addr) (es : Array (Int × Value)) (ep : Nat) (t : SetTable) (h : Heap) : Value → Nat → List Value → Prop
  | text (i : Nat) : w.params.followText "set-order" = true → Ord w S es ep t h (.int 0 0) i ((pickOrder (w.params.setOrder S ep) es).toList.map (·.2))
  | drawn (i : Nat) (T : Addr) (ps : List Nat) : w.params.followText "set-order" = false → IsTup h T (ps.map fun (p : Nat) => Value.int p 0).toArray → (∀ p ∈ ps, p < es.size) → Ord w S es ep t h (.ref T) i (ps.filterMap fun p => (es[p]?).map (·.2))
  | none (k i : Nat) : w.params.followText "set-order" = false → es.size = 0 → Ord w S es ep t h (.int k 0) i []
  | one0 (e : Int × Value) : w.params.followText "set-order" = false → es = #[e] → Ord w S es ep t h (.int 0 0) 0 [e.2]
  | one1 (e : Int × Value) (j : Nat) : w.params.followText "set-order" = false → es = #[e] → t.place = #[j] → Ord w S es ep t h (.int (j + 1 : Nat) 0) 1 [e.2]
section
variable {P : Program} {w : World} {A : Around} {E : Value → Shared → Prop} {s : Shared}
end
section
variable {P : Program} {w : World} {A : Around}
end
section
variable {X : Cx}
noncomputable def SetO (P : Program) (w : World) (a : Addr) (ss : List Str) : HO := .ext fun h => SSet P w h a ss
end
end L2
namespace L2
open PySem PySem.Spec PyProof.Rows
section
variable {P : Program} {w : World} {K : PySem.W.Frag} {mg : Str → Option Value} {base : Heap} {N : List Str} {qual : Str} {scope : Scope} {f : Addr} {cd : Value} {A : Around} {outer : List Env} {s₀ : Shared} {H₀ : Hp} {E : XK}
end
section
variable {P : Program} {w : World} {K : PySem.W.Frag} {mg : Str → Option Value} {base : Heap} {N : List Str} {qual : Str} {scope : Scope} {f : Addr} {cd : Value} {A : Around} {outer : List Env} {s₀ : Shared} {H₀ : Hp} {E : XK}
end
section
variable {X : Cx} {E : XK} {x : Str} {C : Addr} {B newId initId : String} {bmB : List Value} {np cpos pos : Pos} {e : Expr} {es : List Expr} {t : TA}
end
end L2
namespace L2
open PySem PySem.Spec PyProof.Rows
section
variable {X : Cx} {pins₀ : List (Addr × Obj)} {E : XK}
theorem Inv.track {Y : Cx} {pins : List (Addr × Obj)} {σ : St} {H : Hp} {s : Shared} {a : Addr} {o : HO} (I : Inv Y pins σ H s) (hn : H a = none) (h0 : Y.s₀.heap.get? a = none) (hL : a ≠ Y.env.locals) (hc : ∀ x c, Y.env.cells.lookup x = some c → c ≠ a)
    (hp : ∀ p ∈ Y.pn ++ pins, p.1 ≠ a) (ho : ObjOk Y.prog Y.w (upd H a o) s.heap a o) : Inv Y pins σ (upd H a o) s := by
  have keep : ∀ b u, H b = some u → upd H a o b = some u := fun b u e => by rw [upd_ne (ne_of_none e hn)]; exact e
  refine ⟨I.ok, I.os, I.bare, ⟨I.base.keep, I.base.slot, fun b ob e n hx => ?_, I.base.there, fun b xs e => keep b _ (I.base.tups b xs e), fun b ob xs e => keep b _ (I.base.frzs b ob xs e), fun b ps e => ?_⟩, I.loc, I.cell, ?_, fun x c e => ?_, fun p q => ?_, fun b u e => ?_, I.len⟩
  · have : b ≠ a := fun z => by rw [z, h0] at e; cases e
    rw [upd_ne this]; exact I.base.free b ob e n hx
  · obtain ⟨m, e'⟩ := I.base.tbls b ps e
    exact ⟨m, keep b _ e'⟩
  · rw [upd_ne (Ne.symm hL)]; exact I.free
  · rw [upd_ne (hc x c e)]; exact I.freeC x c e
  · obtain ⟨p1, p2, p3⟩ := I.pin p q
    exact ⟨p1, by rw [upd_ne (hp p q)]; exact p2, p3⟩
  · by_cases hb : b = a
    · subst hb; rw [upd_same] at e; cases e; exact ho
    · rw [upd_ne hb] at e
      exact (I.hok b u e).stay (fun _ _ _ q => q) (fun c q => keep c _ q) fun c xs q => keep c _ q
end
section
variable {X : Cx} {E : XK} {c n : Str} {C : Addr} {i : Nat} {body suite : List Stmt} {b₀ : Stmt} {tb ts : TS} {np hpos pos : Pos}
end
end L2
namespace L2
open PySem PySem.Spec PyProof.Rows PySem.Builtin PySem.Builtin.ObjectAttr PySem.Builtin.Getset_descriptor
section
variable {prog : Program} {w : World} {A : Around} {E : Value → Shared → Prop} {h : Heap} {g : Array GenState} {d : Drawn} {t : Nat} {os : OsState} {K : PySem.W.Frag} {a C : Addr} {o : Obj}
end
section
variable {X : Cx}
end
end L2
namespace L2
open PySem PySem.Spec PyProof.Rows
mutual
inductive Dp (K : PySem.W.Frag) (H : Hp) : V → PyData → Prop
  | non : Dp K H .non .none
  | bl (b : Bool) : Dp K H (.bl b) (.bool b)
  | int (i : Int) : Dp K H (.int i) (.int i)
  | str (x : Str) : Dp K H (.str x) (.str x)
  | lst {a : Addr} {xs : List V} {ds : List PyData} : SqL K H a xs → DpAll K H xs ds → Dp K H (.ref a) (.list ds)
  | tup {a : Addr} {xs : List V} {ds : List PyData} : SqT K H a xs → DpAll K H xs ds → Dp K H (.ref a) (.tuple ds)
inductive DpAll (K : PySem.W.Frag) (H : Hp) : List V → List PyData → Prop
  | nil : DpAll K H [] []
  | cons {v : V} {vs : List V} {d : PyData} {ds : List PyData} : Dp K H v d → DpAll K H vs ds → DpAll K H (v :: vs) (d :: ds)
end
section
variable {X : Cx} {pins : List (Addr × Obj)} {σ : St} {H : Hp} {s : Shared}
mutual
theorem Dp.reads (I : Inv X pins σ H s) : ∀ {v : V} {d : PyData}, Dp X.K H v d → ∀ {u : Value}, RelV v u → ∃ as, Reads s.heap u d as
  | _, _, .non, _, r => by cases r; exact ⟨_, .none⟩
  | _, _, .bl b, _, r => by cases r; exact ⟨_, .bool b⟩
  | _, _, .int i, _, r => by obtain ⟨t, rfl⟩ := r; exact ⟨_, .int i t⟩
  | _, _, .str x, _, r => by obtain ⟨t, rfl⟩ := r; exact ⟨_, .str x t⟩
  | _, _, .lst hs ha, _, r => by
    cases r
    obtain ⟨its, rv, ⟨o, n, e, hc, _, hd⟩, _⟩ := I.list hs
    obtain ⟨as, ra⟩ := DpAll.reads I ha rv
    exact ⟨_, .list e hc hd (by simpa using ra)⟩
  | _, _, .tup hs ha, _, r => by
    cases r
    obtain ⟨its, rv, ⟨o, e, hc, n, hd⟩, _⟩ := I.tuple hs
    obtain ⟨as, ra⟩ := DpAll.reads I ha rv
    exact ⟨_, .tuple e hc hd (by simpa using ra)⟩
theorem DpAll.reads (I : Inv X pins σ H s) : ∀ {vs : List V} {ds : List PyData}, DpAll X.K H vs ds → ∀ {us : List Value}, Vals vs us → ∃ as, ReadsAll s.heap us ds as
  | _, _, .nil, _, r => by cases r; exact ⟨_, .nil⟩
  | _, _, .cons h1 h2, _, r => by
    cases r with
    | cons r1 r2 =>
      obtain ⟨as, q1⟩ := Dp.reads I h1 r1
      obtain ⟨bs, q2⟩ := DpAll.reads I h2 r2
      exact ⟨_, .cons q1 q2⟩
end
end
noncomputable def EqOk (d : PyData) : Prop := d.canLay0 = true ∧ d.depth ≤ 16
section
variable {X : Cx}
noncomputable def rEqD (K : PySem.W.Frag) : R2 := fun x y H Q => ∃ dx dy, Dp K H x dx ∧ Dp K H y dy ∧ EqOk dx ∧ EqOk dy ∧ Q (.bl (PyData.eqv dx dy)) H
noncomputable def rNeD (K : PySem.W.Frag) : R2 := fun x y H Q => ∃ dx dy, Dp K H x dx ∧ Dp K H y dy ∧ EqOk dx ∧ EqOk dy ∧ Q (.bl (!PyData.eqv dx dy)) H
theorem op_eqD (hu : X.A.units + 32 < cLine) : OpR X (compareOp .Eq) (rEqD X.K) := by
  intro pins s σ H x y v u Q I rx ry h
  obtain ⟨dx, dy, h1, h2, o1, o2, q⟩ := h
  obtain ⟨as, ra⟩ := Dp.reads I h1 rx
  obtain ⟨bs, rb⟩ := Dp.reads I h2 ry
  exact SeqAt.compareEq_reads ra rb o1.1 o2.1 (by have := o1.2; have := Nat.min_le_left dx.depth dy.depth; omega) ⟨.bl _, H, I, rfl, q⟩
theorem op_neD (hu : X.A.units + 32 < cLine) : OpR X (compareOp .NotEq) (rNeD X.K) := by
  intro pins s σ H x y v u Q I rx ry h
  obtain ⟨dx, dy, h1, h2, o1, o2, q⟩ := h
  obtain ⟨as, ra⟩ := Dp.reads I h1 rx
  obtain ⟨bs, rb⟩ := Dp.reads I h2 ry
  exact SeqAt.compareNe_reads ra rb o1.1 o2.1 (by have := o1.2; have := Nat.min_le_left dx.depth dy.depth; omega) ⟨.bl _, H, I, rfl, q⟩
end
noncomputable def dStrs (r : List Str) : List PyData := r.map .str
noncomputable def dRow (r : List Str) : PyData := .tuple (dStrs r)
noncomputable def RowAt (K : PySem.W.Frag) (H : Hp) (a : Addr) (r : List Str) : Prop := SqT K H a (r.map V.str)
noncomputable def RowsAt (K : PySem.W.Frag) (H : Hp) (a : Addr) (rs : List (List Str)) : Prop := ∃ as : List Addr, H a = some (.lst (as.map V.ref)) ∧ Paired (fun b r => RowAt K H b r) as rs
theorem Same.seqT {K : PySem.W.Frag} {H H' : Hp} {a : Addr} {xs : List V} (e : Same H H') (h : SqT K H a xs) : SqT K H' a xs := by
  rcases h with (h | ⟨o, h⟩) | h
  · exact .inl (.inl (e _ _ h))
  · exact .inl (.inr ⟨o, e _ _ h⟩)
  · exact .inr h
theorem RowAt.same {K : PySem.W.Frag} {H H' : Hp} {a : Addr} {r : List Str} (h : RowAt K H a r) (e : Same H H') : RowAt K H' a r := e.seqT h
theorem RowsAt.same {K : PySem.W.Frag} {H H' : Hp} {a : Addr} {rs : List (List Str)} (h : RowsAt K H a rs) (e : Same H H') : RowsAt K H' a rs := by
  obtain ⟨as, h1, h2⟩ := h
  exact ⟨as, e _ _ h1, Paired.mapP h2 fun b r z => z.same e⟩
theorem dp_strs {K : PySem.W.Frag} {H : Hp} : ∀ r : List Str, DpAll K H (r.map V.str) (dStrs r)
  | [] => .nil
  | x :: r => .cons (.str x) (dp_strs r)
theorem RowAt.dp {K : PySem.W.Frag} {H : Hp} {a : Addr} {r : List Str} (h : RowAt K H a r) : Dp K H (.ref a) (dRow r) := .tup h (dp_strs r)
theorem dp_rows {K : PySem.W.Frag} {H : Hp} : ∀ {as : List Addr} {rs : List (List Str)}, Paired (fun b r => RowAt K H b r) as rs → DpAll K H (as.map V.ref) (rs.map dRow)
  | _, _, .nil => .nil
  | _, _, .cons h1 h2 => .cons h1.dp (dp_rows h2)
theorem RowsAt.dp {K : PySem.W.Frag} {H : Hp} {a : Addr} {rs : List (List Str)} (h : RowsAt K H a rs) : Dp K H (.ref a) (.list (rs.map dRow)) := by
  obtain ⟨as, h1, h2⟩ := h
  exact .lst (SqL.of h1) (dp_rows h2)
theorem same_new {H : Hp} {p : Addr} (h : H p = none) (o : HO) : Same H (upd H p o) := fun b u q => by rw [upd_ne (ne_of_none q h)]; exact q
end L2
namespace L2
open PySem PySem.Spec PyProof.Rows
section
variable {X : Cx} {o e : Expr} {to : TE} {t : TA} {apos cpos : Pos}
end
end L2
namespace L2
open PySem PySem.Spec PyProof.Rows PySem.Builtin PySem.Builtin.Str
noncomputable def cutS (z : Str) (lo hi : Option Int) : Str := ⟨((z.cps.toList.drop (HT.sIx z.length 0 lo)).take (HT.sIx z.length z.length hi - HT.sIx z.length 0 lo)).toArray⟩
theorem sIx_le (n d : Nat) (hd : d ≤ n) (v : Option Int) (hv : ∀ i, v = some i → -(n : Int) ≤ i ∨ 0 ≤ i ∨ True) : HT.sIx n d v ≤ n := by
  cases v with
  | none => exact hd
  | some i =>
    show (if i < 0 then (i + (n : Int)).toNat else min i.toNat n) ≤ n
    split <;> omega
theorem clip_sIx (n d : Nat) (hd : d ≤ n) (v : Option Int) : (match v with | none => (d : Int) | some i => max 0 (min (if i < 0 then i + (n : Int) else i) (n : Int))) = ((HT.sIx n d v : Nat) : Int) := by
  cases v with
  | none => rfl
  | some i =>
    show max 0 (min (if i < 0 then i + (n : Int) else i) (n : Int)) = ((if i < 0 then (i + (n : Int)).toNat else min i.toNat n : Nat) : Int)
    split <;> omega
theorem idx_sIx (lo hi : Option Int) (n : Nat) : strSliceIndices lo hi 1 n = (List.range (HT.sIx n n hi - HT.sIx n 0 lo)).map (fun k => HT.sIx n 0 lo + k) := by
  have e1 := clip_sIx n 0 (Nat.zero_le _) lo
  have e2 := clip_sIx n n (Nat.le_refl _) hi
  have key : strSliceIndices lo hi 1 n = sliceRange ((HT.sIx n 0 lo : Nat) : Int) ((HT.sIx n n hi : Nat) : Int) 1 := by
    rw [← e1, ← e2]
    cases lo <;> cases hi <;> rfl
  rw [key]
  generalize HT.sIx n 0 lo = a
  generalize HT.sIx n n hi = b
  unfold sliceRange
  simp only [show ((1 : Int) > 0) = True from by simp, if_true]
  by_cases h : (a : Int) < b
  · rw [if_pos h]
    have e3 : (((b : Int) - a + 1 - 1) / 1).toNat = b - a := by omega
    rw [e3]
    refine List.map_congr_left fun k _ => ?_
    omega
  · rw [if_neg h]
    have e4 : b - a = 0 := by omega
    rw [e4]
    rfl
theorem picks_cut (z : Str) (lo hi : Option Int) : ((strSliceIndices lo hi 1 z.length).filterMap (z.cps[·]?)) = (z.cps.toList.drop (HT.sIx z.length 0 lo)).take (HT.sIx z.length z.length hi - HT.sIx z.length 0 lo) := by
  rw [idx_sIx]
  have hz : z.length = z.cps.toList.length := by simp [Str.length]
  have hb : HT.sIx z.length z.length hi ≤ z.length := sIx_le _ _ (Nat.le_refl _) hi fun _ _ => .inr (.inr trivial)
  generalize HT.sIx z.length 0 lo = a at *
  generalize HT.sIx z.length z.length hi = b at *
  by_cases h : a ≤ b
  · have := StrLaws.picks z.cps.toList (b - a) a (by omega)
    simpa using this
  · have e : b - a = 0 := by omega
    rw [e]
    simp
section
variable {X : Cx}
noncomputable def rSlS : V → Option Int → Option Int → Hp → VK → Prop := fun x lo hi H Q => ∃ z, x = .str z ∧ z.length ≤ sizeLine ∧ Q (.str (cutS z lo hi)) H
theorem sl_str : SlR X rSlS := by
  intro pins s σ H x v vl vu lo hi sl Q I rx hs pl pu h
  obtain ⟨z, rfl, hz, q⟩ := h
  obtain ⟨t, rfl⟩ := rx
  refine ⟨"str", _, PySem.F.slot_str_getitem.lookup, typeIs_str s z t, ?_⟩
  obtain ⟨l, hl, el⟩ : ∃ l : Option (Int × Tok), partValue l = vl ∧ l.map (·.1) = lo := by
    cases pl with
    | none => exact ⟨none, rfl, rfl⟩
    | int i t => exact ⟨some (i, t), rfl, rfl⟩
  obtain ⟨u, hu, eu⟩ : ∃ u : Option (Int × Tok), partValue u = vu ∧ u.map (·.1) = hi := by
    cases pu with
    | none => exact ⟨none, rfl, rfl⟩
    | int i t => exact ⟨some (i, t), rfl, rfl⟩
  have hS : s.heap.IsSlice sl l u none := by
    obtain ⟨o, ho, hc, hd⟩ := hs
    exact ⟨o, ho, hc, by rw [hd, hl, hu]; rfl⟩
  refine getItem_meets (typeIs_str s z t) (by decide) PySem.F.slot_str_getitem PySem.F.entry_str_getitem (PySem.F.args_str_getitem_2 _ _) (meets_str_getitem_slice z t sl l u none (by decide)) ⟨hS, ?_⟩
  have epick : slicePicked z l u none = strSliceIndices lo hi 1 z.length := by
    unfold slicePicked
    rw [el, eu]
    rfl
  have ecut : ((slicePicked z l u none).filterMap (z.cps[·]?)) = (z.cps.toList.drop (HT.sIx z.length 0 lo)).take (HT.sIx z.length z.length hi - HT.sIx z.length 0 lo) := by rw [epick]; exact picks_cut z lo hi
  unfold sliceMade
  split
  · rename_i hw
    have hlen : (slicePicked z l u none).length = z.length := by simpa using hw
    have eq : cutS z lo hi = z := by
      have e1 : ((z.cps.toList.drop (HT.sIx z.length 0 lo)).take (HT.sIx z.length z.length hi - HT.sIx z.length 0 lo)) = z.cps.toList := by
        rw [epick, idx_sIx, List.length_map, List.length_range] at hlen
        have hb : HT.sIx z.length z.length hi ≤ z.length := sIx_le _ _ (Nat.le_refl _) hi fun _ _ => .inr (.inr trivial)
        rcases Nat.eq_zero_or_pos z.length with h0 | h0
        · have : z.cps.toList = [] := by
            have : z.cps.toList.length = 0 := by simpa [Str.length] using h0
            exact List.eq_nil_of_length_eq_zero this
          rw [this]; simp
        · have ea : HT.sIx z.length 0 lo = 0 := by omega
          have eb : HT.sIx z.length z.length hi = z.length := by omega
          rw [ea, eb, List.drop_zero, Nat.sub_zero]
          exact List.take_of_length_le (by simp [Str.length])
      unfold cutS
      rw [e1]
    rw [eq] at q
    exact ⟨.str z, H, I, ⟨t, rfl⟩, q⟩
  · show (Made.str _).post _ s
    rw [ecut]
    refine ⟨?_, .str (cutS z lo hi), H, I.tok _, ⟨_, rfl⟩, q⟩
    refine Nat.le_trans ?_ hz
    show ((z.cps.toList.drop (HT.sIx z.length 0 lo)).take (HT.sIx z.length z.length hi - HT.sIx z.length 0 lo)).toArray.size ≤ z.cps.size
    rw [List.size_toArray, List.length_take, List.length_drop, Array.length_toList]
    omega
end
end L2
namespace L2
open PySem PySem.Spec PyProof.Rows
theorem relabel_none {sc : Scope} {env : Env} (hfree : ∀ y ∈ sc.names, y.2 ≠ .free) (hcell : ∀ y ∈ sc.names, y.2 ≠ .cell) (y : Str) (h : (relabel sc env).names.lookup y = some .cell ∨ (relabel sc env).names.lookup y = some .free) : False := by
  have key : ∀ k, (relabel sc env).names.lookup y = some k → ∃ z ∈ sc.names, z.2 = k ∨ z.2 = .free := fun k e => by
    have hm := PySem.mem_of_lookup e
    obtain ⟨z, hz, ez⟩ := List.mem_map.mp hm
    refine ⟨z, hz, ?_⟩
    obtain ⟨n, kk⟩ := z
    dsimp only at ez
    split at ez
    · rename_i hc
      simp only [Bool.and_eq_true, beq_iff_eq] at hc
      exact .inr hc.1.1
    · exact .inl (congrArg Prod.snd ez)
  rcases h with h | h
  · obtain ⟨z, hz, q | q⟩ := key _ h
    · exact hcell z hz q
    · exact hfree z hz q
  · obtain ⟨z, hz, q | q⟩ := key _ h
    · exact hfree z hz q
    · exact hfree z hz q
theorem pe_comp0 {X : Cx} {elt iter : Expr} {x : Str} {px pos : Pos} {ifs : List Expr} {sc : Scope} {wi : TI} {tc : TT} {te : TE} (hi : PI X (.Name x px) iter wi) (hif : ∀ s H C ex, PTs (blk X [x] s H sc [] C ex) ifs tc) (he : ∀ s H C ex, PE (blk X [x] s H sc [] C ex) elt te)
    (hc : X.calm = true := by rfl) (hkind : sc.kind = .function := by rfl) (hx : sc.names.lookup x = some .local := by decide +kernel) (hfree : ∀ y ∈ sc.names, y.2 ≠ .free := by decide +kernel) (hcell : ∀ y ∈ sc.names, y.2 ≠ .cell := by decide +kernel)
    (hnames : ∀ y ∈ sc.names, y.2 = .local → sc.names.lookup y.1 = some .local := by decide +kernel) (hs : ∀ x, foldedSetIterable iter X.env x = pure x := by intro _; rfl) :
    PE X (.ListComp elt [⟨.Name x px, iter, ifs, 0⟩] sc pos) (tComp [] wi tc te) :=
  pe_comp [x] hc hi hif he hkind rfl (by simp) hx (PySem.closureFor_none hfree) hcell hnames (fun y c e => by simp at e) (fun y h => (relabel_none hfree hcell y h).elim) (fun j hj => by simp at hj) hs
structure JSeq (J : It) (I0 : Hp → Prop) (xs : List V) : Prop where
  go : ∀ i H, I0 H → i < xs.length → J.go i H
  stop : ∀ i H, I0 H → xs.length ≤ i → J.stop i H
  yld : ∀ i H x H', i < xs.length → I0 H → J.yld i H x H' → H' = H ∧ xs[i]? = some x
  stay : ∀ H H', I0 H → Same H H' → I0 H'
theorem jseq_tup {K : PySem.W.Frag} {a : Addr} {xs : List V} : JSeq (Itt K a) (fun H => SqT K H a xs) xs where
  go := fun i H h hi => ⟨xs, xs[i], h, by simp [hi]⟩
  stop := fun i H h hi => ⟨xs, h, hi⟩
  yld := fun i H x H' _ h y => ⟨y.1, y.2 xs h⟩
  stay := fun H H' h e => e.seqT h
theorem jseq_list {K : PySem.W.Frag} {a : Addr} {xs : List V} : JSeq (Itl K a) (fun H => SqL K H a xs) xs where
  go := fun i H h hi => ⟨xs, xs[i], h, by simp [hi]⟩
  stop := fun i H h hi => ⟨xs, h, hi⟩
  yld := fun i H x H' _ h y => ⟨y.1, y.2 xs h⟩
  stay := fun H H' h e => e.seq h
noncomputable def nums (lo : Int) (n : Nat) : List V := (List.range n).map fun i => V.int (lo + (i : Nat))
theorem jseq_rng {lo : Int} {n : Nat} : JSeq (Itr lo n) (fun _ => True) (nums lo n) where
  go := fun i H _ hi => by simpa [nums, Itr] using hi
  stop := fun i H _ hi => by simpa [nums, Itr] using hi
  yld := fun i H x H' hi _ y => by
    refine ⟨y.1, ?_⟩
    have hi' : i < n := by simpa [nums] using hi
    have e : x = .int (lo + i) := y.2
    unfold nums
    rw [List.getElem?_map, List.getElem?_range hi', e]; rfl
  stay := fun _ _ _ _ => trivial
theorem Paired.snocP {α β : Type} {F : α → β → Prop} {x : α} {y : β} : ∀ {l₁ : List α} {l₂ : List β}, Paired F l₁ l₂ → F x y → Paired F (l₁ ++ [x]) (l₂ ++ [y])
  | _, _, .nil, h => .cons h .nil
  | _, _, .cons h₁ t, h => .cons h₁ (Paired.snocP t h)
noncomputable def SameX (D : Addr) (H H' : Hp) : Prop := ∀ b u, H b = some u → b ≠ D → H' b = some u
theorem Same.x {H H' : Hp} (e : Same H H') (D : Addr) : SameX D H H' := fun b u q _ => e b u q
theorem comp_rel {J : It} {H1 : Hp} {σ : St} {ix : List Nat} {tc : TT} {te : TE} {Q : VK} {I0 : Hp → Prop} (xs : List V) (p : V → Bool) (R : Addr → V → V → Hp → Prop) (hJ : JSeq J I0 xs) (h0 : I0 H1) (hz : xs.length ≤ sizeLine) (hR : ∀ D x y H H', R D x y H → SameX D H H' → R D x y H')
    (hc : ∀ x ∈ xs, ∀ H2, Same H1 H2 → ∀ Q' : Bool → Hp → Prop, (∀ H3, Same H2 H3 → Q' (p x) H3) → tc (some x :: frees σ ix) H2 Q')
    (he : ∀ D, ∀ x ∈ xs, p x = true → ∀ H2, Same H1 H2 → H2 D ≠ none → ∀ Q' : VK, (∀ y H3, Same H2 H3 → R D x y H3 → Q' y H3) → te (some x :: frees σ ix) H2 Q')
    (hQ : ∀ D H' ys, H1 D = none → Same H1 H' → H' D = some (.lst ys) → Paired (fun x y => R D x y H') (xs.filter p) ys → Q (.ref D) H') :
    CompGo J H1 σ ix tc te Q := by
  intro D hD
  have put : ∀ H ys, Same H1 H → Same H1 (upd H D (.lst ys)) := fun H ys e b u q => by rw [upd_ne (ne_of_none q hD)]; exact e b u q
  refine ⟨fun i m H => i ≤ xs.length ∧ m = xs.length - i ∧ Same H1 H ∧ ∃ ys, H D = some (.lst ys) ∧ Paired (fun x y => R D x y H) ((xs.take i).filter p) ys, ⟨xs.length, Nat.zero_le _, rfl, put _ _ (Same.refl _), [], upd_same, by simpa using Paired.nil⟩, ?_⟩
  rintro i m H ⟨hi, rfl, e, ys, hy, hp⟩
  have hI := hJ.stay _ _ h0 e
  by_cases hlt : i < xs.length
  · refine .inr ⟨hJ.go i H hI hlt, fun x H' hy' => ?_⟩
    obtain ⟨rfl, hx⟩ := hJ.yld i H x H' hlt hI hy'
    have hm : x ∈ xs := List.mem_of_getElem? hx
    have ht : xs.take (i + 1) = xs.take i ++ [x] := by rw [List.take_add_one, hx]; rfl
    have hlen : ys.length ≤ i := by
      have h1 := Paired.length hp
      have h2 := List.length_filter_le p (xs.take i)
      rw [List.length_take] at h2
      omega
    refine hc x hm _ e _ fun H3 e3 => ?_
    cases hpx : p x with
    | false =>
      rw [if_neg Bool.false_ne_true]
      refine ⟨xs.length - (i + 1), by omega, hlt, rfl, e.trans e3, ys, e3 _ _ hy, ?_⟩
      rw [ht, List.filter_append]
      simp only [List.filter_cons, hpx, List.filter_nil, List.append_nil, Bool.false_eq_true, if_false]
      exact Paired.mapP hp fun x y z => hR _ _ _ _ _ z (e3.x D)
    | true =>
      rw [if_pos rfl]
      refine he D x hm hpx _ (e.trans e3) (by rw [e3 _ _ hy]; simp) _ fun y H4 e4 hr => ?_
      have e5 : SameX D H4 (upd H4 D (.lst (ys ++ [y]))) := fun b u q hb => by rw [upd_ne hb]; exact q
      refine ⟨ys, e4 _ _ (e3 _ _ hy), by omega, xs.length - (i + 1), by omega, hlt, rfl, put _ _ (e.trans (e3.trans e4)), ys ++ [y], upd_same, ?_⟩
      rw [ht, List.filter_append]
      simp only [List.filter_cons, hpx, List.filter_nil, if_true]
      exact Paired.snocP (Paired.mapP hp fun x y z => hR _ _ _ _ _ (hR _ _ _ _ _ z ((e3.trans e4).x D)) e5) (hR _ _ _ _ _ hr e5)
  · have hi' : i = xs.length := by omega
    subst hi'
    refine .inl ⟨hJ.stop _ H hI (Nat.le_refl _), ?_⟩
    rw [List.take_length] at hp
    exact hQ D H ys hD e hy hp
theorem paired_map {α β : Type} {f : α → β} : ∀ {l : List α} {l' : List β}, Paired (fun x y => y = f x) l l' → l' = l.map f
  | _, _, .nil => rfl
  | _, _, .cons h t => by rw [h, paired_map t]; rfl
theorem comp_map {J : It} {H1 : Hp} {σ : St} {ix : List Nat} {tc : TT} {te : TE} {Q : VK} {I0 : Hp → Prop} (xs : List V) (p : V → Bool) (f : V → V) (hJ : JSeq J I0 xs) (h0 : I0 H1) (hz : xs.length ≤ sizeLine)
    (hc : ∀ x ∈ xs, ∀ H2, Same H1 H2 → ∀ Q' : Bool → Hp → Prop, (∀ H3, Same H2 H3 → Q' (p x) H3) → tc (some x :: frees σ ix) H2 Q')
    (he : ∀ x ∈ xs, p x = true → ∀ H2, Same H1 H2 → ∀ Q' : VK, (∀ H3, Same H2 H3 → Q' (f x) H3) → te (some x :: frees σ ix) H2 Q')
    (hQ : ∀ D H', H1 D = none → Same H1 H' → H' D = some (.lst ((xs.filter p).map f)) → Q (.ref D) H') :
    CompGo J H1 σ ix tc te Q :=
  comp_rel xs p (fun _ x y _ => y = f x) hJ h0 hz (fun _ _ _ _ _ h _ => h) hc (fun _ x hx hp H2 e _ Q' q => he x hx hp H2 e Q' fun H3 e3 => q _ H3 e3 rfl) fun D H' ys hD e hy hp => hQ D H' hD e (by rw [hy, paired_map hp])
theorem comp_ix {J : It} {H1 : Hp} {σ : St} {ix : List Nat} {te : TE} {Q : VK} {I0 : Hp → Prop} (xs : List V) (ws : List V) (hJ : JSeq J I0 xs) (h0 : I0 H1) (hz : xs.length ≤ sizeLine) (hl : ws.length = xs.length)
    (he : ∀ (i : Nat) (x y : V), xs[i]? = some x → ws[i]? = some y → ∀ H2, Same H1 H2 → ∀ Q' : VK, (∀ H3, Same H2 H3 → Q' y H3) → te (some x :: frees σ ix) H2 Q')
    (hQ : ∀ D H', H1 D = none → Same H1 H' → H' D = some (.lst ws) → Q (.ref D) H') : CompGo J H1 σ ix tYes te Q := by
  intro D hD
  have put : ∀ H ys, Same H1 H → Same H1 (upd H D (.lst ys)) := fun H ys e b u q => by rw [upd_ne (ne_of_none q hD)]; exact e b u q
  refine ⟨fun i m H => i ≤ xs.length ∧ m = xs.length - i ∧ Same H1 H ∧ H D = some (.lst (ws.take i)), ⟨xs.length, Nat.zero_le _, rfl, put _ _ (Same.refl _), by rw [upd_same, List.take_zero]⟩, ?_⟩
  rintro i m H ⟨hi, rfl, e, hy⟩
  have hI := hJ.stay _ _ h0 e
  by_cases hlt : i < xs.length
  · refine .inr ⟨hJ.go i H hI hlt, fun x H' hy' => ?_⟩
    obtain ⟨rfl, hx⟩ := hJ.yld i H x H' hlt hI hy'
    have hw : ws[i]? = some ws[i] := List.getElem?_eq_getElem (by omega)
    unfold tYes
    dsimp only
    rw [if_pos rfl]
    refine he i x ws[i] hx hw _ e _ fun H3 e3 => ?_
    refine ⟨ws.take i, e3 _ _ hy, by rw [List.length_take]; omega, xs.length - (i + 1), by omega, hlt, rfl, put _ _ (e.trans e3), ?_⟩
    rw [upd_same, List.take_add_one, hw]; rfl
  · have hi' : i = xs.length := by omega
    subst hi'
    refine .inl ⟨hJ.stop _ H hI (Nat.le_refl _), hQ D H hD e ?_⟩
    rw [hy, List.take_of_length_le (by omega)]
end L2
namespace L2
open PySem PySem.Spec PyProof.Rows
section
variable {κ : Type} [DecidableEq κ]
end
section
variable {P : Program} {w : World} {H : Hp} {h : Heap} {a : Addr}
end
section
variable {X : Cx} {pins : List (Addr × Obj)} {σ : St} {H : Hp} {s : Shared} {a : Addr} {y v : V} {u r : Value} {o : Option V} {A : Around} {E : Value → Shared → Prop}
end
section
variable {X : Cx} {pins : List (Addr × Obj)} {σ : St} {H : Hp} {s : Shared} {a : Addr} {kvs : List (Key × V)} {k : Key} {u : Value} {A : Around} {E : Value → Shared → Prop}
end
section
variable {X : Cx} {o i e value : Expr} {pos pos' tpos : Pos} {td ty tv : TE}
end
section
variable {X : Cx} {pos : Pos}
end
section
variable {X : Cx} {pins : List (Addr × Obj)} {σ : St} {H : Hp} {s : Shared} {a : Addr} {y d : V} {u r : Value} {o : Option V} {A : Around} {E : Value → Shared → Prop}
end
section
variable {X : Cx} {o e f : Expr} {apos cpos : Pos} {td ty tx : TE}
end
section
variable {X : Cx} {pins : List (Addr × Obj)} {σ : St} {H : Hp} {s : Shared} {a : Addr} {kvs : List (Key × V)} {A : Around} {E : Value → Shared → Prop}
end
section
variable {X : Cx} {pins : List (Addr × Obj)} {σ : St} {H : Hp} {s : Shared} {a : Addr} {y : V} {u : Value} {A : Around} {E : Value → Shared → Prop}
end
section
variable {X : Cx}
end
section
variable {κ : Type} [DecidableEq κ]
end
end L2
namespace L2
open PySem PySem.Spec PyProof.Rows
section
variable {X : Cx}
end
end L2
namespace L2
open PySem PySem.Spec PyProof.Rows
section
variable {X : Cx} {es es1 : List Expr} {t t1 : TA} {te : TE} {x : Str} {j : Nat} {pos pos2 : Pos}
theorem pa_str {j} (hr : PA X es t) : PA X (.Constant (.str x) j pos :: es) (tCons (tC (.str x)) t) := pa_cons pe_str hr rfl
theorem pa_int {i : Int} {j} (hr : PA X es t) : PA X (.Constant (.int i) j pos :: es) (tCons (tC (.int i)) t) := pa_cons pe_int hr rfl
theorem pa_nm (h : PE X (.Name x pos) te) (hr : PA X es t) : PA X (.Name x pos :: es) (tCons te t) := pa_cons h hr rfl
theorem pa_tp {x1} (h : PA X es1 t1) (hr : PA X es t) : PA X (.Tuple es1 x1 pos :: es) (tCons (tTup t1) t) := pa_cons (pe_tup h) hr rfl
theorem pa_ls (h : PA X es1 t1) (hr : PA X es t) : PA X (.List es1 pos :: es) (tCons (tLst t1) t) := pa_cons (pe_lst h) hr rfl
theorem pa_sub {a b : Expr} (h : PE X (.Subscript a b pos) te) (hr : PA X es t) : PA X (.Subscript a b pos :: es) (tCons te t) := pa_cons h hr rfl
theorem pa_call {f : Expr} {as : List Expr} {ks : List Keyword} (h : PE X (.Call f as ks pos) te) (hr : PA X es t) : PA X (.Call f as ks pos :: es) (tCons te t) := pa_cons h hr rfl
theorem pa_bop {a b : Expr} {op : Operator} (h : PE X (.BinOp a op b pos) te) (hr : PA X es t) : PA X (.BinOp a op b pos :: es) (tCons te t) := pa_cons h hr rfl
end
end L2
namespace L2
open PySem PySem.Spec PyProof.Rows
structure QE (X : Cx) (e : Expr) (t : TE) : Prop where
  run : PE X e t
structure QT (X : Cx) (e : Expr) (t : TT) : Prop where
  run : PT X e t
structure QW (X : Cx) (e : Expr) (t : TT) : Prop where
  run : PW X e t
structure QA (X : Cx) (es : List Expr) (t : TA) : Prop where
  run : PA X es t
structure QS (X : Cx) (st : Stmt) (t : TS) : Prop where
  run : PS X st t
structure QB (X : Cx) (st : List Stmt) (t : TS) : Prop where
  run : PSs X st t
structure QI (X : Cx) (tg iter : Expr) (wi : TI) : Prop where
  run : PI X tg iter wi
structure QG (X : Cx) (target : Expr) (t : TG) : Prop where
  run : PG X target t
structure QO (X : Cx) (e : Option Expr) (t : TO) : Prop where
  run : PO X e t
structure QTs (X : Cx) (ifs : List Expr) (t : TT) : Prop where
  run : PTs X ifs t
theorem QW.qt {X : Cx} {e : Expr} {t : TT} (h : QW X e t) : QT X e t := ⟨PW.pt h.run⟩
section
variable {st : Stmt} {id : String} {lo hi : Option Expr}
set_option autoImplicit true
set_option relaxedAutoImplicit true
theorem qb_nil  : QB X [] tNext := ⟨pss_nil ⟩
theorem qb_cons {rest : List Stmt} (h1 : QS X st t) (h2 : QB X rest u) : QB X (st :: rest) (tSeq t u) := ⟨pss_cons h1.run h2.run⟩
theorem qb_one (h1 : QS X st t) : QB X [st] t := ⟨pss_one h1.run⟩
theorem qs_if {c : Expr} {a b : List Stmt} {tc : TT} (hc : QT X c tc) (ha : QB X a t) (hb : QB X b u) : QS X (.If c a b pos) (tIfS tc t u) := ⟨ps_if hc.run ha.run hb.run⟩
theorem qs_set {i : Nat} {x : Str} {e : Expr} {te : TE} {pos' : Pos} (hN : X.N.Nodup) (hi : X.N[i]? = some x) (hx : Loc X.env.scope x) (he : QE X e te) (hs : swapsWith e (some (.Name x pos')) pos.line X.env = pure false := by rfl) (hf : X.fn x = true ∨ X.env.scope.names.lookup x = some .local := by first | exact .inl rfl | exact .inr rfl | assumption) :     QS X (.Assign [.Name x pos'] e pos) (tAsg te (gName i)) := ⟨ps_set hN hi hx he.run hs hf⟩
theorem qs_ret (he : QE X e te) : QS X (.Return (some e) pos) (tRet te) := ⟨ps_ret he.run⟩
theorem qs_expr (he : QE X e te) (hs : swapsWith e none pos.line X.env = pure false := by rfl) : QS X (.Expr e pos) (tDrop te) := ⟨ps_expr he.run hs⟩
theorem qs_for {iter : Expr} {body : List Stmt} {wi : TI} {g : TG} {tb : TS} {pos : Pos} (hp : PassesOwn (model X.prog X.w) X.A X.env X.xe) (hc : X.calm = true) (hi : QI X tg iter wi) (hg : QG X tg g) (hb : QB X body tb) (hs : ∀ x, foldedSetIterable iter X.env x = pure x := by intro _; rfl) : QS X (.For tg iter body [] pos) (tFor wi g tb) := ⟨ps_for hp hc hi.run hg.run hb.run hs⟩
theorem qs_asg {tg e : Expr} {te : TE} {g : TG} (he : QE X e te) (hg : QG X tg g) (hs : swapsWithSole [tg] e pos.line X.env = pure false := by rfl) (hw : swappedStores [tg] e X.env = pure none := by rfl) (h1 : (assignEach [tg] X.env).map (·.2) = [assign tg X.env] := by rfl) : QS X (.Assign [tg] e pos) (tAsg te g) := ⟨ps_asg he.run hg.run hs hw h1⟩
theorem qe_int {i j pos} : QE X (.Constant (.int i) j pos) (tC (.int i)) := ⟨pe_int ⟩
theorem qe_bl {b j pos} : QE X (.Constant (.bool b) j pos) (tC (.bl b)) := ⟨pe_bl ⟩
theorem qe_non {j pos} : QE X (.Constant .none j pos) (tC .non) := ⟨pe_non ⟩
theorem qe_str {x j pos} : QE X (.Constant (.str x) j pos) (tC (.str x)) := ⟨pe_str ⟩
theorem qv (i : Nat) {x : Str} {pos : Pos} (hN : X.N[i]? = some x := by rfl) (hv : Vis X.env.scope x := by first | exact Or.inl rfl | exact Or.inr (Or.inl rfl) | exact Or.inr (Or.inr rfl)) (hd : (x == ("__debug__" : Str)) = false := by decide) (hcd : (x == ("__classdict__" : Str)) = false := by decide) : QE X (.Name x pos) (tVar i) := ⟨pv i hN hv hd hcd⟩
theorem qe_op {op : Operator} {r : R2} (ho : OpR X (binaryOp op) r) (ha : QE X a ta) (hb : QE X b tb) : QE X (.BinOp a op b pos) (tOp r ta tb) := ⟨pe_op ho ha.run hb.run⟩
theorem qe_cmpR {op : CmpOp} {r : R2} (ho : OpR X (compareOp op) r) (ha : QE X a ta) (hb : QE X b tb) (hm : behindInMarks op b = false) : QE X (.Compare a [op] [b] pos) (tOp r ta tb) := ⟨pe_cmpR ho ha.run hb.run hm⟩
theorem qt_cmpR {op : CmpOp} {r : R2} (ho : OpR X (compareOp op) r) (ha : QE X a ta) (hb : QE X b tb) (hm : behindInMarks op b = false) : QT X (.Compare a [op] [b] pos) (tTest (tOp r ta tb)) := ⟨pt_cmpR ho ha.run hb.run hm⟩
theorem qt_val {e : Expr} {t : TE} (h : QE X e t) (he : ∀ whole, isTrue e X.env whole = (do let v ← whole; standAt e.pos; holding [v] (truthy v)) := by intro _; rfl) : QT X e (tB t) := ⟨pt_val h.run he⟩
theorem qt_not (ha : QT X a tA) : QT X (.UnaryOp .Not a pos) (tNot tA) := ⟨pt_not ha.run⟩
theorem qw_and1 (ha : QT X a tA) : QW X (.BoolOp .And [a] pos) tA := ⟨pw_and1 ha.run⟩
theorem qw_or1 (ha : QT X a tA) : QW X (.BoolOp .Or [a] pos) tA := ⟨pw_or1 ha.run⟩
theorem qw_and {rest : List Expr} (ha : QT X a tA) (hb : QW X (.BoolOp .And (b :: rest) pos) tB') : QW X (.BoolOp .And (a :: b :: rest) pos) (tAnd tA tB') := ⟨pw_and ha.run hb.run⟩
theorem qw_or {rest : List Expr} (ha : QT X a tA) (hb : QW X (.BoolOp .Or (b :: rest) pos) tB') : QW X (.BoolOp .Or (a :: b :: rest) pos) (tOr tA tB') := ⟨pw_or ha.run hb.run⟩
theorem qe_ifExp {c : Expr} (hc : QT X c tA) (ha : QE X a ta) (hb : QE X b tb) : QE X (.IfExp c a b pos) (tIf tA ta tb) := ⟨pe_ifExp hc.run ha.run hb.run⟩
theorem qe_ix {r : R2} (hr : IxR X r) (ha : QE X a ta) (hb : QE X b tb) (hs : PlainIx b) : QE X (.Subscript a b pos) (tOp r ta tb) := ⟨pe_ix hr ha.run hb.run hs⟩
theorem qe_slice {r : V → Option Int → Option Int → Hp → VK → Prop} (hr : SlR X r) (he : QE X e te) (hl : QO X lo tl) (hu : QO X hi th) : QE X (.Subscript e (.Slice lo hi none p2) pos) (tSl r te tl th) := ⟨pe_slice hr he.run hl.run hu.run⟩
theorem qo_none  : QO X none tNoPart := ⟨po_none ⟩
theorem qo_some (h : QE X e te) : QO X (some e) (tPart te) := ⟨po_some h.run⟩
theorem qe_tup {x1} (h : QA X es t) : QE X (.Tuple es x1 pos) (tTup t) := ⟨pe_tup h.run⟩
theorem qe_lst (h : QA X es t) : QE X (.List es pos) (tLst t) := ⟨pe_lst h.run⟩
theorem qe_call (F : FnOk X.prog X.w X.K X.mg X.base CX k f fd ps sp) (hr : Room k X.A) (hg : Gl X x) (hm : X.mg x = some (.ref f)) (hk : PySem.W.keepIn X.K (.ref f) = true) (hb : Binds X.K fd ps ds) (hd : Vals dvs ds) (hx : Passes CX X E) (ha : QA X (e :: es) t) (hdb : (x == ("__debug__" : Str)) = false := by decide) (he : starEach (e :: es) X.env = (false, eval e X.env) :: starEach es X.env := by rfl) (hpl : (backTo pos (starEach es X.env)).any (·.1) = false := by rfl) :     QE X (.Call (.Name x p) (e :: es) [] pos) (tCall sp dvs E t) := ⟨pe_call F hr hg hm hk hb hd hx ha.run hdb he hpl⟩
theorem qe_callB (hc : CallR X (.builtin id) r) (hg : Gl X x) (hm : X.mg x = none) (hv : bootBuiltins x = some (.builtin id)) (ha : QA X (e :: es) t) (hn : x ≠ "__name__" := by decide) (hdb : (x == ("__debug__" : Str)) = false := by decide) (he : starEach (e :: es) X.env = (false, eval e X.env) :: starEach es X.env := by rfl) (hpl : (backTo pos (starEach es X.env)).any (·.1) = false := by rfl) : QE X (.Call (.Name x p) (e :: es) [] pos) (tCB r t) := ⟨pe_callB hc hg hm hv ha.run hn hdb he hpl⟩
theorem qe_callTy (hc : CallR X (.type T) r) (hg : Gl X x) (hm : X.mg x = none) (hv : bootBuiltins x = some (.type T)) (ha : QA X (e :: es) t) (hn : x ≠ "__name__" := by decide) (hdb : (x == ("__debug__" : Str)) = false := by decide) (he : starEach (e :: es) X.env = (false, eval e X.env) :: starEach es X.env := by rfl) (hpl : (backTo pos (starEach es X.env)).any (·.1) = false := by rfl) : QE X (.Call (.Name x p) (e :: es) [] pos) (tCB r t) := ⟨pe_callTy hc hg hm hv ha.run hn hdb he hpl⟩
theorem qe_bm0 (pa : PlainAttrs T) (slot : Slot T name id) (hty : typeOf (.builtin id) = pure (.type "method_descriptor")) (hm : MtR X id r) (ho : QE X o to) (hbase : attributeBase o name X.env (eval o X.env) = eval o X.env := by rfl) (hline : (apos.endLine == cpos.line) = true := by rfl) : QE X (.Call (.Attribute o name apos) [] [] cpos) (tBM0 X.K T r to) := ⟨pe_bm0 pa slot hty hm ho.run hbase hline⟩
theorem qe_comp0 {X : Cx} {elt iter : Expr} {x : Str} {px pos : Pos} {ifs : List Expr} {sc : Scope} {wi : TI} {tc : TT} {te : TE} (hi : QI X (.Name x px) iter wi) (hif : ∀ s H C ex, QTs (blk X [x] s H sc [] C ex) ifs tc) (he : ∀ s H C ex, QE (blk X [x] s H sc [] C ex) elt te) (hc : X.calm = true := by rfl) (hkind : sc.kind = .function := by rfl) (hx : sc.names.lookup x = some .local := by decide +kernel) (hfree : ∀ y ∈ sc.names, y.2 ≠ .free := by decide +kernel) (hcell : ∀ y ∈ sc.names, y.2 ≠ .cell := by decide +kernel) (hnames : ∀ y ∈ sc.names, y.2 = .local → sc.names.lookup y.1 = some .local := by decide +kernel) (hs : ∀ x, foldedSetIterable iter X.env x = pure x := by intro _; rfl) :     QE X (.ListComp elt [⟨.Name x px, iter, ifs, 0⟩] sc pos) (tComp [] wi tc te) := ⟨pe_comp0 hi.run (fun z0 z1 z2 z3 => (hif z0 z1 z2 z3).run) (fun z0 z1 z2 z3 => (he z0 z1 z2 z3).run) hc hkind hx hfree hcell hnames hs⟩
theorem qi_list {l : Expr} {tl : TE} (hl : QE X l tl) : QI X tg l (iList X.K tl) := ⟨pi_list hl.run⟩
theorem qi_tup {l : Expr} {tl : TE} (hl : QE X l tl) : QI X tg l (iTup X.K tl) := ⟨pi_tup hl.run⟩
theorem qi_range1 {a : Expr} {ta : TA} {p pos : Pos} (hg : Gl X "range") (hm : X.mg "range" = none) (ha : QA X [a] ta) (hs : starEach [a] X.env = [(false, eval a X.env)] := by rfl) : QI X tg (.Call (.Name "range" p) [a] [] pos) (iRng1 ta) := ⟨pi_range1 hg hm ha.run hs⟩
theorem qg_name {i : Nat} {x : Str} (hN : X.N.Nodup) (hi : X.N[i]? = some x) (hx : Loc X.env.scope x) (hf : X.fn x = true ∨ X.env.scope.names.lookup x = some .local := by first | exact .inl rfl | exact .inr rfl | assumption) : QG X (.Name x pos) (gName i) := ⟨pg_name hN hi hx hf⟩
theorem qa_nil  : QA X [] tNil := ⟨pa_nil ⟩
theorem qa_cons (ha : QE X e te) (hr : QA X es t) (hs : starEach (e :: es) X.env = (false, eval e X.env) :: starEach es X.env := by rfl) : QA X (e :: es) (tCons te t) := ⟨pa_cons ha.run hr.run hs⟩
theorem qa_str {j} (hr : QA X es t) : QA X (.Constant (.str x) j pos :: es) (tCons (tC (.str x)) t) := ⟨pa_str hr.run⟩
theorem qa_int {i : Int} {j} (hr : QA X es t) : QA X (.Constant (.int i) j pos :: es) (tCons (tC (.int i)) t) := ⟨pa_int hr.run⟩
theorem qa_nm (h : QE X (.Name x pos) te) (hr : QA X es t) : QA X (.Name x pos :: es) (tCons te t) := ⟨pa_nm h.run hr.run⟩
theorem qa_tp {x1} (h : QA X es1 t1) (hr : QA X es t) : QA X (.Tuple es1 x1 pos :: es) (tCons (tTup t1) t) := ⟨pa_tp h.run hr.run⟩
theorem qa_ls (h : QA X es1 t1) (hr : QA X es t) : QA X (.List es1 pos :: es) (tCons (tLst t1) t) := ⟨pa_ls h.run hr.run⟩
theorem qa_sub {a b : Expr} (h : QE X (.Subscript a b pos) te) (hr : QA X es t) : QA X (.Subscript a b pos :: es) (tCons te t) := ⟨pa_sub h.run hr.run⟩
theorem qa_call {f : Expr} {as : List Expr} {ks : List Keyword} (h : QE X (.Call f as ks pos) te) (hr : QA X es t) : QA X (.Call f as ks pos :: es) (tCons te t) := ⟨pa_call h.run hr.run⟩
theorem qa_bop {a b : Expr} {op : Operator} (h : QE X (.BinOp a op b pos) te) (hr : QA X es t) : QA X (.BinOp a op b pos :: es) (tCons te t) := ⟨pa_bop h.run hr.run⟩
theorem qts_nil {X : Cx} : QTs X [] tYes := ⟨pts_nil ⟩
theorem qts_one {X : Cx} {c : Expr} {t : TT} (h : QT X c t) : QTs X [c] t := ⟨pts_one h.run⟩
end
theorem qg_sub {X : Cx} {o i : Expr} {to ti : TE} {t : TSet} {pos : Pos} (ho : QE X o to) (hi : QE X i ti) (hs : PSet X t)
    (ha : ∀ v, assign (.Subscript o i pos) X.env v = (do
      let ov ← holding [v] (eval o X.env)
      let iv ← holding [v, ov] (eval i X.env)
      standAt pos
      holding [v, ov, iv] (setItem ov iv v)
      release [v, ov, iv] []) := by intro _; rfl) : QG X (.Subscript o i pos) (gSub to ti t) := ⟨pg_sub ho.run hi.run hs ha⟩
theorem Fun.okQ {P : Program} {w : World} {K : PySem.W.Frag} {mg : Str → Option Value} {base : Heap} {x qual : Str} {st : Stmt} {f : Addr} {fd : FuncData} {N ps : List Str} {k : Nat} {sp : Sp} (F : Fun K x qual st f fd) (S : FnScope N ps (defScope st)) (len : ∀ vs H Q E, sp vs H Q E → vs.length = ps.length)
    (hbody : ∀ (cdv : Value) (A : Around) (outer : List Env) (s : Shared) (H : Hp) (vs : List V) (Q : VK) (E : XK), Room k (A.deeper (envOfC qual (defScope st) s.heap.objs.size f cdv)) → sp vs H Q E →
      ∃ t, QB (cxOf CX0 P w K mg base N qual (defScope st) f cdv A outer s H E).nox (defBody st) t ∧ t { nx := fun _ H' => Q .non H', rt := Q } (start N vs) H) : FnOk P w K mg base CX0 (k + 1) f fd ps sp :=
  F.ok S len fun cdv A outer s H vs Q E hr h => by
    obtain ⟨t, h1, h2⟩ := hbody cdv A outer s H vs Q E hr h
    exact ⟨t, h1.run, h2⟩
end L2
namespace L2
open PySem PySem.Spec PyProof.Rows
section
variable {X : Cx} {st : Stmt} {t : TS} {e : Expr} {te : TE}
end
theorem comp_str {α : Type} {J : It} {H1 : Hp} {σ : St} {ix : List Nat} {te : TE} {Q : VK} {I0 : Hp → Prop} (xs : List V) (rs : List α) (f : α → Str) (hJ : JSeq J I0 xs) (h0 : I0 H1) (hz : xs.length ≤ 1000) (hl : rs.length = xs.length)
    (he : ∀ (i : Nat) (x : V) (r : α), xs[i]? = some x → rs[i]? = some r → ∀ H2, Same H1 H2 → ∀ Q' : VK, (∀ H3, Same H2 H3 → Q' (.str (f r)) H3) → te (some x :: frees σ ix) H2 Q')
    (hQ : ∀ D H', H1 D = none → Same H1 H' → H' D = some (.lst ((rs.map f).map V.str)) → Q (.ref D) H') : CompGo J H1 σ ix tYes te Q :=
  comp_ix xs ((rs.map f).map V.str) hJ h0 (Nat.le_of_lt (small1000 hz)) (by simp [hl]) (fun i x y hx hy H2 e Q' q => by
    rw [List.getElem?_map, List.getElem?_map] at hy
    cases hr : rs[i]? with
    | none => rw [hr] at hy; cases hy
    | some r =>
      rw [hr] at hy
      have : y = .str (f r) := (Option.some.inj hy).symm
      subst this
      exact he i x r hx hr H2 e Q' q) hQ
section
variable {id : String}
set_option autoImplicit true
set_option relaxedAutoImplicit true
theorem qe_bmK {K : PySem.W.Frag} (hK : X.K = K) (pa : PlainAttrs T) (slot : Slot T name id) (hty : typeOf (.builtin id) = pure (.type "method_descriptor")) (hm : MtR X id r) (ho : QE X o to) (ha : QA X (e :: es) t) (hbase : attributeBase o name X.env (eval o X.env) = eval o X.env := by rfl) (hfew : ((backTo cpos (starEach (e :: es) X.env)).all (fun x => !x.1) && (backToKw cpos (keywordEach [] X.env)).all (fun x => x.1.isSome)       && decide ((e :: es).length + ([] : List Keyword).length + (if ([] : List Keyword).isEmpty then 0 else 1) < 30)) = true := by rfl) (hline : (apos.endLine == cpos.line) = true := by rfl) (hs : starEach (e :: es) X.env = (false, eval e X.env) :: starEach es X.env := by rfl) (hplain : (backTo cpos (starEach es X.env)).any (·.1) = false := by rfl) : QE X (.Call (.Attribute o name apos) (e :: es) [] cpos) (tBM K T r to t) := by
  subst hK
  exact ⟨pe_bm pa slot hty hm ho.run ha.run hbase hfew hline hs hplain⟩
end
end L2
namespace L2
open PySem PySem.Spec PyProof.Rows
theorem has_one {x y : Str} {c : Addr} {names : List (Str × NameKind)} (hn : names = [((".0" : Str), NameKind.local), (x, NameKind.local), (y, NameKind.cell)]) (z : Str) (h : names.lookup z = some .cell ∨ names.lookup z = some .free) : ∃ c', ([(y, c)] : List (Str × Addr)).lookup z = some c' := by
  subst hn
  simp only [List.lookup_cons, List.lookup_nil] at h ⊢
  cases h1 : z == (".0" : Str) with
  | true => rw [h1] at h; simp at h
  | false =>
    cases h2 : z == x with
    | true => rw [h1, h2] at h; simp at h
    | false =>
      cases h3 : z == y with
      | true => exact ⟨c, rfl⟩
      | false => rw [h1, h2, h3] at h; simp at h
theorem qe_comp1 {X : Cx} {elt iter : Expr} {x y : Str} {px pos : Pos} {ifs : List Expr} {sc : Scope} {c : Addr} {wi : TI} {tc : TT} {te : TE} (j : Nat) (hi : QI X (.Name x px) iter wi)
    (hif : ∀ s H C ex, QTs (blk X [x, y] s H sc [(y, c)] C ex) ifs tc) (he : ∀ s H C ex, QE (blk X [x, y] s H sc [(y, c)] C ex) elt te)
    (hn : sc.names = [((".0" : Str), NameKind.local), (x, NameKind.local), (y, NameKind.free)] := by rfl) (hrel : (relabel sc X.env).names = [((".0" : Str), NameKind.local), (x, NameKind.local), (y, NameKind.cell)] := by rfl) (hcl : closureFor sc X.env = pure [(y, c)] := by rfl) (hcs : X.env.cells = [(y, c)] := by rfl)
    (hk : X.env.kindOf y = some .cell := by rfl) (hj : X.N[j]? = some y := by rfl) (hnd : ([x, y] : List Str).Nodup := by decide +kernel) (hx : sc.names.lookup x = some .local := by decide +kernel) (hcell : ∀ z ∈ sc.names, z.2 ≠ .cell := by decide +kernel)
    (hnames : ∀ z ∈ sc.names, z.2 = .local → sc.names.lookup z.1 = some .local := by decide +kernel) (hy : ([((".0" : Str), NameKind.local), (x, NameKind.local), (y, NameKind.cell)] : List (Str × NameKind)).lookup y = some .cell := by decide +kernel)
    (hc : X.calm = true := by rfl) (hkind : sc.kind = .function := by rfl) (hs : ∀ x, foldedSetIterable iter X.env x = pure x := by intro _; rfl) :
    QE X (.ListComp elt [⟨.Name x px, iter, ifs, 0⟩] sc pos) (tComp [j] wi tc te) := by
  have hN : ([x, y] : List Str) = x :: [j].map fun j => (X.N[j]?).getD "" := by simp [hj]
  exact ⟨pe_comp [x, y] hc hi.run (fun s H C ex => (hif s H C ex).run) (fun s H C ex => (he s H C ex).run) hkind hN hnd hx hcl hcell hnames (fun z c' e => by rw [hcs]; exact e)
    (fun z h => has_one hrel z h) (fun j' hj' => by
      have : j' = j := by simpa using hj'
      subst this
      exact ⟨y, hj, hk, by rw [hrel]; exact hy⟩) hs⟩
theorem rep_fold (c : Nat) : ∀ (k : Nat) (acc : Array Nat), (List.replicate k (#[c] : Array Nat)).foldl (· ++ ·) acc = acc ++ (List.replicate k c).toArray
  | 0, acc => by simp
  | k + 1, acc => by
    rw [List.replicate_succ, List.foldl_cons, rep_fold c k (acc ++ #[c]), List.replicate_succ, Array.append_assoc]
    congr 1
    apply Array.toList_inj.mp
    simp
noncomputable def reps (c : Nat) (n : Int) : Str := ⟨(List.replicate n.toNat c).toArray⟩
theorem op_mul_sign {X : Cx} : OpR X (binaryOp .Mult) (fun x y H Q => ∃ (c : Nat) (n : Int), x = .str ⟨#[c]⟩ ∧ y = .int n ∧ 0 ≤ n ∧ n ≤ 1000 ∧ Q (.str (reps c n)) H) := by
  intro pins s σ H x y v u Q I rx ry h
  obtain ⟨c, n, rfl, rfl, h0, h1, q⟩ := h
  obtain ⟨t, rfl⟩ := rx
  obtain ⟨t2, rfl⟩ := ry
  have hl : (⟨#[c]⟩ : Str).length = 1 := rfl
  refine PySem.P.mul_str (by
      have h2 : ¬ n < -(2 ^ 63 : Int) := by omega
      have h3 : ¬ n ≥ 2 ^ 63 := by omega
      rw [decide_eq_false h2, decide_eq_false h3]; rfl) (fun _ _ => ?_) (fun _ _ => ?_) ?_
  · rw [hl]
    have : (1 : Int) ≤ (2 ^ 63 - 1) / n := by
      rw [Int.le_ediv_iff_mul_le (by omega)]
      omega
    show ¬ ((1 : Nat) : Int) > _
    omega
  · rw [hl, Nat.one_mul]
    unfold Builtin.Str.tooLong
    exact decide_eq_false (by have : sizeLine = 16777216 := sizeLine_eq; omega)
  · by_cases hn : n < 1
    · rw [if_pos hn]
      have e : n = 0 := by omega
      subst e
      exact ⟨by decide, .str (reps c 0), H, I.tok _, ⟨_, rfl⟩, q⟩
    · rw [if_neg hn]
      by_cases hn1 : n = 1
      · subst hn1
        rw [if_pos (by rfl)]
        exact ⟨.str (reps c 1), H, I, ⟨_, rfl⟩, q⟩
      · have e : (n == 1 || (⟨#[c]⟩ : Str).length == 0) = false := by
          rw [hl]; simp [hn1]
        rw [if_neg (by rw [e]; exact Bool.false_ne_true)]
        have e2 : (⟨(List.replicate n.toNat (#[c] : Array Nat)).foldl (· ++ ·) #[]⟩ : Str) = reps c n := by
          rw [rep_fold, Array.empty_append]; rfl
        rw [e2]
        refine ⟨?_, .str (reps c n), H, I.tok _, ⟨_, rfl⟩, q⟩
        show (List.toArray _).size ≤ _
        rw [List.size_toArray, List.length_replicate]
        exact Nat.le_trans (show n.toNat ≤ 1000 by omega) (by decide)
end L2
namespace L2
open PySem PySem.Spec PyProof.Rows
section
variable {X : Cx} {pins : List (Addr × Obj)} {σ : St} {H : Hp} {s : Shared} {h' : Heap}
theorem Inv.turnedL {t' : Nat} {ch : List Addr} (I : Inv X pins σ H s) (k : ∀ b o, b ∉ ch → s.heap.get? b = some o → h'.get? b = some o) (hc : ∀ b ∈ ch, FpOk X pins H b) : Inv X pins σ H { s with heap := h', toks := t' } := by
  have nit : ∀ b u, H b = some u → b ∉ ch := fun b u e z => by rw [(hc b z).1] at e; cases e
  refine I.step (g' := s.gens) (d' := s.drawn) (ch := ch) (fun b hb => ⟨(hc b hb).2.2.2.1, (hc b hb).2.1, (hc b hb).2.2.2.2.1, (hc b hb).2.2.2.2.2⟩) (fun b o _ _ hn e _ => k b o hn e) (fun b o _ _ hn e _ => ⟨o.slots, k b o hn e⟩) (fun _ _ _ _ n => n)
    (fun b o hn e => ⟨o, k b o hn e⟩) (fun _ _ e => e) (fun _ _ _ e => e) (fun b ps e => ⟨#[], by rw [e]; simp⟩) (fun m hm => ?_) (fun b u e => ?_) I.bare
  · obtain ⟨o, es, ep, ho, r⟩ := hm
    exact ⟨o, es, ep, k _ o (fun z => (hc _ z).2.1 rfl) ho, r⟩
  · refine (I.hok b u e).stay (fun c v hcv q => k c v ?_ q) (fun _ q => q) fun _ _ q => q
    rcases hcv with z | z
    · rw [z]; exact nit b u e
    · exact nit c _ z
end
section
variable {X : Cx}
end
end L2
namespace L2
open PySem PySem.Spec PyProof.Rows
section
variable {X : Cx}
theorem ps_setcomp {elt iter : Expr} {x yv : Str} {px pos py pos2 : Pos} {iy : Nat} {ifs : List Expr} {sc : Scope} {cl : List (Str × Addr)} {ix : List Nat} {wi : TI} {tc : TT} {te : TE} (N : List Str) (hNd : X.N.Nodup) (hiy : X.N[iy]? = some yv) (hyv : Loc X.env.scope yv) (hsw : swapsWith (.ListComp elt [⟨.Name x px, iter, ifs, 0⟩] sc pos) (some (.Name yv py)) pos2.line X.env = pure true) (hfy : X.fn yv = true ∨ X.env.scope.names.lookup yv = some .local)
    (hc : X.calm = true) (hi : PI X (.Name x px) iter wi) (hif : ∀ s H C ex, PTs (blk X N s H sc cl C ex) ifs tc) (he : ∀ s H C ex, PE (blk X N s H sc cl C ex) elt te)
    (hkind : sc.kind = .function) (hN : N = x :: ix.map fun j => (X.N[j]?).getD "") (hnd : N.Nodup) (hx : sc.names.lookup x = some .local)
    (hcl : closureFor sc X.env = pure cl) (hcell : ∀ y ∈ sc.names, y.2 ≠ .cell) (hnames : ∀ y ∈ sc.names, y.2 = .local → sc.names.lookup y.1 = some .local)
    (hsub : ∀ y c, cl.lookup y = some c → X.env.cells.lookup y = some c) (hhas : ∀ y, ((relabel sc X.env).names.lookup y = some .cell ∨ (relabel sc X.env).names.lookup y = some .free) → ∃ c, cl.lookup y = some c)
    (hix : ∀ j ∈ ix, ∃ y, X.N[j]? = some y ∧ X.env.kindOf y = some .cell ∧ (relabel sc X.env).names.lookup y = some .cell)
    (hs : ∀ x, foldedSetIterable iter X.env x = pure x := by intro _; rfl) :
    PS X (.Assign [.Name yv py] (.ListComp elt [⟨.Name x px, iter, ifs, 0⟩] sc pos) pos2) (tAsg (tComp ix wi tc te) (gName iy)) := by
  intro pins s σ H D0 I h
  rw [exec_Assign_Name_used _ _ _ _ hsw]
  refine wpAny_bind (wpAny_standAt (wpAny_bind ?_))
  show wpAny _ _ (comprehension _ _ _ _ _ _ _ _ >>= _) _ _ _
  refine wpAny_bind (wpAny_mono (Q := fun _ s' => SP X pins D0 .next s') (comp_core N hc hi hif he hkind hN hnd hx hcl hcell hnames hsub hhas hix hs (use := some (assign (.Name yv py) X.env)) I h fun D C s6 H5 mm I7 hm hCn hCl hCc hsz hpin qn => ?_) (fun _ s' q => wpAny_pure (wpAny_pure q)) fun _ _ y => y)
  refine wpAny_assign_Name (store_ok2 I7 hNd hiy hyv (show RelV (V.ref D) (Value.ref D) from rfl) (fun s8 I8 hsb => ?_) hfy)
  obtain ⟨a8, sb8, ha8⟩ := hsb
  have hna : C ≠ a8 := by
    rcases ha8 with z | z
    · rw [z]; exact hCl
    · exact Ne.symm (hCc _ _ z)
  obtain ⟨oC, esC, epC, hoC, rC⟩ := hm
  refine ⟨mm, ⟨oC, esC, epC, sb8.extBut _ _ hna hoC, rC⟩, fun h9 sb9 => ?_⟩
  exact ⟨_, H5, I8.turned (t' := s8.toks) (it := C) (fun b o hb e => sb9.extBut b o hb e) hCn hCl (.inr hsz) hCc hpin, qn⟩
end
end L2
namespace L2
open PySem PySem.Spec PyProof.Rows
section
variable {X : Cx}
end
section
variable {X : Cx}
end
theorem cl_has {L : List (Str × NameKind)} {cl : List (Str × Addr)} {ks : List Str} (hkm : cl.map (·.1) = ks) (hkB : (L.all fun y => (match y.2 with | .cell => false | .free => false | _ => true) || decide (y.1 ∈ ks)) = true) (z : Str) (h : L.lookup z = some .cell ∨ L.lookup z = some .free) : ∃ c, cl.lookup z = some c := by
  have hm : z ∈ cl.map (·.1) := by
    rw [hkm]
    rcases h with h | h
    · have := List.all_eq_true.mp hkB _ (PySem.mem_of_lookup h)
      simpa using this
    · have := List.all_eq_true.mp hkB _ (PySem.mem_of_lookup h)
      simpa using this
  clear hkm hkB
  induction cl with
  | nil => simp at hm
  | cons p r ih =>
    rw [List.lookup_cons]
    cases hb : z == p.1 with
    | true => exact ⟨_, rfl⟩
    | false =>
      rw [List.map_cons, List.mem_cons] at hm
      rcases hm with h1 | h1
      · rw [h1] at hb; simp at hb
      · exact ih h1
end L2
namespace L2
open PySem PySem.Spec PyProof.Rows
section
variable {X : Cx}
theorem call_isi_int : CallR X (.builtin "isinstance") (fun xs H Q => ∃ i, xs = [.int i, .ty "int"] ∧ Q (.bl true) H) := by
  intro pins s σ H xs us Q I r h
  obtain ⟨z, rfl, q⟩ := h
  cases r with
  | cons r1 r =>
    cases r with
    | cons r2 r =>
      cases r
      obtain ⟨t, rfl⟩ := r1
      cases r2
      exact IsiPair.int_int ⟨.bl true, H, I, rfl, q⟩
theorem call_isi_ib : CallR X (.builtin "isinstance") (fun xs H Q => ∃ i, xs = [.int i, .ty "bool"] ∧ Q (.bl false) H) := by
  intro pins s σ H xs us Q I r h
  obtain ⟨z, rfl, q⟩ := h
  cases r with
  | cons r1 r =>
    cases r with
    | cons r2 r =>
      cases r
      obtain ⟨t, rfl⟩ := r1
      cases r2
      exact IsiPair.int_bool ⟨.bl false, H, I.tok _, rfl, q⟩
end
theorem cl_sub {cl cells : List (Str × Addr)} (h : ∀ p ∈ cl, cells.lookup p.1 = some p.2) (y : Str) (c : Addr) (e : cl.lookup y = some c) : cells.lookup y = some c := h (y, c) (PySem.mem_of_lookup e)
inductive ClIn (cells : List (Str × Addr)) : List (Str × Addr) → Prop
  | nil : ClIn cells []
  | cons {x : Str} {a : Addr} {r : List (Str × Addr)} : cells.lookup x = some a → ClIn cells r → ClIn cells ((x, a) :: r)
theorem ClIn.all {cells cl : List (Str × Addr)} (h : ClIn cells cl) : ∀ p ∈ cl, cells.lookup p.1 = some p.2 := by
  induction h with
  | nil => intro p hp; cases hp
  | cons h _ ih =>
    intro p hp
    rcases List.mem_cons.mp hp with rfl | z
    · exact h
    · exact ih p z
inductive IxIn (X : Cx) (sc : Scope) : List Nat → Prop
  | nil : IxIn X sc []
  | cons {j : Nat} {y : Str} {r : List Nat} : X.N[j]? = some y → X.env.kindOf y = some .cell → (relabel sc X.env).names.lookup y = some .cell → IxIn X sc r → IxIn X sc (j :: r)
theorem IxIn.all {X : Cx} {sc : Scope} {ix : List Nat} (h : IxIn X sc ix) : ∀ j ∈ ix, ∃ y, X.N[j]? = some y ∧ X.env.kindOf y = some .cell ∧ (relabel sc X.env).names.lookup y = some .cell := by
  induction h with
  | nil => intro p hp; cases hp
  | cons h1 h2 h3 _ ih =>
    intro p hp
    rcases List.mem_cons.mp hp with rfl | z
    · exact ⟨_, h1, h2, h3⟩
    · exact ih p z
theorem qe_compG {X : Cx} {elt iter : Expr} {x : Str} {px pos : Pos} {ifs : List Expr} {sc : Scope} {cl : List (Str × Addr)} {wi : TI} {tc : TT} {te : TE} (N : List Str) (ix : List Nat) (hi : QI X (.Name x px) iter wi)
    (hif : ∀ s H C ex, QTs (blk X N s H sc cl C ex) ifs tc) (he : ∀ s H C ex, QE (blk X N s H sc cl C ex) elt te)
    (hcl : closureFor sc X.env = pure cl := by rfl) (hcs : ClIn X.env.cells cl := by repeat' first | with_unfolding_all rfl | constructor) (hN : N = x :: ix.map (fun j => (X.N[j]?).getD "") := by rfl) (hnd : N.Nodup := by decide +kernel)
    (hkm : cl.map (·.1) = N.tail := by rfl) (hkB : ((relabel sc X.env).names.all fun y => (match y.2 with | .cell => false | .free => false | _ => true) || decide (y.1 ∈ N.tail)) = true := by with_unfolding_all rfl)
    (hix : IxIn X sc ix := by repeat' first | with_unfolding_all rfl | constructor)
    (hx : sc.names.lookup x = some .local := by decide +kernel) (hcell : ∀ z ∈ sc.names, z.2 ≠ .cell := by decide +kernel)
    (hnames : ∀ z ∈ sc.names, z.2 = .local → sc.names.lookup z.1 = some .local := by decide +kernel)
    (hc : X.calm = true := by rfl) (hkind : sc.kind = .function := by rfl) (hs : ∀ x, foldedSetIterable iter X.env x = pure x := by intro _; rfl) :
    QE X (.ListComp elt [⟨.Name x px, iter, ifs, 0⟩] sc pos) (tComp ix wi tc te) :=
  ⟨pe_comp N hc hi.run (fun s H C ex => (hif s H C ex).run) (fun s H C ex => (he s H C ex).run) hkind hN hnd hx hcl hcell hnames (cl_sub hcs.all) (cl_has hkm hkB) hix.all hs⟩
theorem qs_setCG {X : Cx} {elt iter : Expr} {x yv : Str} {px pos py pos2 : Pos} {i : Nat} {ifs : List Expr} {sc : Scope} {cl : List (Str × Addr)} {wi : TI} {tc : TT} {te : TE} (N : List Str) (ix : List Nat) (hNd : X.N.Nodup) (hiy : X.N[i]? = some yv) (hyv : Loc X.env.scope yv) (hi : QI X (.Name x px) iter wi)
    (hif : ∀ s H C ex, QTs (blk X N s H sc cl C ex) ifs tc) (he : ∀ s H C ex, QE (blk X N s H sc cl C ex) elt te)
    (hsw : swapsWith (.ListComp elt [⟨.Name x px, iter, ifs, 0⟩] sc pos) (some (.Name yv py)) pos2.line X.env = pure true := by rfl) (hfy : X.fn yv = true ∨ X.env.scope.names.lookup yv = some .local := by first | exact .inl rfl | exact .inr rfl | assumption)
    (hcl : closureFor sc X.env = pure cl := by rfl) (hcs : ClIn X.env.cells cl := by repeat' first | with_unfolding_all rfl | constructor) (hN : N = x :: ix.map (fun j => (X.N[j]?).getD "") := by rfl) (hnd : N.Nodup := by decide +kernel)
    (hkm : cl.map (·.1) = N.tail := by rfl) (hkB : ((relabel sc X.env).names.all fun y => (match y.2 with | .cell => false | .free => false | _ => true) || decide (y.1 ∈ N.tail)) = true := by with_unfolding_all rfl)
    (hix : IxIn X sc ix := by repeat' first | with_unfolding_all rfl | constructor)
    (hx : sc.names.lookup x = some .local := by decide +kernel) (hcell : ∀ z ∈ sc.names, z.2 ≠ .cell := by decide +kernel)
    (hnames : ∀ z ∈ sc.names, z.2 = .local → sc.names.lookup z.1 = some .local := by decide +kernel)
    (hc : X.calm = true := by rfl) (hkind : sc.kind = .function := by rfl) (hs : ∀ x, foldedSetIterable iter X.env x = pure x := by intro _; rfl) :
    QS X (.Assign [.Name yv py] (.ListComp elt [⟨.Name x px, iter, ifs, 0⟩] sc pos) pos2) (tAsg (tComp ix wi tc te) (gName i)) :=
  ⟨ps_setcomp N hNd hiy hyv hsw hfy hc hi.run (fun s H C ex => (hif s H C ex).run) (fun s H C ex => (he s H C ex).run) hkind hN hnd hx hcl hcell hnames (cl_sub hcs.all) (cl_has hkm hkB) hix.all hs⟩
theorem comp_pos {α β : Type} {J : It} {H1 : Hp} {σ : St} {ix : List Nat} {te : TE} {Q : VK} {I0 : Hp → Prop} (xs : List V) (rs : List α) (R : Addr → Hp → V → β → Prop) (f : α → β) (hJ : JSeq J I0 xs) (h0 : I0 H1) (hz : xs.length ≤ 1000) (hl : rs.length = xs.length)
    (hR : ∀ D H H' y r, R D H y r → SameX D H H' → R D H' y r)
    (he : ∀ (D : Addr) (i : Nat) (x : V) (r : α), xs[i]? = some x → rs[i]? = some r → ∀ H2, Same H1 H2 → H2 D ≠ none → ∀ Q' : VK, (∀ y H3, Same H2 H3 → R D H3 y (f r) → Q' y H3) → te (some x :: frees σ ix) H2 Q')
    (hQ : ∀ D H' ys, H1 D = none → Same H1 H' → H' D = some (.lst ys) → Paired (fun y r => R D H' y r) ys (rs.map f) → Q (.ref D) H') : CompGo J H1 σ ix tYes te Q := by
  intro D hD
  have put : ∀ H ys, Same H1 H → Same H1 (upd H D (.lst ys)) := fun H ys e b u q => by rw [upd_ne (ne_of_none q hD)]; exact e b u q
  refine ⟨fun i m H => i ≤ xs.length ∧ m = xs.length - i ∧ Same H1 H ∧ ∃ ys : List V, H D = some (.lst ys) ∧ Paired (fun y r => R D H y r) ys ((rs.take i).map f), ⟨xs.length, Nat.zero_le _, rfl, put _ _ (Same.refl _), [], upd_same, by simpa using Paired.nil⟩, ?_⟩
  rintro i m H ⟨hi, rfl, e, ys, hy, hp⟩
  have hI := hJ.stay _ _ h0 e
  by_cases hlt : i < xs.length
  · refine .inr ⟨hJ.go i H hI hlt, fun x H' hy' => ?_⟩
    obtain ⟨rfl, hx⟩ := hJ.yld i H x H' hlt hI hy'
    have hri : i < rs.length := by omega
    have hr : rs[i]? = some rs[i] := List.getElem?_eq_getElem hri
    have ht : rs.take (i + 1) = rs.take i ++ [rs[i]] := by rw [List.take_add_one, hr]; rfl
    have hlen : ys.length = i := by
      have h1 := Paired.length hp
      rw [List.length_map, List.length_take] at h1
      omega
    dsimp only [tYes]
    rw [if_pos rfl]
    refine he D i x rs[i] hx hr _ e (by rw [hy]; simp) _ fun y H4 e4 hR4 => ?_
    have hput : SameX D H4 (upd H4 D (.lst (ys ++ [y]))) := fun b u q hn => by rw [upd_ne hn]; exact q
    refine ⟨ys, e4 _ _ hy, by rw [hlen]; exact Nat.lt_of_lt_of_le hlt (Nat.le_trans hz (by decide)), xs.length - (i + 1), by omega, hlt, rfl, put _ _ (e.trans e4), ys ++ [y], upd_same, ?_⟩
    rw [ht, List.map_append]
    exact Paired.snocP (Paired.mapP hp fun a r z => hR _ _ _ _ _ (hR _ _ _ _ _ z (e4.x D)) hput) (hR _ _ _ _ _ hR4 hput)
  · have hi' : i = xs.length := by omega
    subst hi'
    refine .inl ⟨hJ.stop _ H hI (Nat.le_refl _), ?_⟩
    rw [← hl, List.take_length] at hp
    exact hQ D H ys hD e hy hp
end L2
namespace L2
open PySem PySem.Spec PyProof.Rows
section
variable {X : Cx} {CX : CXT} {k : Nat} {f C : Addr} {fd : FuncData} {ps : List Str} {ds : List Value} {dvs : List V} {sp : Sp} {E : XK} {x m fl : Str} {p pos pos' apos : Pos} {e o value : Expr} {es : List Expr} {ta tv : TE} {t : TA}
end
section
variable {X : Cx} {pins : List (Addr × Obj)} {σ : St} {H : Hp} {s : Shared} {a : Addr} {y d : V} {u r : Value} {A : Around} {E : Value → Shared → Prop}
end
section
variable {X : Cx} {o e f : Expr} {apos cpos : Pos} {td ty tx : TE}
end
section
variable {prog : Program} {w : World} {A : Around} {E : Value → Shared → Prop} {s : Shared} {J d : Addr} {n ep : Nat} {es : Array DictEntry} {od : Obj}
end
section
variable {X : Cx}
end
section
variable {X : Cx} {pins : List (Addr × Obj)} {σ : St} {H : Hp} {s : Shared} {a : Addr} {u : HO} {o : Obj}
end
end L2
namespace Mir
open PySem L2
noncomputable def letters : Str := "abcdefghijklmnopqrstuvwxyz"
noncomputable def figures : Str := "0123456789"
noncomputable def noNames : List Str := ["nil", "any", "is", "not", "cell", "stretch", "tree", "nothing", "then", "with"]
noncomputable def okSign (c : Nat) : Bool := decide (c ∈ letters.cps.toList) || decide (c ∈ figures.cps.toList)
noncomputable def headOk : List Nat → Bool
  | [] => false
  | c :: _ => decide (c ∈ letters.cps.toList)
noncomputable def isName (x : Str) : Bool := if x = "" ∨ 8 < x.length ∨ x ∈ noNames then false else headOk x.cps.toList && x.cps.toList.all okSign
theorem eqV_str (a b : Str) : eqV (.str a) (.str b) = decide (a = b) := by
  show (a == b) = decide (a = b)
  by_cases h : a = b
  · subst h; simp
  · rw [decide_eq_false h]; exact beq_eq_false_iff_ne.mpr h
theorem inV_strs (x : Str) (l : List Str) : inV (.str x) (l.map V.str) = decide (x ∈ l) := by
  unfold inV
  rw [Bool.eq_iff_iff, List.any_eq_true, decide_eq_true_eq]
  constructor
  · rintro ⟨y, hy, e⟩
    obtain ⟨z, hz, rfl⟩ := List.mem_map.mp hy
    rw [eqV_str, decide_eq_true_eq] at e
    exact e ▸ hz
  · intro h
    exact ⟨.str x, List.mem_map.mpr ⟨x, h, rfl⟩, by rw [eqV_str]; simp⟩
theorem flat_strs (l : List Str) : (l.map V.str).all flatV = true := by
  rw [List.all_eq_true]
  intro v hv
  obtain ⟨z, _, rfl⟩ := List.mem_map.mp hv
  rfl
end Mir
namespace K43
open PySem PySem.Spec L2 Mir
noncomputable def top (i : Nat) : Stmt := PySem.Challenge.pw_apart_k43_where_sections_begin.main.body.getD i (.Pass ⟨0, 0, 0, 0⟩)
structure Con (K : PySem.W.Frag) (mg : Str → Option Value) (w : World) : Prop where
  len : mg "len" = none
  all : mg "all" = none
  any : mg "any" = none
  isi : mg "isinstance" = none
  list : mg "list" = none
  int : mg "int" = none
  bool : mg "bool" = none
  str : mg "str" = none
  dict : mg "dict" = none
  sorted : mg "sorted" = none
  set : mg "set" = none
  sum : mg "sum" = none
  range : mg "range" = none
  tuple : mg "tuple" = none
  max : mg "max" = none
  zip : mg "zip" = none
  min : mg "min" = none
  enumerate : mg "enumerate" = none
theorem iteB {b : Bool} {A B : Prop} (h1 : b = true → A) (h2 : b = false → B) : if b = true then A else B := by
  cases b with
  | true => rw [if_pos rfl]; exact h1 rfl
  | false => rw [if_neg Bool.false_ne_true]; exact h2 rfl
theorem Paired.nth {α β : Type} {F : α → β → Prop} : ∀ {l₁ : List α} {l₂ : List β} {i : Nat} {a : α}, Paired F l₁ l₂ → l₁[i]? = some a → ∃ b, l₂[i]? = some b ∧ F a b
  | _, _, _, _, .nil, e => by simp at e
  | _, _, 0, _, .cons h _, e => by simp at e; subst e; exact ⟨_, rfl, h⟩
  | _, _, i + 1, _, .cons _ t, e => by
    obtain ⟨b, e1, e2⟩ := Paired.nth (i := i) t (by simpa using e)
    exact ⟨b, by simpa using e1, e2⟩
theorem gty {X : Cx} {x : Str} {n : String} {pos : Pos} (hm : X.mg x = none) (hv : bootBuiltins x = some (.type n)) (hg : Gl X x := by rfl) (hn : x ≠ "__name__" := by decide) (hdb : (x == ("__debug__" : Str)) = false := by decide) : PE X (.Name x pos) (tC (.ty n)) := pe_bltn hg hm hv rfl hn hdb
structure Cal (K : PySem.W.Frag) (mg : Str → Option Value) (x : Str) (f : Addr) (fd : FuncData) (ps : List Str) : Prop where
  name : mg x = some (.ref f)
  keep : PySem.W.keepIn K (.ref f) = true
  bind : Binds K fd ps []
theorem Paired.app {α β : Type} {F : α → β → Prop} : ∀ {l₁ : List α} {l₂ : List β} {m₁ : List α} {m₂ : List β}, Paired F l₁ l₂ → Paired F m₁ m₂ → Paired F (l₁ ++ m₁) (l₂ ++ m₂)
  | _, _, _, _, .nil, h => h
  | _, _, _, _, .cons h t, h2 => .cons h (Paired.app t h2)
theorem same_put {H H' : Hp} {l : Addr} (hl : H l = none) (e : Same H H') (o : HO) : Same H (upd H' l o) := fun b u q => by rw [upd_ne (ne_of_none q hl)]; exact e b u q
theorem getD_at {ws : List Str} {i : Nat} (h : i < ws.length) : atI (ws.map V.str) (i : Int) = some (.str (ws.getD i "")) := atI_nat (by rw [List.getElem?_map, List.getD_eq_getElem?_getD, List.getElem?_eq_getElem h]; rfl)
section
variable {K : PySem.W.Frag}
theorem row_put {H : Hp} {l b : Addr} {xs ys : List V} {r : List Str} (hl : H l = some (.lst xs)) (h : RowAt K H b r) : RowAt K (upd H l (.lst ys)) b r := by
  rcases h with (h | ⟨o, h⟩) | h
  · have hne : b ≠ l := fun e => by rw [e, hl] at h; cases h
    exact .inl (.inl (by show upd H l _ b = _; rw [upd_ne hne]; exact h))
  · have hne : b ≠ l := fun e => by rw [e, hl] at h; cases h
    exact .inl (.inr ⟨o, by show upd H l _ b = _; rw [upd_ne hne]; exact h⟩)
  · exact .inr h
end
noncomputable def cellAt (ns : List Int) (k : Nat) : Int := (ns[k]?).getD 0
noncomputable def spCell (K : PySem.W.Frag) : Sp := fun vs H Q _ => ∃ (a : Addr) (ns : List Int) (k : Nat), vs = [.ref a, .int (k : Int)] ∧ SqL K H a (ns.map V.int) ∧ Q (.int (cellAt ns k)) H
theorem at_mod {α : Type} {xs : List α} {m : Int} {i : Int} (hl : (xs.length : Int) = m) (hm : 0 < m) : ∃ v, atI xs (i % m) = some v ∧ v ∈ xs := by
  have h0 := Int.emod_nonneg i (Int.ne_of_gt hm)
  have h1 := Int.emod_lt_of_pos i hm
  generalize i % m = j at h0 h1
  obtain ⟨k, rfl⟩ := Int.eq_ofNat_of_zero_le h0
  have hk : k < xs.length := by omega
  exact ⟨xs[k], atI_nat (List.getElem?_eq_getElem hk), List.getElem_mem hk⟩
theorem qt_weak {X : Cx} {e : Expr} {t t' : TT} (h : QT X e t) (w : ∀ σ H Q, t' σ H Q → t σ H Q) : QT X e t' := ⟨fun pins s σ H Q I q => h.run pins s σ H Q I (w σ H Q q)⟩
noncomputable abbrev sCell : Stmt := top 7
section
variable {P : Program} {w : World} {K : PySem.W.Frag} {mg : Str → Option Value} {base : Heap} {f g : Addr} {fd gd : FuncData}
theorem scCell : FnScope ["_law_script", "_law_k"] ["_law_script", "_law_k"] (defScope sCell) := ⟨rfl, rfl, rfl, by decide +kernel, rfl, by decide +kernel, by decide +kernel⟩
theorem ok_cellAt (C : Con K mg w) (F : Fun K "_law_cell_at" "_law_cell_at" sCell f fd) : FnOk P w K mg base CX0 1 f fd ["_law_script", "_law_k"] (spCell K) := by
  refine F.okQ scCell (fun vs H Q E h => ?_) (fun cdv A outer s H vs Q E hr h => ?_)
  · obtain ⟨a, ns, k, rfl, _⟩ := h; rfl
  obtain ⟨a, ns, k, rfl, hS, q⟩ := h
  refine ⟨_, qb_cons (qs_if (qt_cmpR op_lt (qv 1) (qe_callB call_len_seq rfl C.len PySem.boot_len (qa_nm (qv 0) qa_nil)) (nomark _)) (qb_one (qs_ret (qe_ix ix_list (qv 0) (qv 1) (fun _ _ => rfl)))) qb_nil)
    (qb_one (qs_ret qe_int)), ?_⟩
  have hl : (ns.map V.int).length = ns.length := List.length_map _
  refine ⟨_, rfl, _, rfl, a, _, rfl, .inl hS, _, _, rfl, rfl, _, rfl, iteB (fun c => ?_) (fun c => ?_)⟩
  · have c' := of_decide_eq_true c
    rw [hl] at c'
    have hk : k < ns.length := by omega
    have e : cellAt ns k = ns[k] := by unfold cellAt; rw [List.getElem?_eq_getElem hk]; rfl
    rw [e] at q
    exact ⟨_, rfl, _, rfl, a, _, _, _, rfl, rfl, hS, atI_nat (by rw [List.getElem?_map, List.getElem?_eq_getElem hk]; rfl), q⟩
  · have c' := of_decide_eq_false c
    rw [hl] at c'
    have hk : ns.length ≤ k := by omega
    have e : cellAt ns k = 0 := by unfold cellAt; rw [List.getElem?_eq_none hk]; rfl
    rw [e] at q
    exact q
end
noncomputable def spLaw (K : PySem.W.Frag) : Sp := fun vs H Q _ => ∃ (a : Addr) (ns : List Int), vs = [.ref a] ∧ SqL K H a (ns.map V.int) ∧ ∀ H', Q (.bl true) H'
theorem cut_ints (ns : List Int) (lo hi : Option Int) : ∃ ms : List Int, cutV (ns.map V.int) lo hi = ms.map V.int := by
  refine ⟨(ns.drop (HT.sIx ns.length 0 lo)).take (HT.sIx ns.length ns.length hi - HT.sIx ns.length 0 lo), ?_⟩
  unfold cutV
  rw [List.length_map, List.map_take, List.map_drop]
theorem sq_put {K : PySem.W.Frag} {H : Hp} {l b : Addr} {xs ys zs : List V} (hl : H l = some (.lst xs)) (h : SqT K H b zs) : SqT K (upd H l (.lst ys)) b zs := by
  rcases h with (h | ⟨o, h⟩) | h
  · have hne : b ≠ l := fun e => by rw [e, hl] at h; cases h
    exact .inl (.inl (by show upd H l _ b = _; rw [upd_ne hne]; exact h))
  · have hne : b ≠ l := fun e => by rw [e, hl] at h; cases h
    exact .inl (.inr ⟨o, by show upd H l _ b = _; rw [upd_ne hne]; exact h⟩)
  · exact .inr h
theorem qg_tup2 {X : Cx} {i j : Nat} {x y : Str} {px py pos : Pos} {k : Nat} (h1 : QG X (.Name x px) (gName i)) (h2 : QG X (.Name y py) (gName j)) (hc : X.calm = true := by rfl)
    (a1 : (assignEach [.Name x px, .Name y py] X.env).map (·.2) = assign (.Name x px) X.env :: (assignEach [.Name y py] X.env).map (·.2) := by rfl) (a2 : (assignEach [.Name y py] X.env).map (·.2) = assign (.Name y py) X.env :: (assignEach [] X.env).map (·.2) := by rfl)
    (hn : (assignEach [.Name x px, .Name y py] X.env).length = 2 := by rfl) (hst : (assignEach [.Name x px, .Name y py] X.env).findIdx? (·.1) = none := by rfl) : QG X (.Tuple [.Name x px, .Name y py] k pos) (gTup X.K 2 (gCons (gName i) (gCons (gName j) gNil))) :=
  ⟨pg_tup hc (pgs_cons h1.run (pgs_cons h2.run pgs_nil a2) a1) hn hst⟩
theorem qs_weak {X : Cx} {st : Stmt} {t t' : TS} (h : QS X st t) (w : ∀ D σ H, t' D σ H → t D σ H) : QS X st t' := ⟨fun pins s σ H D I q => h.run pins s σ H D I (w D σ H q)⟩
theorem qe_un {X : Cx} {a : Expr} {ta : TE} {pos : Pos} {op : UnaryOp} {r : V → Hp → VK → Prop} (ho : UnR X (unaryOp op) r) (ha : QE X a ta) : QE X (.UnaryOp op a pos) (tUn r ta) := ⟨pe_un ho ha.run⟩
theorem atI_last {α : Type} {xs : List α} {v : α} : atI (xs ++ [v]) (-1) = some v := by
  unfold atI ixN
  have h1 : ¬ (0 : Int) ≤ -1 := by decide
  have h2 : -(((xs ++ [v]).length : Nat) : Int) ≤ -1 := by rw [List.length_append, List.length_singleton]; omega
  rw [if_neg h1, if_pos h2]
  have h3 : ((-1 : Int) + (((xs ++ [v]).length : Nat) : Int)).toNat = xs.length := by rw [List.length_append, List.length_singleton]; omega
  rw [h3]
  simp
noncomputable def tFlat (t : TS) : TS := fun D σ H => t { D with nx := fun σ' H' => ∀ τ, τ = σ' → D.nx τ H' } σ H
theorem qs_flat {X : Cx} {st : Stmt} {t : TS} (h : QS X st t) : QS X st (tFlat t) := qs_weak h fun D σ H h => by
  have e : (fun σ' H' => ∀ τ, τ = σ' → D.nx τ H') = D.nx := by
    funext σ' H'
    exact propext ⟨fun h => h _ rfl, fun h τ e => e ▸ h⟩
  unfold tFlat at h
  rw [e] at h
  exact h
end K43
namespace L2
open PySem PySem.Spec PyProof.Rows PySem.SeqAt
open AutoSeq1 (wpAny_loadPart')
open MeetsSeq MeetsSeq2 MeetsSeq3
section
variable {prog : Program} {w : World}
end
section
variable {X : Cx}
end
end L2
namespace L2
open PySem PySem.Spec PyProof.Rows
section
variable {X : Cx}
set_option autoImplicit true
set_option relaxedAutoImplicit true
end
end L2
namespace K43
open PySem PySem.Spec L2 Mir
noncomputable abbrev sTake : Stmt := top 10
noncomputable abbrev sAnyNames : Stmt := top 11
noncomputable abbrev sNames : Stmt := top 8
noncomputable def spTake : Sp := fun vs H Q _ => ∃ (a : Addr) (n m : Int), vs = [.ref a, .int m] ∧ H a = some (.lst [.int n]) ∧ 0 < m ∧ m < 1073741824 ∧ Q (.int (n % m)) (upd H a (.lst [.int (n / m)]))
noncomputable def letters36 : Str := "abcdefghijklmnopqrstuvwxyz0123456789"
theorem letters36_len : letters36.cps.toList.length = 36 := by decide +kernel
theorem letters36_line : letters36.length ≤ sizeLine := by decide +kernel
theorem letters36_ok : ∀ c ∈ letters36.cps.toList, okSign c = true := by decide +kernel
theorem letters26_ok : ∀ c ∈ letters36.cps.toList.take 26, decide (c ∈ Mir.letters.cps.toList) = true := by decide +kernel
noncomputable def spMade (mg : Str → Option Value) : Sp := fun vs H Q _ => ∃ (i : Int), vs = [.int i] ∧ ∀ (p : Addr) (xs : List Str) (H' : Hp), Same H H' → H p = none → H' p = some (.lst (xs.map V.str)) → xs.length = 8 → (∀ x ∈ xs, isName x = true) → Q (.ref p) H'
noncomputable def Word (n : Nat) (x : Str) : Prop := x.length = n ∧ headOk x.cps.toList = true ∧ x.cps.toList.all okSign = true
theorem Word.name {n : Nat} {x : Str} (h : Word n x) (h1 : 1 ≤ n) (h8 : n ≤ 8) (hn : ¬ x ∈ Mir.noNames) : isName x = true := by
  unfold isName
  rw [if_neg, h.2.1, h.2.2]
  · rfl
  · rintro (z | z | z)
    · have := h.1; rw [z] at this; have e : (("" : Str)).length = 0 := by decide +kernel
      rw [e] at this; omega
    · have := h.1; omega
    · exact hn z
theorem Word.more {n : Nat} {x : Str} {c : Nat} (h : Word n x) (h1 : 1 ≤ n) (hc : okSign c = true) : Word (n + 1) (x ++ ⟨#[c]⟩) := by
  have e : (x ++ (⟨#[c]⟩ : Str)).cps.toList = x.cps.toList ++ [c] := by show (x.cps ++ #[c]).toList = _; rw [Array.toList_append]
  have hl : (x ++ (⟨#[c]⟩ : Str)).length = x.length + 1 := by show (x.cps ++ #[c]).size = _; rw [Array.size_append]; rfl
  refine ⟨by rw [hl, h.1], ?_, ?_⟩
  · rw [e]
    have h2 := h.2.1
    cases e2 : x.cps.toList with
    | nil => rw [e2] at h2; cases h2
    | cons d r => rw [e2] at h2; exact h2
  · rw [e, List.all_append, h.2.2]; simp [hc]
theorem Word.one {c : Nat} (h : decide (c ∈ Mir.letters.cps.toList) = true) : Word 1 ⟨#[c]⟩ := by
  refine ⟨rfl, h, ?_⟩
  show ([c].all okSign) = true
  unfold okSign
  simp only [List.all_cons, List.all_nil, h, Bool.true_or, Bool.and_true]
theorem at_mod26 {xs : List Nat} {i : Int} (hl : 26 ≤ xs.length) : ∃ v, atI xs (i % 26) = some v ∧ v ∈ xs.take 26 := by
  have h0 := Int.emod_nonneg i (show (26 : Int) ≠ 0 by decide)
  have h1 := Int.emod_lt_of_pos i (show (0 : Int) < 26 by decide)
  generalize i % 26 = j at h0 h1
  obtain ⟨k, rfl⟩ := Int.eq_ofNat_of_zero_le h0
  have hk : k < xs.length := by omega
  refine ⟨xs[k], atI_nat (List.getElem?_eq_getElem hk), ?_⟩
  refine List.mem_of_getElem? (i := k) ?_
  rw [List.getElem?_take_of_lt (by omega), List.getElem?_eq_getElem hk]
noncomputable def qn (k : Nat) : Str := ("q" : Str) ++ Str.ofString (toString ((0 : Int) + (k : Nat)))
theorem qn_facts : ∀ k ∈ List.range 9, ("q" : Str).length + (Str.ofString (toString ((0 : Int) + (k : Nat)))).length ≤ sizeLine ∧ isName (qn k) = true := by decide +kernel
noncomputable def qs : List Str := (List.range 9).map qn
theorem qs_nodup : qs.Nodup := by decide +kernel
theorem qs_left {xs : List Str} (h : xs.length ≤ 8) : ∃ y r, qs.filter (fun x => !decide (x ∈ xs)) = y :: r ∧ isName y = true := by
  cases e : qs.filter (fun x => !decide (x ∈ xs)) with
  | nil =>
    exfalso
    have hs : ∀ y ∈ qs, y ∈ xs := fun y hy => by
      apply Classical.byContradiction
      intro hn
      have : y ∈ qs.filter (fun x => !decide (x ∈ xs)) := List.mem_filter.mpr ⟨hy, by simpa using hn⟩
      rw [e] at this
      simp at this
    have h1 := List.Nodup.length_le_of_subset qs_nodup hs
    have h2 : qs.length = 9 := by unfold qs; rw [List.length_map, List.length_range]
    omega
  | cons y r =>
    refine ⟨y, r, rfl, ?_⟩
    have hm : y ∈ qs.filter (fun x => !decide (x ∈ xs)) := by rw [e]; exact List.mem_cons_self ..
    obtain ⟨k, hk, rfl⟩ := List.mem_map.mp (List.mem_filter.mp hm).1
    exact (qn_facts k hk).2
noncomputable def tTaken : TT := fun σ H Q => ∃ (wd : Str) (tk nl : Addr) (xs : List Str), σ[7]? = some (some (.str wd)) ∧ σ[3]? = some (some (.ref tk)) ∧ σ[4]? = some (some (.ref nl)) ∧ H tk = some (.lst (Mir.noNames.map V.str)) ∧ H nl = some (.lst (xs.map V.str)) ∧ ∀ b : Bool, (b = false → ¬ wd ∈ Mir.noNames) → Q b H
theorem taken_weak {K : PySem.W.Frag} (σ : St) (H : Hp) (Q : Bool → Hp → Prop) (h : tTaken σ H Q) : tOr (tTest (tOp (rIn K false) (tVar 7) (tVar 3))) (tTest (tOp (rIn K false) (tVar 7) (tVar 4))) σ H Q := by
  obtain ⟨wd, tk, nl, xs, h7, h3, h4, hT, hN, q⟩ := h
  refine ⟨_, h7, _, h3, tk, _, rfl, .inl (SqL.of hT), rfl, flat_strs Mir.noNames, _, rfl, iteB (fun c => q true (fun z => by cases z)) (fun c => ?_)⟩
  have c' : inV (.str wd) (Mir.noNames.map V.str) = false := c
  rw [inV_strs] at c'
  exact ⟨_, h7, _, h4, nl, _, rfl, .inl (SqL.of hN), rfl, flat_strs xs, _, rfl, q _ fun _ => of_decide_eq_false c'⟩
section
variable {P : Program} {w : World} {K : PySem.W.Frag} {mg : Str → Option Value} {base : Heap} {f g : Addr} {fd gd : FuncData}
theorem scTake : FnScope ["_law_feed", "_law_many", "_law_number"] ["_law_feed", "_law_many"] (defScope sTake) := ⟨rfl, rfl, rfl, by decide +kernel, rfl, by decide +kernel, by decide +kernel⟩
theorem ok_take (F : Fun K "_law_take" "_law_take" sTake f fd) : FnOk P w K mg base CX0 1 f fd ["_law_feed", "_law_many"] spTake := by
  refine F.okQ scTake (fun vs H Q E h => ?_) (fun cdv A outer s H vs Q E hr h => ?_)
  · obtain ⟨a, n, m, rfl, _⟩ := h; rfl
  obtain ⟨a, n, m, rfl, hA, h0, h1, q⟩ := h
  have nd := scTake.nd
  refine ⟨_, qb_cons (qs_set (i := 2) nd rfl (Or.inl rfl) (qe_ix ix_list (qv 0) qe_int (fun _ _ => rfl)))
    (qb_cons (qs_asg (qe_op op_fdiv (qv 2) (qv 1)) (qg_sub (qv 0) qe_int set_list)) (qb_one (qs_ret (qe_op op_mod (qv 2) (qv 1))))), ?_⟩
  refine ⟨_, rfl, a, _, 0, .int n, rfl, rfl, SqL.of hA, rfl, ?_⟩
  refine ⟨_, rfl, _, rfl, _, _, rfl, rfl, ⟨h0, h1⟩, _, rfl, a, _, 0, 0, rfl, rfl, hA, rfl, ?_⟩
  exact ⟨_, rfl, _, rfl, _, _, rfl, rfl, h0, q⟩
theorem scAnyNames : FnScope ["_law_cell", "_law_feed", "_law_letters", "_law_taken", "_law_names_here", "_law_k", "_law_size", "_law_word", "_law_j"] ["_law_cell"] (defScope sAnyNames) := ⟨rfl, rfl, rfl, by decide +kernel, rfl, by decide +kernel, by decide +kernel⟩
theorem ok_anyNames (C : Con K mg w) (hrg : mg "range" = none) (F : Fun K "_law_any_names" "_law_any_names" sAnyNames f fd) (G : FnOk P w K mg base CX0 1 g gd ["_law_feed", "_law_many"] spTake) (cG : Cal K mg "_law_take" g gd ["_law_feed", "_law_many"]) :
    FnOk P w K mg base CX0 2 f fd ["_law_cell"] (spMade mg) := by
  refine F.okQ scAnyNames (fun vs H Q E h => ?_) (fun cdv A outer s H vs Q E hr h => ?_)
  · obtain ⟨i, rfl, _⟩ := h; rfl
  obtain ⟨i, rfl, q⟩ := h
  have nd := scAnyNames.nd
  refine ⟨_, qb_cons (qs_set (i := 1) nd rfl (Or.inl rfl) (qe_lst (qa_nm (qv 0) qa_nil)))
    (qb_cons (qs_set (i := 2) nd rfl (Or.inl rfl) qe_str)
    (qb_cons (qs_set (i := 3) nd rfl (Or.inl rfl) (qe_lst (qa_str (qa_str (qa_str (qa_str (qa_str (qa_str (qa_str (qa_str (qa_str (qa_str qa_nil))))))))))))
    (qb_cons (qs_set (i := 4) nd rfl (Or.inr rfl) (qe_lst qa_nil))
    (qb_cons (qs_for PassesOwn.never rfl (qi_range1 rfl hrg (qa_int qa_nil)) (qg_name (i := 5) nd rfl (Or.inl rfl))
      (qb_cons (qs_set (i := 6) nd rfl (Or.inl rfl) (qe_op op_add qe_int (qe_call G hr rfl cG.name cG.keep cG.bind .nil pass0 (qa_nm (qv 1) (qa_int qa_nil)))))
      (qb_cons (qs_set (i := 7) nd rfl (Or.inl rfl) (qe_ix ix_str (qv 2) (qe_call G hr rfl cG.name cG.keep cG.bind .nil pass0 (qa_nm (qv 1) (qa_int qa_nil))) (fun _ _ => rfl)))
      (qb_cons (qs_for PassesOwn.never rfl (qi_range1 rfl hrg (qa_bop (qe_op op_sub (qv 6) qe_int) qa_nil)) (qg_name (i := 8) nd rfl (Or.inl rfl))
        (qb_one (qs_set (i := 7) nd rfl (Or.inl rfl) (qe_op op_add_str (qv 7) (qe_ix ix_str (qv 2) (qe_call G hr rfl cG.name cG.keep cG.bind .nil pass0 (qa_nm (qv 1) (qa_int qa_nil))) (fun _ _ => rfl))))))
      (qb_cons (qs_if (qt_weak (QW.qt (qw_or (qt_cmpR op_in_seq (qv 7) (qv 3) (by with_unfolding_all rfl)) (qw_or1 (qt_cmpR op_in_seq (qv 7) (qv 4) (by with_unfolding_all rfl))))) (taken_weak (K := K)))
        (qb_one (qs_set (i := 7) nd rfl (Or.inl rfl) (qe_ix ix_list (qe_comp1 4 (qi_list (qe_comp0 (qi_range1 rfl hrg (qa_int qa_nil)) (fun _ _ _ _ => qts_nil) (fun _ _ _ _ => qe_op op_add_str qe_str (qe_callTy call_str_int rfl C.str PyProof.Rows.boot_str (qa_nm (qv 0) qa_nil)))))
          (fun _ _ _ _ => qts_one (qt_cmpR (show OpR _ _ (rIn K true) from op_notIn_seq) (qv 0) (qv 1) (by with_unfolding_all rfl))) (fun _ _ _ _ => qv 0)) qe_int (fun _ _ => rfl)))) qb_nil)
      (qb_one (qs_expr (qe_bmK (K := K) rfl PySem.F.plainAttrs_list PySem.F.slot_list_append PySem.F.type_list_append mt_append (qv 4) (qa_nm (qv 7) qa_nil)))))))))
    (qb_one (qs_ret (qv 4))))))), ?_⟩
  refine ⟨_, rfl, (show 1 ≤ sizeLine by decide), fun fe hfe => ?_⟩
  have s1 := same_new hfe (.lst [.int i])
  refine ⟨(show 10 ≤ sizeLine by decide), fun tk htk => ?_⟩
  have s2 := same_new htk (.lst (Mir.noNames.map V.str))
  refine ⟨Nat.zero_le _, fun nl hnl => ?_⟩
  have s3 := same_new hnl (.lst [])
  have hft : fe ≠ tk := ne_of_none upd_same htk
  have hfn : fe ≠ nl := ne_of_none (s2 _ _ upd_same) hnl
  have htn : tk ≠ nl := ne_of_none upd_same hnl
  have hn0 : H nl = none := s1.free (s2.free hnl)
  refine ⟨_, rfl, (by decide), (by decide), ?_⟩
  refine for_range (lo := 0) (n := 8) (fun k σ H' => Same H H' ∧ ∃ n xs z5 z6 z7 z8, H' fe = some (.lst [.int n]) ∧ H' tk = some (.lst (Mir.noNames.map V.str)) ∧ H' nl = some (.lst ((xs : List Str).map V.str)) ∧ xs.length = k ∧ (∀ x ∈ xs, isName x = true) ∧
    σ = [some (.int i), some (.ref fe), some (.str letters36), some (.ref tk), some (.ref nl), z5, z6, z7, z8]) ⟨s1.trans (s2.trans s3), i, [], none, none, none, none, s3 _ _ (s2 _ _ upd_same), s3 _ _ upd_same, upd_same, rfl, by simp, rfl⟩ ?_ ?_
  · rintro k σ H' hk ⟨e, n, xs, z5, z6, z7, z8, hF, hT, hN, hxl, hxs, rfl⟩
    refine ⟨_, rfl, fe, n, 8, rfl, hF, by decide, by decide, _, _, rfl, rfl, ?_⟩
    have g0 := Int.emod_nonneg n (show (8 : Int) ≠ 0 by decide)
    have g1 := Int.emod_lt_of_pos n (show (0 : Int) < 8 by decide)
    obtain ⟨c, hc, hcm⟩ := at_mod26 (xs := letters36.cps.toList) (i := n / 8) (by rw [letters36_len]; decide)
    refine ⟨_, rfl, _, rfl, fe, n / 8, 26, rfl, upd_same, by decide, by decide, letters36, _, c, rfl, rfl, letters36_line, hc, ?_⟩
    refine ⟨_, rfl, _, _, rfl, rfl, _, rfl, (by show -(2 ^ 62) ≤ 1 + n % 8 - 1; omega), (by show 1 + n % 8 - 1 < 2 ^ 62; omega), ?_⟩
    have up : ∀ {Hx : Hp} {b : Addr} {o u : HO}, b ≠ fe → Hx b = some o → upd Hx fe u b = some o := fun hb hq => by rw [upd_ne hb]; exact hq
    refine for_range (lo := 0) (n := (1 + n % 8 - 1).toNat) (fun j σ H2 => Same H H2 ∧ ∃ n2 wd z8, H2 fe = some (.lst [.int n2]) ∧ H2 tk = some (.lst (Mir.noNames.map V.str)) ∧ H2 nl = some (.lst (xs.map V.str)) ∧ Word (1 + j) wd ∧
      σ = [some (.int i), some (.ref fe), some (.str letters36), some (.ref tk), some (.ref nl), some (.int (0 + (k : Int))), some (.int (1 + n % 8)), some (.str wd), z8])
      ⟨same_put hfe (same_put hfe e _) _, n / 8 / 26, ⟨#[c]⟩, z8, upd_same, up (Ne.symm hft) (up (Ne.symm hft) hT), up (Ne.symm hfn) (up (Ne.symm hfn) hN), Word.one (letters26_ok c hcm), rfl⟩ ?_ ?_
    · rintro j σ H2 hj ⟨e2, n2, wd, z8, hF2, hT2, hN2, hW, rfl⟩
      obtain ⟨d, hd, hdm⟩ := at_mod (xs := letters36.cps.toList) (m := 36) (i := n2) (by rw [letters36_len]; rfl) (by decide)
      refine ⟨_, rfl, _, rfl, _, rfl, fe, n2, 36, rfl, hF2, by decide, by decide, letters36, _, d, rfl, rfl, letters36_line, hd, wd, _, rfl, rfl, ?_, ?_⟩
      · rw [hW.1]; exact Nat.le_trans (show 1 + j + 1 ≤ 1000 by omega) (by decide)
      · exact ⟨same_put hfe e2 _, _, _, _, upd_same, up (Ne.symm hft) hT2, up (Ne.symm hfn) hN2, hW.more (by omega) (letters36_ok d hdm), rfl⟩
    · rintro σ H2 ⟨e2, n2, wd, z8, hF2, hT2, hN2, hW, rfl⟩
      have hx8 : xs.length ≤ 8 := by omega
      have fin : ∀ (H3 : Hp) (w2 : Str), Same H H3 → H3 fe = some (.lst [.int n2]) → H3 tk = some (.lst (Mir.noNames.map V.str)) → H3 nl = some (.lst (xs.map V.str)) → isName w2 = true → xs.length < sizeLine := fun _ _ _ _ _ _ _ => Nat.lt_of_le_of_lt hx8 (by decide)
      refine ⟨wd, tk, nl, xs, rfl, rfl, rfl, hT2, hN2, fun b hb => iteB (fun cb => ?_) (fun cb => ?_)⟩
      · -- another word in its place
        refine ⟨_, rfl, (by decide), (by decide), ?_⟩
        refine comp_str (nums 0 9) (List.range 9) qn jseq_rng trivial (by simp [nums]) (by simp [nums]) (fun i' x r hx hr' H4 e4 Q' q' => ?_) fun D1 H4 hD1 e4 hd1 => ?_
        · have hr9 : r ∈ List.range 9 := List.mem_of_getElem? hr'
          have hx' : x = .int ((0 : Int) + (r : Nat)) := by
            unfold nums at hx
            rw [List.getElem?_map, hr'] at hx
            exact (Option.some.inj hx).symm
          subst hx'
          have hlt : r < 9 := List.mem_range.mp hr9
          refine ⟨_, rfl, _, rfl, ?_, _, _, rfl, rfl, (qn_facts r hr9).1, q' H4 (Same.refl _)⟩
          exact Nat.lt_of_le_of_lt (Nat.log2_le_self _) (by omega)
        refine ⟨D1, rfl, ⟨_, SqL.of hd1⟩, ?_⟩
        refine comp_map (qs.map V.str) (fun v => !inV v (xs.map V.str)) id jseq_list (SqL.of hd1) ?_ ?_ ?_ ?_
        · rw [List.length_map]; exact (by decide +kernel : qs.length ≤ sizeLine)
        · intro v hv H5 e5 Q' q'
          obtain ⟨y, hy, rfl⟩ := List.mem_map.mp hv
          exact ⟨_, rfl, _, rfl, nl, _, rfl, .inl (SqL.of (e5 _ _ (e4 _ _ hN2))), rfl, flat_strs _, _, rfl, q' H5 (Same.refl _)⟩
        · intro v hv hpv H5 e5 Q' q'
          obtain ⟨y, hy, rfl⟩ := List.mem_map.mp hv
          exact ⟨_, rfl, q' H5 (Same.refl _)⟩
        · intro D2 H5 hD2 e5 hd2
          have hw : ((qs.map V.str).filter (fun v => !inV v (xs.map V.str))).map id = (qs.filter fun x => !decide (x ∈ xs)).map V.str := by
            rw [List.map_id, List.filter_map]
            congr 1
            apply List.filter_congr
            intro x _
            show (!inV (.str x) (xs.map V.str)) = _
            rw [inV_strs]
          rw [hw] at hd2
          obtain ⟨y, r, ey, hy⟩ := qs_left hx8
          rw [ey] at hd2
          have e6 := e4.trans e5
          refine ⟨D2, _, 0, .str y, rfl, rfl, SqL.of hd2, atI_nat (j := 0) rfl, ?_⟩
          refine ⟨_, rfl, .inl ⟨rfl, _, SqL.of (e6 _ _ hN2)⟩, _, rfl, nl, _, .str y, rfl, rfl, e6 _ _ hN2, ?_, ?_⟩
          · rw [List.length_map]; exact Nat.lt_of_le_of_lt hx8 (by decide)
          refine ⟨same_put hn0 (e2.trans e6) _, n2, xs ++ [y], _, _, _, _, ?_, ?_, ?_, ?_, ?_, rfl⟩
          · rw [upd_ne hfn]; exact e6 _ _ hF2
          · rw [upd_ne htn]; exact e6 _ _ hT2
          · rw [upd_same, List.map_append]; rfl
          · rw [List.length_append, List.length_singleton, hxl]
          · intro x hx
            rcases List.mem_append.mp hx with h | h
            · exact hxs x h
            · simp only [List.mem_cons, List.not_mem_nil, or_false] at h; rw [h]; exact hy
      · have hnm : isName wd = true := hW.name (by omega) (by omega) (hb cb)
        refine ⟨_, rfl, .inl ⟨rfl, _, SqL.of hN2⟩, _, rfl, nl, _, .str wd, rfl, rfl, hN2, ?_, ?_⟩
        · rw [List.length_map]; exact Nat.lt_of_le_of_lt hx8 (by decide)
        refine ⟨same_put hn0 e2 _, n2, xs ++ [wd], _, _, _, _, ?_, ?_, ?_, ?_, ?_, rfl⟩
        · rw [upd_ne hfn]; exact hF2
        · rw [upd_ne htn]; exact hT2
        · rw [upd_same, List.map_append]; rfl
        · rw [List.length_append, List.length_singleton, hxl]
        · intro x hx
          rcases List.mem_append.mp hx with h | h
          · exact hxs x h
          · simp only [List.mem_cons, List.not_mem_nil, or_false] at h; rw [h]; exact hnm
  · rintro σ H' ⟨e, n, xs, z5, z6, z7, z8, hF, hT, hN, hxl, hxs, rfl⟩
    exact ⟨_, rfl, q nl xs H' e hn0 hN hxl hxs⟩
end
noncomputable def jx : Str := "jx4jx4jx"
noncomputable def yy : Str := "y"
noncomputable def ah : Str := "abcdefgh"
noncomputable def s26 : Str := "abcdefghijklmnopqrstuvwxyz"
noncomputable def fig : Str := "0123456789"
noncomputable def s36 : Str := s26 ++ fig
noncomputable def jxWord (m : Int) : Str := cutS jx (some m) none ++ yy
noncomputable def jxName (m : Int) (k : Nat) : Str := cutS (jxWord m) none (some (1 + (0 + (k : Int))))
theorem jx_names : ∀ m ∈ [(0 : Int), 1], (cutS jx (some m) none).length + yy.length ≤ sizeLine ∧ (jxWord m).length ≤ sizeLine ∧ ∀ k ∈ List.range 8, isName (jxName m k) = true := by decide +kernel
theorem jx_line : jx.length ≤ sizeLine := by decide +kernel
theorem ah_line : ah.length ≤ sizeLine := by decide +kernel
theorem ah_len : (ah.cps.toList.length : Int) = 8 := by decide +kernel
theorem s26_len : s26.length = 26 := by decide +kernel
theorem s36_len : s36.length = 36 := by decide +kernel
theorem ah_ok : ∀ c ∈ ah.cps.toList, decide (c ∈ Mir.letters.cps.toList) = true ∧ okSign c = true := by decide +kernel
theorem s26_ok : ∀ c ∈ s26.cps.toList, decide (c ∈ Mir.letters.cps.toList) = true ∧ okSign c = true := by decide +kernel
theorem s36_ok : ∀ c ∈ s36.cps.toList, okSign c = true := by decide +kernel
noncomputable def far (l : List Nat) : Nat := (l.filter fun c => !decide (c ∈ ah.cps.toList)).length
theorem far_app (a b : List Nat) : far (a ++ b) = far a + far b := by unfold far; rw [List.filter_append, List.length_append]
theorem far_rep {c : Nat} (h : c ∈ ah.cps.toList) (n : Nat) : far (List.replicate n c) = 0 := by
  unfold far
  rw [List.filter_eq_nil_iff.mpr]
  · rfl
  · intro x hx
    rw [List.eq_of_mem_replicate hx]
    simp [h]
theorem far_one (d : Nat) : far [d] ≤ 1 := by unfold far; exact List.length_filter_le _ _
theorem far_no : ∀ x ∈ Mir.noNames, 2 ≤ far x.cps.toList := by decide +kernel
noncomputable def oneName (c0 d : Nat) (a b : Int) : Str := reps c0 a ++ ⟨#[d]⟩ ++ reps c0 b
theorem oneName_ok {c0 d : Nat} {a b : Int} (hc : c0 ∈ ah.cps.toList) (ha : 0 ≤ a) (hb : 0 ≤ b) (hab : a + b ≤ 7) (hd : okSign d = true) (h0 : a = 0 → decide (d ∈ Mir.letters.cps.toList) = true) : isName (oneName c0 d a b) = true := by
  have e : (oneName c0 d a b).cps.toList = List.replicate a.toNat c0 ++ [d] ++ List.replicate b.toNat c0 := by
    unfold oneName reps
    show (((List.replicate a.toNat c0).toArray ++ #[d]) ++ (List.replicate b.toNat c0).toArray).toList = _
    rw [Array.toList_append, Array.toList_append]
  have hl : (oneName c0 d a b).length = a.toNat + 1 + b.toNat := by
    show (oneName c0 d a b).cps.size = _
    rw [← Array.length_toList, e, List.length_append, List.length_append, List.length_replicate, List.length_replicate]; rfl
  have hco := ah_ok c0 hc
  have hW : Word (a.toNat + 1 + b.toNat) (oneName c0 d a b) := by
    refine ⟨hl, ?_, ?_⟩
    · rw [e]
      by_cases ha0 : a = 0
      · subst ha0; exact h0 rfl
      · obtain ⟨n, hn⟩ : ∃ n, a.toNat = n + 1 := ⟨a.toNat - 1, by omega⟩
        rw [hn, List.replicate_succ]
        exact hco.1
    · rw [e, List.all_append, List.all_append]
      have h1 : ∀ n, (List.replicate n c0).all okSign = true := fun n => by
        rw [List.all_eq_true]; intro x hx; rw [List.eq_of_mem_replicate hx]; exact hco.2
      rw [h1, h1]; simp [hd]
  refine hW.name (by omega) (by omega) fun hn => ?_
  have h1 := far_no _ hn
  rw [e, far_app, far_app, far_rep hc, far_rep hc] at h1
  have h2 := far_one d
  omega
theorem set_same {σ : St} {i : Nat} {v : Option V} (h : σ[i]? = some v) : σ.set i v = σ := by
  apply List.ext_getElem?
  intro j
  by_cases hj : i = j
  · subst hj
    rw [List.getElem?_set_self (List.getElem?_eq_some_iff.mp h).1, h]
  · rw [List.getElem?_set_ne hj]
noncomputable def tSome : TS := fun D σ H => ∃ a : Int, σ[4]? = some (some (.int a)) ∧ σ[6]? = some (some (.str s26)) ∧ ∀ sm : Str, (sm = s26 ∨ (0 < a ∧ sm = s36)) → D.nx (σ.set 6 (some (.str sm))) H
theorem some_weak (D : Ends) (σ : St) (H : Hp) (h : tSome D σ H) : tIfS (tTest (tOp (rI0 fun i j => .bl (decide (j < i))) (tVar 4) (tC (.int 0)))) (tAsg (tOp (fun x y H Q => ∃ i j, x = .str i ∧ y = .str j ∧ i.length + j.length ≤ sizeLine ∧ Q (.str (i ++ j)) H) (tVar 6) (tC (.str fig))) (gName 6)) tNext D σ H := by
  obtain ⟨a, h4, h6, q⟩ := h
  refine ⟨_, h4, _, _, rfl, rfl, _, rfl, iteB (fun c => ?_) (fun c => ?_)⟩
  · refine ⟨_, h6, s26, fig, rfl, rfl, by decide +kernel, ?_⟩
    exact q s36 (.inr ⟨of_decide_eq_true c, rfl⟩)
  · have := q s26 (.inl rfl)
    rw [set_same h6] at this
    exact this
section
variable {P : Program} {w : World} {K : PySem.W.Frag} {mg : Str → Option Value} {base : Heap} {f g : Addr} {fd gd : FuncData}
theorem scNames : FnScope ["_law_cell", "_law_word", "_law_k", "_law_size", "_law_at", "_law_other", "_law_some", "_law_names_here", "_law_one"] ["_law_cell"] (defScope sNames) := ⟨rfl, rfl, rfl, by decide +kernel, rfl, by decide +kernel, by decide +kernel⟩
theorem ok_names (C : Con K mg w) (hrg : mg "range" = none) (F : Fun K "_law_names" "_law_names" sNames f fd) :
    FnOk P w K mg base CX0 1 f fd ["_law_cell"] (spMade mg) := by
  refine F.okQ scNames (fun vs H Q E h => ?_) (fun cdv A outer s H vs Q E hr h => ?_)
  · obtain ⟨i, rfl, _⟩ := h; rfl
  obtain ⟨i, rfl, q⟩ := h
  have nd := scNames.nd
  refine ⟨_, qb_cons (qs_if (qt_cmpR op_eq (qe_op op_mod (qv 0) qe_int) qe_int (nomark _))
      (qb_cons (qs_set (i := 1) nd rfl (Or.inr rfl) (qe_op op_add_str (qe_slice sl_str qe_str (qo_some (qe_op op_mod (qe_op op_fdiv (qv 0) qe_int) qe_int)) qo_none) qe_str))
      (qb_one (qs_ret (qe_comp1 1 (qi_range1 rfl hrg (qa_int qa_nil)) (fun _ _ _ _ => qts_nil) (fun _ _ _ _ => qe_slice sl_str (qv 1) qo_none (qo_some (qe_op op_add qe_int (qv 0)))))))) qb_nil)
    (qb_cons (qs_set (i := 3) nd rfl (Or.inl rfl) (qe_op op_add qe_int (qe_op op_mod (qe_op op_fdiv (qv 0) qe_int) qe_int)))
    (qb_cons (qs_set (i := 4) nd rfl (Or.inl rfl) (qe_op op_mod (qe_op op_fdiv (qv 0) qe_int) (qv 3)))
    (qb_cons (qs_set (i := 5) nd rfl (Or.inl rfl) (qe_ix ix_str qe_str (qe_op op_mod (qe_op op_fdiv (qv 0) qe_int) qe_int) (fun _ _ => rfl)))
    (qb_cons (qs_set (i := 6) nd rfl (Or.inl rfl) qe_str)
    (qb_cons (qs_weak (qs_if (qt_cmpR op_gt (qv 4) qe_int (nomark _)) (qb_one (qs_set (i := 6) nd rfl (Or.inl rfl) (qe_op op_add_str (qv 6) qe_str))) qb_nil) some_weak)
    (qb_cons (qs_set (i := 7) nd rfl (Or.inl rfl) (qe_lst qa_nil))
    (qb_cons (qs_for PassesOwn.never rfl (qi_range1 rfl hrg (qa_int qa_nil)) (qg_name (i := 2) nd rfl (Or.inl rfl))
      (qb_cons (qs_set (i := 8) nd rfl (Or.inl rfl) (qe_ix ix_str (qv 6) (qe_op op_mod (qe_op op_add (qe_op op_fdiv (qv 0) qe_int) (qe_op op_mul (qv 2) (qe_op op_add qe_int (qe_op op_mod (qv 0) qe_int)))) (qe_callB call_len_str rfl C.len PySem.boot_len (qa_nm (qv 6) qa_nil))) (fun _ _ => rfl)))
      (qb_one (qs_expr (qe_bmK (K := K) rfl PySem.F.plainAttrs_list PySem.F.slot_list_append PySem.F.type_list_append mt_append (qv 7)
        (qa_bop (qe_op op_add_str (qe_op op_add_str (qe_op op_mul_sign (qv 5) (qv 4)) (qv 8)) (qe_op op_mul_sign (qv 5) (qe_op op_sub (qe_op op_sub (qv 3) qe_int) (qv 4)))) qa_nil))))))
    (qb_one (qs_ret (qv 7)))))))))), ?_⟩
  refine ⟨_, rfl, _, _, rfl, rfl, (show (0 : Int) < 3 by decide), rfl, _, rfl, iteB (fun c2 => ?_) (fun c2 => ?_)⟩
  · -- beginnings of one another
    have m0 := Int.emod_nonneg (i / 3) (show (2 : Int) ≠ 0 by decide)
    have m1 := Int.emod_lt_of_pos (i / 3) (show (0 : Int) < 2 by decide)
    have hm : i / 3 % 2 ∈ [(0 : Int), 1] := by
      simp only [List.mem_cons, List.not_mem_nil, or_false]; omega
    obtain ⟨j1, j2, j3⟩ := jx_names _ hm
    refine ⟨_, rfl, _, _, rfl, rfl, (show CDiv _ 3 from ⟨by decide, by decide⟩), _, _, rfl, rfl, (show (0 : Int) < 2 by decide), _, rfl, jx, rfl, jx_line, _, yy, rfl, rfl, j1, ?_⟩
    refine ⟨_, rfl, (by decide), (by decide), ?_⟩
    refine comp_str (nums 0 8) (List.range 8) (jxName (i / 3 % 2)) jseq_rng trivial (by simp [nums]) (by simp [nums]) (fun i' x r hx hr' H4 e4 Q' q' => ?_) fun D1 H4 hD1 e4 hd1 => ?_
    · have hx' : x = .int ((0 : Int) + (r : Nat)) := by
        unfold nums at hx
        rw [List.getElem?_map, hr'] at hx
        exact (Option.some.inj hx).symm
      subst hx'
      exact ⟨_, rfl, _, rfl, _, _, rfl, rfl, _, rfl, _, rfl, j2, q' H4 (Same.refl _)⟩
    · refine q D1 _ H4 e4 hD1 hd1 (by simp) fun x hx => ?_
      obtain ⟨k, hk, rfl⟩ := List.mem_map.mp hx
      exact j3 k hk
  have g0 := Int.emod_nonneg (i / 3) (show (8 : Int) ≠ 0 by decide)
  have g1 := Int.emod_lt_of_pos (i / 3) (show (0 : Int) < 8 by decide)
  have hsz : (0 : Int) < 1 + i / 3 % 8 := by omega
  have a0 := Int.emod_nonneg (i / 24) (show 1 + i / 3 % 8 ≠ 0 by omega)
  have a1 := Int.emod_lt_of_pos (i / 24) hsz
  obtain ⟨c0, hc0, hcm⟩ := at_mod (xs := ah.cps.toList) (m := 8) (i := i / 192) ah_len (by decide)
  refine ⟨_, rfl, _, _, rfl, rfl, (show CDiv _ 3 from ⟨by decide, by decide⟩), _, _, rfl, rfl, (show (0 : Int) < 8 by decide), _, _, rfl, rfl, ?_⟩
  refine ⟨_, rfl, _, _, rfl, rfl, (show CDiv _ 24 from ⟨by decide, by decide⟩), _, rfl, _, _, rfl, rfl, hsz, ?_⟩
  refine ⟨_, rfl, _, _, rfl, rfl, (show CDiv _ 192 from ⟨by decide, by decide⟩), _, _, rfl, rfl, (show (0 : Int) < 8 by decide), ah, _, c0, rfl, rfl, ah_line, hc0, ?_⟩
  refine ⟨_, rfl, rfl, fun sm hsm => ?_⟩
  have hsml : sm.length = 26 ∨ sm.length = 36 := by
    rcases hsm with h | h
    · exact .inl (by rw [h]; exact s26_len)
    · exact .inr (by rw [h.2]; exact s36_len)
  have hsmLine : sm.length ≤ sizeLine := by
    rcases hsml with h | h <;> rw [h] <;> decide
  have hsm2 : sm.cps.toList.length = sm.length := Array.length_toList ..
  refine ⟨Nat.zero_le _, fun nl hnl => ?_⟩
  have s1 := same_new hnl (.lst [])
  refine ⟨_, rfl, (by decide), (by decide), ?_⟩
  refine for_range (lo := 0) (n := 8) (fun k σ H' => Same H H' ∧ ∃ xs z2 z8, H' nl = some (.lst ((xs : List Str).map V.str)) ∧ xs.length = k ∧ (∀ x ∈ xs, isName x = true) ∧
    σ = [some (.int (i)), none, z2, some (.int (1 + i / 3 % 8)), some (.int (i / 24 % (1 + i / 3 % 8))), some (.str ⟨#[c0]⟩), some (.str sm), some (.ref nl), z8]) ⟨s1, [], none, none, upd_same, rfl, by simp, rfl⟩ ?_ ?_
  · rintro k σ H' hk ⟨e, xs, z2, z8, hN, hxl, hxs, rfl⟩
    obtain ⟨d, hd, hdm⟩ := at_mod (xs := sm.cps.toList) (m := (sm.length : Int)) (i := i / 1536 + (0 + (k : Int)) * (1 + i % 3)) (by rw [hsm2]) (by omega)
    refine ⟨_, rfl, _, rfl, _, _, rfl, rfl, (show CDiv _ 1536 from ⟨by decide, by decide⟩), _, rfl, _, rfl, _, _, rfl, rfl, (show (0 : Int) < 3 by decide), _, _, rfl, rfl, _, _, rfl, rfl, .inl ⟨by omega, by omega⟩, _, _, rfl, rfl, _, rfl, sm, rfl, hsmLine, _, _, rfl, rfl, (by omega), sm, _, d, rfl, rfl, hsmLine, hd, ?_⟩
    have hdo : okSign d = true := by
      rcases hsm with h | h
      · rw [h] at hdm; exact (s26_ok d hdm).2
      · rw [h.2] at hdm; exact s36_ok d hdm
    have hd0 : i / 24 % (1 + i / 3 % 8) = 0 → decide (d ∈ Mir.letters.cps.toList) = true := fun h0 => by
      rcases hsm with h | h
      · rw [h] at hdm; exact (s26_ok d hdm).1
      · have := h.1; omega
    have hnm := oneName_ok (c0 := c0) (d := d) (a := i / 24 % (1 + i / 3 % 8)) (b := 1 + i / 3 % 8 - 1 - i / 24 % (1 + i / 3 % 8)) hcm a0 (by omega) (by omega) hdo hd0
    have r1 : ∀ n : Int, (reps c0 n).length = n.toNat := fun n => by
      show (List.toArray _).size = _
      rw [List.size_toArray, List.length_replicate]
    refine ⟨_, rfl, .inl ⟨rfl, _, SqL.of hN⟩, _, rfl, _, rfl, c0, _, rfl, rfl, a0, (by omega), _, rfl, _, _, rfl, rfl, ?_, ?_⟩
    · rw [r1]; exact Nat.le_trans (show (i / 24 % (1 + i / 3 % 8)).toNat + 1 ≤ 1000 by omega) (by decide)
    refine ⟨_, rfl, _, rfl, _, _, rfl, rfl, _, rfl, _, _, rfl, rfl, c0, _, rfl, rfl, (by omega), (by omega), _, _, rfl, rfl, ?_, ?_⟩
    · have hl : (reps c0 (i / 24 % (1 + i / 3 % 8)) ++ (⟨#[d]⟩ : Str)).length = (i / 24 % (1 + i / 3 % 8)).toNat + 1 := by
        rw [Str.length_append, r1]; rfl
      rw [hl, r1]
      exact Nat.le_trans (show (i / 24 % (1 + i / 3 % 8)).toNat + 1 + (1 + i / 3 % 8 - 1 - i / 24 % (1 + i / 3 % 8)).toNat ≤ 1000 by omega) (by decide)
    refine ⟨nl, _, _, rfl, rfl, hN, ?_, ?_⟩
    · rw [List.length_map, hxl]; exact Nat.lt_of_le_of_lt (show k ≤ 1000 by omega) (by decide)
    refine ⟨same_put hnl e _, xs ++ [oneName c0 d (i / 24 % (1 + i / 3 % 8)) (1 + i / 3 % 8 - 1 - i / 24 % (1 + i / 3 % 8))], _, _, ?_, ?_, ?_, rfl⟩
    · rw [upd_same, List.map_append]; rfl
    · rw [List.length_append, List.length_singleton, hxl]
    · intro x hx
      rcases List.mem_append.mp hx with h | h
      · exact hxs x h
      · simp only [List.mem_cons, List.not_mem_nil, or_false] at h; rw [h]; exact hnm
  · rintro σ H' ⟨e, xs, z2, z8, hN, hxl, hxs, rfl⟩
    exact ⟨_, rfl, q nl xs H' e hnl hN hxl hxs⟩
end
end K43
namespace L2
open PySem PySem.Spec PyProof.Rows
end L2
namespace L2
open PySem PySem.Spec PyProof.Rows PySem.Builtin
section
variable {prog : Program} {w : World} {d : Addr} {es : Array DictEntry} {ep : Nat} {od : Obj}
end
section
variable {X : Cx}
end
section
variable {prog : Program} {w : World} {A : Around} {E : Value → Shared → Prop} {s : Shared} {d : Addr} {es : Array DictEntry} {ep : Nat} {od : Obj}
end
end L2
namespace L2
open PySem PySem.Spec
theorem comp_words {J : It} {H1 : Hp} {σ : St} {ix : List Nat} {tc : TT} {te : TE} {Q : VK} {I0 : Hp → Prop} (ws : List Str) (p : Str → Bool) (hJ : JSeq J I0 (ws.map V.str)) (h0 : I0 H1) (hz : ws.length ≤ 1000)
    (hc : ∀ n ∈ ws, ∀ H2, Same H1 H2 → ∀ Q' : Bool → Hp → Prop, (∀ H3, Same H2 H3 → Q' (p n) H3) → tc (some (.str n) :: frees σ ix) H2 Q')
    (he : ∀ (n : Str) H2 (Q' : VK), Q' (.str n) H2 → te (some (.str n) :: frees σ ix) H2 Q')
    (hQ : ∀ D H', H1 D = none → Same H1 H' → H' D = some (.lst ((ws.filter p).map V.str)) → Q (.ref D) H') : CompGo J H1 σ ix tc te Q := by
  have pv : ∀ n : Str, (fun v : V => match v with | .str i => p i | _ => false) (V.str n) = p n := fun n => rfl
  refine comp_map (ws.map V.str) (fun v => match v with | .str i => p i | _ => false) id hJ h0 (by rw [List.length_map]; exact Nat.le_trans hz (by decide)) ?_ ?_ ?_
  · intro x hx H2 e2 Q' q'
    obtain ⟨n, hn, rfl⟩ := List.mem_map.mp hx
    exact hc n hn H2 e2 Q' fun H3 e3 => q' H3 e3
  · intro x hx _ H2 e2 Q' q'
    obtain ⟨n, hn, rfl⟩ := List.mem_map.mp hx
    exact he n H2 Q' (q' H2 (Same.refl _))
  · intro D H' hD e hd
    refine hQ D H' hD e ?_
    rw [hd, List.map_id, List.filter_map]
    rfl
theorem seq_hide {a b : TS} {D : Ends} {σ : St} {H : Hp} (h : ∀ D' : Ends, (∀ σ H, b D σ H → D'.nx σ H) → (∀ v H, D.rt v H → D'.rt v H) → (∀ σ H, D.ct σ H → D'.ct σ H) → a D' σ H) : tSeq a b D σ H := h { D with nx := b D } (fun _ _ z => z) (fun _ _ z => z) (fun _ _ z => z)
end L2
namespace K43
open PySem PySem.Spec L2 Mir
noncomputable abbrev sTold : Stmt := top 9
noncomputable abbrev sAnyRow : Stmt := top 12
noncomputable abbrev sAnyTold : Stmt := top 13
noncomputable abbrev sCond : Stmt := top 16
theorem le_line {n : Nat} (h : n ≤ 1000) : n ≤ sizeLine := Nat.le_trans h (by decide)
theorem lt_line {n : Nat} (h : n ≤ 1000) : n < sizeLine := Nat.lt_of_le_of_lt h (by decide)
noncomputable def FactY (ys : List Str) (r : List Str) : Prop := ∃ k u v : Str, r = [k, u, v] ∧ (k = "is" ∨ k = "not") ∧ u ∈ ys ∧ v ∈ ys
noncomputable def PartY (ys : List Str) (r : List Str) : Prop := (∃ a f s : Str, r = [("cell" : Str), a, f, s] ∧ a ∈ ys ∧ (f ∈ ys ∨ f = "any") ∧ (s ∈ ys ∨ s = "any")) ∨ (∃ a b : Str, r = [("stretch" : Str), a, b] ∧ a ∈ ys ∧ b ∈ ys) ∨ ∃ a : Str, r = [("tree" : Str), a] ∧ a ∈ ys
theorem word_len (ys : List Str) (h0 : 0 < ys.length) (i : Int) : ∃ v : Str, atI (ys.map V.str) (i % (((ys.map V.str).length : Nat) : Int)) = some (.str v) ∧ v ∈ ys := by
  obtain ⟨v, hv, hm⟩ := at_mod (xs := ys.map V.str) (m := (((ys.map V.str).length : Nat) : Int)) (i := i) rfl (by rw [List.length_map]; omega)
  obtain ⟨y, hy, rfl⟩ := List.mem_map.mp hm
  exact ⟨y, hv, hy⟩
theorem word_n (ys : List Str) {n : Int} (hn : (ys.length : Int) = n) (h0 : 0 < n) (i : Int) : ∃ v : Str, atI (ys.map V.str) (i % n) = some (.str v) ∧ v ∈ ys := by
  obtain ⟨v, hv, hm⟩ := at_mod (xs := ys.map V.str) (m := n) (i := i) (by rw [List.length_map]; exact hn) h0
  obtain ⟨y, hy, rfl⟩ := List.mem_map.mp hm
  exact ⟨y, hv, hy⟩
theorem isnot_at (i : Int) : ∃ v : Str, atI [V.str "is", V.str "not"] (i % 2) = some (.str v) ∧ (v = "is" ∨ v = "not") := by
  obtain ⟨v, hv, hm⟩ := at_mod (xs := [V.str "is", V.str "not"]) (m := 2) (i := i) rfl (by decide)
  simp only [List.mem_cons, List.not_mem_nil, or_false] at hm
  rcases hm with rfl | rfl
  · exact ⟨_, hv, .inl rfl⟩
  · exact ⟨_, hv, .inr rfl⟩
structure NewT (K : PySem.W.Frag) (H H' : Hp) (t fa pa : Addr) (F P : List (List Str)) (ys : List Str) (n : Nat) : Prop where
  e : Same H H'
  nf : H fa = none
  np : H pa = none
  tup : H' t = some (.tup [.ref fa, .ref pa])
  facts : RowsAt K H' fa F
  parts : RowsAt K H' pa P
  okF : ∀ r ∈ F, FactY ys r
  okP : ∀ r ∈ P, PartY ys r
  lf : F.length ≤ n
  lp : P.length ≤ n
inductive spTold (K : PySem.W.Frag) (vs : List V) (H : Hp) (Q : VK) (E : XK) : Prop
  | mk (c : Int) (l : Addr) (xs : List Str) (h0 : vs = [.int c, .ref l]) (h1 : H l = some (.lst (xs.map V.str))) (h2 : xs.length ≤ 20) (q : ∀ t fa pa F P H', NewT K H H' t fa pa F P (xs ++ [("nil" : Str)]) 2 → Q (.ref t) H') : spTold K vs H Q E
inductive TI1 (K : PySem.W.Frag) (H : Hp) (c : Int) (l sm fa pa : Addr) (F : List (List Str)) (ys : List Str) (i : Nat) (σ : St) (H5 : Hp) : Prop
  | mk (as : List Addr) (P : List (List Str)) (z5 z6 z7 z8 : Option V) (e : Same H H5) (hsm : H5 sm = some (.lst (ys.map V.str))) (hF : RowsAt K H5 fa F) (hp : H5 pa = some (.lst (as.map V.ref))) (hpp : Paired (fun b r => RowAt K H5 b r) as P) (hl : P.length = i) (ok : ∀ r ∈ P, PartY ys r)
      (hs : σ = [some (.int c), some (.ref l), some (.ref sm), some (.ref fa), some (.ref pa), z5, z6, z7, z8]) : TI1 K H c l sm fa pa F ys i σ H5
theorem rows_put {K : PySem.W.Frag} {H : Hp} {l b : Addr} {xs ys : List V} {W : List (List Str)} (hl : H l = some (.lst xs)) (h : RowsAt K H b W) (hne : b ≠ l) : RowsAt K (upd H l (.lst ys)) b W := by
  obtain ⟨as, h1, h2⟩ := h
  exact ⟨as, by rw [upd_ne hne]; exact h1, Paired.mapP h2 fun _ _ z => row_put hl z⟩
section
variable {P : Program} {w : World} {K : PySem.W.Frag} {mg : Str → Option Value} {base : Heap} {f : Addr} {fd : FuncData}
theorem scTold : FnScope ["_law_cell", "_law_names_here", "_law_some", "_law_facts", "_law_parts", "_law_k", "_law_mixed", "_law_place", "_law_first"] ["_law_cell", "_law_names_here"] (defScope sTold) := ⟨rfl, rfl, rfl, by decide +kernel, rfl, by decide +kernel, by decide +kernel⟩
theorem ok_told (C : Con K mg w) (F : Fun K "_law_told" "_law_told" sTold f fd) : FnOk P w K mg base CX0 1 f fd ["_law_cell", "_law_names_here"] (spTold K) := by
  refine F.okQ scTold (fun vs H Q E h => ?_) (fun cdv A outer s0 H vs Q E hr h => ?_)
  · obtain ⟨c, l, xs, rfl, _⟩ := h; rfl
  obtain ⟨c, l, xs, rfl, hL, hx, q⟩ := h
  have nd := scTold.nd
  refine ⟨_, qb_cons (qs_set (i := 2) nd rfl (Or.inl rfl) (qe_op op_cat (qv 1) (qe_lst (qa_str qa_nil))))
    (qb_cons (qs_set (i := 3) nd rfl (Or.inl rfl) (qe_lst qa_nil))
    (qb_cons (qs_if (qt_cmpR op_eq (qe_op op_mod (qv 0) qe_int) qe_int (nomark _)) (qb_one (qs_expr (qe_bmK (K := K) rfl PySem.F.plainAttrs_list PySem.F.slot_list_append PySem.F.type_list_append mt_append (qv 3) (qa_tp (qa_sub (qe_ix ix_list (qe_lst (qa_str (qa_str qa_nil))) (qe_op op_mod (qe_op op_fdiv (qv 0) qe_int) qe_int) (fun _ _ => rfl)) (qa_sub (qe_ix ix_list (qv 2) (qe_op op_mod (qe_op op_fdiv (qv 0) qe_int) (qe_callB call_len_seq rfl C.len PySem.boot_len (qa_nm (qv 2) qa_nil))) (fun _ _ => rfl)) (qa_sub (qe_ix ix_list (qv 2) (qe_op op_mod (qe_op op_fdiv (qv 0) qe_int) (qe_callB call_len_seq rfl C.len PySem.boot_len (qa_nm (qv 2) qa_nil))) (fun _ _ => rfl)) qa_nil))) qa_nil)))) qb_nil)
    (qb_cons (qs_set (i := 4) nd rfl (Or.inl rfl) (qe_lst qa_nil))
    (qb_cons (qs_for PassesOwn.never rfl (qi_range1 rfl C.range (qa_bop (qe_op op_mod (qe_op op_fdiv (qv 0) qe_int) qe_int) qa_nil)) (qg_name (i := 5) nd rfl (Or.inl rfl)) (qb_cons (qs_set (i := 6) nd rfl (Or.inl rfl) (qe_op op_mod (qe_op op_mul (qe_op op_add (qe_op op_fdiv (qv 0) qe_int) qe_int) (qe_op op_add qe_int (qe_op op_mul qe_int (qv 5)))) qe_int))
    (qb_cons (qs_set (i := 7) nd rfl (Or.inl rfl) (qe_ix ix_list (qv 2) (qe_op op_mod (qv 6) (qe_callB call_len_seq rfl C.len PySem.boot_len (qa_nm (qv 2) qa_nil))) (fun _ _ => rfl)))
    (qb_cons (qs_set (i := 8) nd rfl (Or.inl rfl) (qe_ix ix_list (qe_op op_cat (qv 2) (qe_lst (qa_str qa_nil))) (qe_op op_mod (qe_op op_fdiv (qv 6) qe_int) (qe_op op_add (qe_callB call_len_seq rfl C.len PySem.boot_len (qa_nm (qv 2) qa_nil)) qe_int)) (fun _ _ => rfl)))
    (qb_one (qs_if (qt_cmpR op_eq (qe_op op_mod (qe_op op_fdiv (qv 6) qe_int) qe_int) qe_int (nomark _)) (qb_one (qs_expr (qe_bmK (K := K) rfl PySem.F.plainAttrs_list PySem.F.slot_list_append PySem.F.type_list_append mt_append (qv 4) (qa_tp (qa_str (qa_nm (qv 7) (qa_nm (qv 8) (qa_sub (qe_ix ix_list (qe_op op_cat (qv 2) (qe_lst (qa_str qa_nil))) (qe_op op_mod (qe_op op_fdiv (qv 6) qe_int) (qe_op op_add (qe_callB call_len_seq rfl C.len PySem.boot_len (qa_nm (qv 2) qa_nil)) qe_int)) (fun _ _ => rfl)) qa_nil)))) qa_nil)))) (qb_one (qs_if (qt_cmpR op_eq (qe_op op_mod (qe_op op_fdiv (qv 6) qe_int) qe_int) qe_int (nomark _)) (qb_one (qs_expr (qe_bmK (K := K) rfl PySem.F.plainAttrs_list PySem.F.slot_list_append PySem.F.type_list_append mt_append (qv 4) (qa_tp (qa_str (qa_nm (qv 7) (qa_sub (qe_ix ix_list (qv 2) (qe_op op_mod (qe_op op_fdiv (qv 6) qe_int) (qe_callB call_len_seq rfl C.len PySem.boot_len (qa_nm (qv 2) qa_nil))) (fun _ _ => rfl)) qa_nil))) qa_nil)))) (qb_one (qs_expr (qe_bmK (K := K) rfl PySem.F.plainAttrs_list PySem.F.slot_list_append PySem.F.type_list_append mt_append (qv 4) (qa_tp (qa_str (qa_nm (qv 7) qa_nil)) qa_nil))))))))))))
    (qb_one (qs_ret (qe_tup (qa_nm (qv 3) (qa_nm (qv 4) qa_nil))))))))), ?_⟩
  refine ⟨_, rfl, (show 1 ≤ sizeLine by decide), fun x1 hx1 => ?_⟩
  have s1 := same_new hx1 (.lst [.str "nil"])
  have k1 : (upd H x1 (.lst [.str "nil"])) x1 = some (.lst [.str "nil"]) := upd_same
  generalize upd H x1 (.lst [.str "nil"]) = H1 at s1 k1 ⊢
  refine ⟨l, x1, _, _, rfl, rfl, s1 _ _ hL, k1, le_line (by rw [List.length_map]; show _ + 1 ≤ 1000; omega), fun sm hsm => ?_⟩
  have s2 := same_new hsm (.lst (xs.map V.str ++ [.str "nil"]))
  have k2 : (upd H1 sm (.lst (xs.map V.str ++ [.str "nil"]))) sm = some (.lst ((xs ++ [("nil" : Str)]).map V.str)) := by rw [upd_same, List.map_append]; rfl
  have e2 := s1.trans s2
  have hyl : (xs ++ [("nil" : Str)]).length = xs.length + 1 := by rw [List.length_append]; rfl
  generalize upd H1 sm (.lst (xs.map V.str ++ [.str "nil"])) = H2 at k2 e2 ⊢
  generalize xs ++ [("nil" : Str)] = ys at k2 hyl q
  clear s1 s2 k1 hx1 hsm
  refine ⟨Nat.zero_le _, fun fa hfa => ?_⟩
  have s3 := same_new hfa (.lst [])
  have k3 : (upd H2 fa (.lst [])) fa = some (.lst []) := upd_same
  have nfa : H fa = none := e2.free hfa
  have e3 := e2.trans s3
  have hsm3 := s3 _ _ k2
  generalize upd H2 fa (.lst []) = H3 at s3 k3 e3 hsm3 ⊢
  dsimp only [gName]
  refine seq_hide (a := tIfS _ _ _) fun D' hN hRt hCt => ?_
  have rest : ∀ (F : List (List Str)) (H4 : Hp), Same H H4 → H4 sm = some (.lst (ys.map V.str)) → RowsAt K H4 fa F → (∀ r ∈ F, FactY ys r) → F.length ≤ 2 → D'.nx [some (.int c), some (.ref l), some (.ref sm), some (.ref fa), none, none, none, none, none] H4 := fun F H4 e4 hsm4 hF okF hFl => by
    refine hN _ _ ?_
    refine ⟨Nat.zero_le _, fun pa hpa => ?_⟩
    have s5 := same_new hpa (.lst [])
    have k5 : (upd H4 pa (.lst [])) pa = some (.lst []) := upd_same
    have npa : H pa = none := e4.free hpa
    obtain ⟨fas, hfa4, _⟩ := id hF
    have nfp : fa ≠ pa := ne_of_none hfa4 hpa
    have nsp : sm ≠ pa := ne_of_none hsm4 hpa
    have h3 := Int.emod_nonneg (c / 7) (show (3 : Int) ≠ 0 by decide)
    have h3' := Int.emod_lt_of_pos (c / 7) (show (0 : Int) < 3 by decide)
    refine ⟨_, rfl, _, _, rfl, rfl, (show CDiv _ 7 from ⟨by decide, by decide⟩), _, _, rfl, rfl, (show (0 : Int) < 3 by decide), _, rfl, by omega, by omega, ?_⟩
    refine for_range (lo := 0) (n := (c / 7 % 3).toNat) (TI1 K H c l sm fa pa F ys) ⟨[], [], none, none, none, none, e4.trans s5, s5 _ _ hsm4, hF.same s5, k5, .nil, rfl, (fun r hr => by cases hr), rfl⟩ ?_ ?_
    · rintro i σ H5 hi ⟨as, Ps, z5, z6, z7, z8, e5, hsm5, hF5, hp5, hpp5, hpl5, ok5, rfl⟩
      have hal := Paired.length hpp5
      refine ⟨_, rfl, _, _, rfl, rfl, (show CDiv _ 294 from ⟨by decide, by decide⟩), _, _, rfl, rfl, _, rfl, _, _, rfl, rfl, .inl ⟨by decide, by decide⟩, _, _, rfl, rfl, _, _, rfl, rfl, .inr ⟨by omega, by omega⟩, _, _, rfl, rfl, (show (0 : Int) < 2147483647 by decide), ?_⟩
      show gName _ (V.int ((c / 294 + 1) * (48271 + 7 * (0 + (i : Int))) % 2147483647)) _ _ _
      have hm0 := Int.emod_nonneg ((c / 294 + 1) * (48271 + 7 * (0 + (i : Int)))) (show (2147483647 : Int) ≠ 0 by decide)
      generalize (c / 294 + 1) * (48271 + 7 * (0 + (i : Int))) % 2147483647 = m at hm0 ⊢
      have hlp : (0 : Int) < (((ys.map V.str).length : Nat) : Int) := by rw [List.length_map]; omega
      have push : ∀ (t : Addr) (r : List Str) (H6 : Hp) (a b c' d : Option V), Same H5 H6 → H6 t = some (.tup (r.map V.str)) → PartY ys r → TI1 K H c l sm fa pa F ys (i + 1) [some (.int c), some (.ref l), some (.ref sm), some (.ref fa), some (.ref pa), a, b, c', d] (upd H6 pa (.lst (as.map V.ref ++ [.ref t]))) := fun t r H6 a b c' d e6 ht hr' => by
        have hp6 := e6 _ _ hp5
        refine ⟨as ++ [t], Ps ++ [r], a, b, c', d, fun b' o h => by rw [upd_ne (ne_of_none h npa)]; exact (e5.trans e6) _ _ h, by rw [upd_ne nsp]; exact e6 _ _ hsm5, rows_put hp6 (hF5.same e6) nfp, by rw [upd_same, List.map_append]; rfl, Paired.app (Paired.mapP hpp5 fun _ _ z => row_put hp6 (RowAt.same z e6)) (.cons (row_put hp6 (SqT.of ht)) .nil), by rw [List.length_append, hpl5]; rfl, fun x hx => ?_, rfl⟩
        rcases List.mem_append.mp hx with z | z
        · exact ok5 x z
        · rw [List.mem_singleton.mp z]; exact hr'
      obtain ⟨y1, hy1, hm1⟩ := word_len ys (by omega) m
      refine ⟨_, rfl, _, rfl, _, rfl, sm, _, rfl, .inl (SqL.of hsm5), _, _, rfl, rfl, hlp, sm, _, _, _, rfl, rfl, SqL.of hsm5, hy1, ?_⟩
      have more : ∀ n : Int, ∃ v : Str, atI ((ys ++ [("any" : Str)]).map V.str) (n % ((((ys.map V.str).length : Nat) : Int) + 1)) = some (.str v) ∧ (v ∈ ys ∨ v = "any") := fun n => by
        obtain ⟨v, hv, hm⟩ := word_n (ys ++ [("any" : Str)]) (n := (((ys.map V.str).length : Nat) : Int) + 1) (by rw [List.length_append, List.length_map]; rfl) (by omega) n
        refine ⟨v, hv, ?_⟩
        rcases List.mem_append.mp hm with z | z
        · exact .inl z
        · exact .inr (List.mem_singleton.mp z)
      obtain ⟨y2, hy2, hm2⟩ := more (m / 7)
      obtain ⟨y3, hy3, hm3⟩ := more (m / 168)
      obtain ⟨y4, hy4, hm4⟩ := word_len ys (by omega) (m / 168)
      refine ⟨_, rfl, (show 1 ≤ sizeLine by decide), fun x1 hx1 => ?_⟩
      have t1 := same_new hx1 (.lst [.str "any"])
      have u1 : (upd H5 x1 (.lst [.str "any"])) x1 = some (.lst [.str "any"]) := upd_same
      generalize upd H5 x1 (.lst [.str "any"]) = H6 at t1 u1 ⊢
      refine ⟨sm, x1, _, _, rfl, rfl, t1 _ _ hsm5, u1, le_line (by rw [List.length_map]; show _ + 1 ≤ 1000; omega), fun c1 hc1 => ?_⟩
      have t2 := same_new hc1 (.lst (ys.map V.str ++ [.str "any"]))
      have u2 : (upd H6 c1 (.lst (ys.map V.str ++ [.str "any"]))) c1 = some (.lst ((ys ++ [("any" : Str)]).map V.str)) := by rw [upd_same, List.map_append]; rfl
      have t12 := t1.trans t2
      generalize upd H6 c1 (.lst (ys.map V.str ++ [.str "any"])) = H7 at t2 u2 t12 ⊢
      have hsm7 := t12 _ _ hsm5
      refine ⟨_, rfl, _, _, rfl, rfl, (show CDiv _ 7 from ⟨by decide, by decide⟩), _, rfl, sm, _, rfl, .inl (SqL.of hsm7), _, _, rfl, rfl, _, _, rfl, rfl, (by omega), c1, _, _, _, rfl, rfl, SqL.of u2, hy2, ?_⟩
      have hp7 := t12 _ _ hp5
      refine ⟨_, rfl, _, _, rfl, rfl, (show CDiv _ 56 from ⟨by decide, by decide⟩), _, _, rfl, rfl, (show (0 : Int) < 3 by decide), rfl, _, rfl, iteB (fun _ => ?_) (fun _ => ?_)⟩
      · refine ⟨_, rfl, (.inl ⟨rfl, _, SqL.of hp7⟩), _, rfl, _, rfl, _, rfl, (show 1 ≤ sizeLine by decide), fun x2 hx2 => ?_⟩
        have t3 := same_new hx2 (.lst [.str "any"])
        have u3 : (upd H7 x2 (.lst [.str "any"])) x2 = some (.lst [.str "any"]) := upd_same
        generalize upd H7 x2 (.lst [.str "any"]) = H8 at t3 u3 ⊢
        refine ⟨sm, x2, _, _, rfl, rfl, t3 _ _ hsm7, u3, le_line (by rw [List.length_map]; show _ + 1 ≤ 1000; omega), fun c2 hc2 => ?_⟩
        have t4 := same_new hc2 (.lst (ys.map V.str ++ [.str "any"]))
        have u4 : (upd H8 c2 (.lst (ys.map V.str ++ [.str "any"]))) c2 = some (.lst ((ys ++ [("any" : Str)]).map V.str)) := by rw [upd_same, List.map_append]; rfl
        have t34 := t3.trans t4
        generalize upd H8 c2 (.lst (ys.map V.str ++ [.str "any"])) = H9 at t4 u4 t34 ⊢
        refine ⟨_, rfl, _, _, rfl, rfl, (show CDiv _ 168 from ⟨by decide, by decide⟩), _, rfl, sm, _, rfl, .inl (SqL.of (t34 _ _ hsm7)), _, _, rfl, rfl, _, _, rfl, rfl, (by omega), c2, _, _, _, rfl, rfl, SqL.of u4, hy3, ?_⟩
        refine ⟨(show 4 ≤ sizeLine by decide), fun t ht => ?_⟩
        have t5 := same_new ht (.tup [.str "cell", .str y1, .str y2, .str y3])
        exact ⟨pa, as.map V.ref, _, rfl, rfl, (t34.trans t5) _ _ hp7, lt_line (by rw [List.length_map]; omega), push t [("cell" : Str), y1, y2, y3] _ _ _ _ _ ((t12.trans t34).trans t5) upd_same (.inl ⟨y1, y2, y3, rfl, hm1, hm2, hm3⟩)⟩
      · refine ⟨_, rfl, _, _, rfl, rfl, (show CDiv _ 56 from ⟨by decide, by decide⟩), _, _, rfl, rfl, (show (0 : Int) < 3 by decide), rfl, _, rfl, iteB (fun _ => ?_) (fun _ => ?_)⟩
        · refine ⟨_, rfl, (.inl ⟨rfl, _, SqL.of hp7⟩), _, rfl, _, rfl, _, rfl, _, _, rfl, rfl, (show CDiv _ 168 from ⟨by decide, by decide⟩), _, rfl, sm, _, rfl, .inl (SqL.of hsm7), _, _, rfl, rfl, hlp, sm, _, _, _, rfl, rfl, SqL.of hsm7, hy4, ?_⟩
          refine ⟨(show 3 ≤ sizeLine by decide), fun t ht => ?_⟩
          have t5 := same_new ht (.tup [.str "stretch", .str y1, .str y4])
          exact ⟨pa, as.map V.ref, _, rfl, rfl, t5 _ _ hp7, lt_line (by rw [List.length_map]; omega), push t [("stretch" : Str), y1, y4] _ _ _ _ _ (t12.trans t5) upd_same (.inr (.inl ⟨y1, y4, rfl, hm1, hm4⟩))⟩
        · refine ⟨_, rfl, (.inl ⟨rfl, _, SqL.of hp7⟩), _, rfl, (show 2 ≤ sizeLine by decide), fun t ht => ?_⟩
          have t5 := same_new ht (.tup [.str "tree", .str y1])
          exact ⟨pa, as.map V.ref, _, rfl, rfl, t5 _ _ hp7, lt_line (by rw [List.length_map]; omega), push t [("tree" : Str), y1] _ _ _ _ _ (t12.trans t5) upd_same (.inr (.inr ⟨y1, rfl, hm1⟩))⟩
    · rintro σ H5 ⟨as, Ps, z5, z6, z7, z8, e5, hsm5, hF5, hp5, hpp5, hpl5, ok5, rfl⟩
      refine ⟨_, rfl, _, rfl, (show 2 ≤ sizeLine by decide), fun t ht => ?_⟩
      have s6 := same_new ht (.tup [.ref fa, .ref pa])
      exact q t fa pa F Ps _ ⟨e5.trans s6, nfa, npa, upd_same, hF5.same s6, ⟨as, s6 _ _ hp5, Paired.mapP hpp5 fun _ _ z => RowAt.same z s6⟩, okF, ok5, hFl, by omega⟩
  refine ⟨_, rfl, _, _, rfl, rfl, (show (0 : Int) < 3 by decide), rfl, _, rfl, iteB (fun _ => ?_) (fun _ => ?_)⟩
  · obtain ⟨wd, hwd, hwd'⟩ := isnot_at (c / 3)
    obtain ⟨y1, hy1, hm1⟩ := word_len ys (by omega) (c / 6)
    obtain ⟨y2, hy2, hm2⟩ := word_len ys (by omega) (c / 42)
    have hlp : (0 : Int) < (((ys.map V.str).length : Nat) : Int) := by rw [List.length_map]; omega
    refine ⟨_, rfl, (.inl ⟨rfl, _, SqL.of k3⟩), (show 2 ≤ sizeLine by decide), fun x2 hx2 => ?_⟩
    have t1 := same_new hx2 (.lst [.str "is", .str "not"])
    have u1 : (upd H3 x2 (.lst [.str "is", .str "not"])) x2 = some (.lst [.str "is", .str "not"]) := upd_same
    generalize upd H3 x2 (.lst [.str "is", .str "not"]) = H4 at t1 u1 ⊢
    have hsm4 := t1 _ _ hsm3
    refine ⟨_, rfl, _, _, rfl, rfl, (show CDiv _ 3 from ⟨by decide, by decide⟩), _, _, rfl, rfl, (show (0 : Int) < 2 by decide), x2, _, _, _, rfl, rfl, SqL.of u1, hwd, ?_⟩
    refine ⟨_, rfl, _, rfl, _, _, rfl, rfl, (show CDiv _ 6 from ⟨by decide, by decide⟩), _, rfl, sm, _, rfl, .inl (SqL.of hsm4), _, _, rfl, rfl, hlp, sm, _, _, _, rfl, rfl, SqL.of hsm4, hy1, ?_⟩
    refine ⟨_, rfl, _, rfl, _, _, rfl, rfl, (show CDiv _ 42 from ⟨by decide, by decide⟩), _, rfl, sm, _, rfl, .inl (SqL.of hsm4), _, _, rfl, rfl, hlp, sm, _, _, _, rfl, rfl, SqL.of hsm4, hy2, ?_⟩
    refine ⟨(show 3 ≤ sizeLine by decide), fun t ht => ?_⟩
    have t2 := same_new ht (.tup [.str wd, .str y1, .str y2])
    have u2 : (upd H4 t (.tup [.str wd, .str y1, .str y2])) t = some (.tup [.str wd, .str y1, .str y2]) := upd_same
    generalize upd H4 t (.tup [.str wd, .str y1, .str y2]) = H5 at t2 u2 ⊢
    have hfa5 := (t1.trans t2) _ _ k3
    have nsf : sm ≠ fa := ne_of_none k2 hfa
    refine ⟨fa, [], _, rfl, rfl, hfa5, lt_line (by decide), ?_⟩
    refine rest [[wd, y1, y2]] _ (fun b o h => by rw [upd_ne (ne_of_none h nfa)]; exact (e3.trans (t1.trans t2)) _ _ h) (by rw [upd_ne nsf]; exact (t1.trans t2) _ _ hsm3) ⟨[t], upd_same, .cons (row_put hfa5 (SqT.of u2)) .nil⟩ (fun r hr => ?_) (show 1 ≤ 2 by decide)
    rw [List.mem_singleton.mp hr]
    exact ⟨wd, y1, y2, rfl, hwd', hm1, hm2⟩
  · exact rest [] H3 e3 hsm3 ⟨[], k3, .nil⟩ (fun r hr => by cases hr) (by decide)
end
end K43
namespace L2
open PySem PySem.Spec
noncomputable def wo (H : Hp) (D : Addr) : Hp := fun c => if c = D then none else H c
theorem wo_ne {H : Hp} {D c : Addr} (h : c ≠ D) : wo H D c = H c := by unfold wo; rw [if_neg h]
theorem wo_self {H : Hp} {D : Addr} : wo H D D = none := by unfold wo; rw [if_pos rfl]
theorem wo_back {H : Hp} {D : Addr} : Same (wo H D) H := fun b u h => by
  by_cases c : b = D
  · subst c; rw [wo_self] at h; cases h
  · rw [wo_ne c] at h; exact h
theorem wo_upd {H : Hp} {D : Addr} {o : HO} : wo (upd H D o) D = wo H D := by
  funext c
  by_cases h : c = D
  · subst h; rw [wo_self, wo_self]
  · rw [wo_ne h, wo_ne h, upd_ne h]
theorem wo_new {H : Hp} {D p : Addr} {o : HO} (hp : H p = none) : Same (wo H D) (wo (upd H p o) D) := fun b u h => by
  by_cases c : b = D
  · subst c; rw [wo_self] at h; cases h
  · rw [wo_ne c] at h ⊢; rw [upd_ne (ne_of_none h hp)]; exact h
theorem wo_at {H : Hp} {D p : Addr} {o : HO} (hp : p ≠ D) : wo (upd H p o) D p = some o := by rw [wo_ne hp, upd_same]
structure FS (G : Hp) (fe : Addr) (H : Hp) (n : Int) : Prop where
  fed : H fe = some (.lst [.int n])
  g : Same G (wo H fe)
theorem FS.take {G H : Hp} {fe : Addr} {n k : Int} (h : FS G fe H n) : FS G fe (upd H fe (.lst [.int k])) k := ⟨upd_same, by rw [wo_upd]; exact h.g⟩
theorem FS.at {G H : Hp} {fe b : Addr} {n : Int} {o : HO} (h : FS G fe H n) (hb : G b = some o) : H b = some o := wo_back _ _ (h.g _ _ hb)
theorem FS.ne {H : Hp} {fe p : Addr} {n : Int} (h : H fe = some (.lst [.int n])) (hp : H p = none) : p ≠ fe := (ne_of_none h hp).symm
theorem FS.new {G H : Hp} {fe p : Addr} {n : Int} {o : HO} (h : FS G fe H n) (hp : H p = none) : FS (wo (upd H p o) fe) fe (upd H p o) n ∧ Same G (wo (upd H p o) fe) ∧ (wo (upd H p o) fe) p = some o :=
  ⟨⟨by rw [upd_ne (FS.ne h.fed hp).symm]; exact h.fed, Same.refl _⟩, h.g.trans (wo_new hp), wo_at (FS.ne h.fed hp)⟩
end L2
namespace K43
open PySem PySem.Spec L2 Mir
inductive spAnyRow (K : PySem.W.Frag) (vs : List V) (H : Hp) (Q : VK) (E : XK) : Prop
  | mk (fe sm : Addr) (n : Int) (ys : List Str) (sort : Str) (h0 : vs = [.ref fe, .ref sm, .str sort]) (h1 : H fe = some (.lst [.int n])) (h2 : H sm = some (.lst (ys.map V.str))) (h3 : 0 < ys.length) (h4 : ys.length ≤ 30)
      (q : ∀ t r n' H', FS (wo H fe) fe H' n' → (wo H' fe) t = some (.tup ((r : List Str).map V.str)) → (sort = "fact" → FactY ys r) → (¬ sort = "fact" → PartY ys r) → Q (.ref t) H') : spAnyRow K vs H Q E
theorem fed_ne {H : Hp} {fe sm : Addr} {n : Int} {ys : List Str} (h1 : H fe = some (.lst [.int n])) (h2 : H sm = some (.lst (ys.map V.str))) (h3 : 0 < ys.length) : sm ≠ fe := fun z => by
  rw [z, h1] at h2
  cases ys with
  | nil => cases h3
  | cons y ys => simp at h2
section
variable {P : Program} {w : World} {K : PySem.W.Frag} {mg : Str → Option Value} {base : Heap} {f gT gR : Addr} {fd dT dR : FuncData}
theorem scAnyRow : FnScope ["_law_feed", "_law_some", "_law_sort", "_law_way", "_law_place", "_law_more"] ["_law_feed", "_law_some", "_law_sort"] (defScope sAnyRow) := ⟨rfl, rfl, rfl, by decide +kernel, rfl, by decide +kernel, by decide +kernel⟩
theorem ok_anyRow (C : Con K mg w) (F : Fun K "_law_any_row" "_law_any_row" sAnyRow f fd) (GT : FnOk P w K mg base CX0 1 gT dT ["_law_feed", "_law_many"] spTake) (cT : Cal K mg "_law_take" gT dT ["_law_feed", "_law_many"]) : FnOk P w K mg base CX0 2 f fd ["_law_feed", "_law_some", "_law_sort"] (spAnyRow K) := by
  refine F.okQ scAnyRow (fun vs H Q E h => ?_) (fun cdv A outer s0 H vs Q E hr h => ?_)
  · obtain ⟨fe, sm, n, ys, sort, rfl, _⟩ := h; rfl
  obtain ⟨fe, sm, n, ys, sort, rfl, hfe, hsm, h0, h30, q⟩ := h
  have nd := scAnyRow.nd
  have hne := fed_ne hfe hsm h0
  have hl0 : (0 : Int) < (((ys.map V.str).length : Nat) : Int) := by rw [List.length_map]; omega
  have hl1 : (((ys.map V.str).length : Nat) : Int) < 1073741824 := by rw [List.length_map]; omega
  have S0 : FS (wo H fe) fe H n := ⟨hfe, Same.refl _⟩
  have hsG : (wo H fe) sm = some (.lst (ys.map V.str)) := by rw [wo_ne hne]; exact hsm
  refine ⟨_, qb_cons (qs_if (qt_cmpR op_eq (qv 2) qe_str (nomark _)) (qb_one (qs_ret (qe_tup (qa_sub (qe_ix ix_list (qe_lst (qa_str (qa_str qa_nil))) (qe_call GT hr rfl cT.name cT.keep cT.bind .nil pass0 (qa_nm (qv 0) (qa_int qa_nil))) (fun _ _ => rfl)) (qa_sub (qe_ix ix_list (qv 1) (qe_call GT hr rfl cT.name cT.keep cT.bind .nil pass0 (qa_nm (qv 0) (qa_call (qe_callB call_len_seq rfl C.len PySem.boot_len (qa_nm (qv 1) qa_nil)) qa_nil))) (fun _ _ => rfl)) (qa_sub (qe_ix ix_list (qv 1) (qe_call GT hr rfl cT.name cT.keep cT.bind .nil pass0 (qa_nm (qv 0) (qa_call (qe_callB call_len_seq rfl C.len PySem.boot_len (qa_nm (qv 1) qa_nil)) qa_nil))) (fun _ _ => rfl)) qa_nil)))))) qb_nil)
    (qb_cons (qs_set (i := 3) nd rfl (Or.inl rfl) (qe_call GT hr rfl cT.name cT.keep cT.bind .nil pass0 (qa_nm (qv 0) (qa_int qa_nil))))
    (qb_cons (qs_set (i := 4) nd rfl (Or.inl rfl) (qe_ix ix_list (qv 1) (qe_call GT hr rfl cT.name cT.keep cT.bind .nil pass0 (qa_nm (qv 0) (qa_call (qe_callB call_len_seq rfl C.len PySem.boot_len (qa_nm (qv 1) qa_nil)) qa_nil))) (fun _ _ => rfl)))
    (qb_cons (qs_if (qt_cmpR op_eq (qv 3) qe_int (nomark _)) (qb_cons (qs_set (i := 5) nd rfl (Or.inl rfl) (qe_op op_cat (qv 1) (qe_lst (qa_str qa_nil))))
    (qb_one (qs_ret (qe_tup (qa_str (qa_nm (qv 4) (qa_sub (qe_ix ix_list (qv 5) (qe_call GT hr rfl cT.name cT.keep cT.bind .nil pass0 (qa_nm (qv 0) (qa_call (qe_callB call_len_seq rfl C.len PySem.boot_len (qa_nm (qv 5) qa_nil)) qa_nil))) (fun _ _ => rfl)) (qa_sub (qe_ix ix_list (qv 5) (qe_call GT hr rfl cT.name cT.keep cT.bind .nil pass0 (qa_nm (qv 0) (qa_call (qe_callB call_len_seq rfl C.len PySem.boot_len (qa_nm (qv 5) qa_nil)) qa_nil))) (fun _ _ => rfl)) qa_nil)))))))) qb_nil)
    (qb_cons (qs_if (qt_cmpR op_eq (qv 3) qe_int (nomark _)) (qb_one (qs_ret (qe_tup (qa_str (qa_nm (qv 4) (qa_sub (qe_ix ix_list (qv 1) (qe_call GT hr rfl cT.name cT.keep cT.bind .nil pass0 (qa_nm (qv 0) (qa_call (qe_callB call_len_seq rfl C.len PySem.boot_len (qa_nm (qv 1) qa_nil)) qa_nil))) (fun _ _ => rfl)) qa_nil)))))) qb_nil)
    (qb_one (qs_ret (qe_tup (qa_str (qa_nm (qv 4) qa_nil))))))))), ?_⟩
  refine ⟨_, rfl, rfl, _, rfl, iteB (fun c => ?_) (fun c => ?_)⟩
  · have c' : sort = "fact" := by simpa using c
    refine ⟨(show 2 ≤ sizeLine by decide), fun x1 hx1 => ?_⟩
    obtain ⟨S1, e1, u1⟩ := S0.new (o := .lst [.str "is", .str "not"]) hx1
    generalize upd H x1 (.lst [.str "is", .str "not"]) = H1 at S1 e1 u1 ⊢
    obtain ⟨wd, hwd, hwd'⟩ := isnot_at n
    refine ⟨_, rfl, fe, n, 2, rfl, S1.fed, by decide, by decide, ?_⟩
    have S2 := S1.take (k := n / 2)
    generalize upd H1 fe (.lst [.int (n / 2)]) = H2 at S2 ⊢
    generalize n / 2 = n2 at S2
    obtain ⟨y1, hy1, hm1⟩ := word_len ys h0 n2
    refine ⟨x1, _, _, _, rfl, rfl, SqL.of (S2.at u1), hwd, ?_⟩
    refine ⟨_, rfl, _, rfl, _, rfl, sm, _, rfl, .inl (SqL.of (S2.at (e1 _ _ hsG))), fe, n2, _, rfl, S2.fed, hl0, hl1, ?_⟩
    have S3 := S2.take (k := n2 / (((ys.map V.str).length : Nat) : Int))
    generalize upd H2 fe (.lst [.int (n2 / (((ys.map V.str).length : Nat) : Int))]) = H3 at S3 ⊢
    generalize n2 / (((ys.map V.str).length : Nat) : Int) = n3 at S3
    obtain ⟨y2, hy2, hm2⟩ := word_len ys h0 n3
    refine ⟨sm, _, _, _, rfl, rfl, SqL.of (S3.at (e1 _ _ hsG)), hy1, ?_⟩
    refine ⟨_, rfl, _, rfl, _, rfl, sm, _, rfl, .inl (SqL.of (S3.at (e1 _ _ hsG))), fe, n3, _, rfl, S3.fed, hl0, hl1, ?_⟩
    have S4 := S3.take (k := n3 / (((ys.map V.str).length : Nat) : Int))
    generalize upd H3 fe (.lst [.int (n3 / (((ys.map V.str).length : Nat) : Int))]) = H4 at S4 ⊢
    refine ⟨sm, _, _, _, rfl, rfl, SqL.of (S4.at (e1 _ _ hsG)), hy2, (show 3 ≤ sizeLine by decide), fun t ht => ?_⟩
    obtain ⟨S5, e5, u5⟩ := S4.new (o := .tup [.str wd, .str y1, .str y2]) ht
    exact q t [wd, y1, y2] _ _ ⟨S5.fed, e1.trans e5⟩ u5 (fun _ => ⟨wd, y1, y2, rfl, hwd', hm1, hm2⟩) (fun z => absurd c' z)
  have c' : ¬ sort = "fact" := by simpa using c
  refine ⟨_, rfl, fe, n, 3, rfl, S0.fed, by decide, by decide, ?_⟩
  have S1 := S0.take (k := n / 3)
  generalize upd H fe (.lst [.int (n / 3)]) = H1 at S1 ⊢
  generalize n / 3 = n1 at S1
  obtain ⟨y1, hy1, hm1⟩ := word_len ys h0 n1
  refine ⟨_, rfl, _, rfl, _, rfl, sm, _, rfl, .inl (SqL.of (S1.at hsG)), fe, n1, _, rfl, S1.fed, hl0, hl1, ?_⟩
  have S2 := S1.take (k := n1 / (((ys.map V.str).length : Nat) : Int))
  generalize upd H1 fe (.lst [.int (n1 / (((ys.map V.str).length : Nat) : Int))]) = H2 at S2 ⊢
  generalize n1 / (((ys.map V.str).length : Nat) : Int) = n2 at S2
  refine ⟨sm, _, _, _, rfl, rfl, SqL.of (S2.at hsG), hy1, ?_⟩
  refine ⟨_, rfl, rfl, _, rfl, iteB (fun _ => ?_) (fun _ => ?_)⟩
  · refine ⟨_, rfl, (show 1 ≤ sizeLine by decide), fun x1 hx1 => ?_⟩
    obtain ⟨S3, e3, u3⟩ := S2.new (o := .lst [.str "any"]) hx1
    generalize upd H2 x1 (.lst [.str "any"]) = H3 at S3 e3 u3 ⊢
    refine ⟨sm, x1, _, _, rfl, rfl, S3.at (e3 _ _ hsG), S3.at u3, le_line (by rw [List.length_map]; show _ + 1 ≤ 1000; omega), fun mo hmo => ?_⟩
    obtain ⟨S4, e4, u4⟩ := S3.new (o := .lst (ys.map V.str ++ [.str "any"])) hmo
    have u4' : (wo (upd H3 mo (.lst (ys.map V.str ++ [.str "any"]))) fe) mo = some (.lst ((ys ++ [("any" : Str)]).map V.str)) := by rw [u4, List.map_append]; rfl
    have hzl : (ys ++ [("any" : Str)]).length = ys.length + 1 := by rw [List.length_append]; rfl
    have hzm : ∀ z ∈ ys ++ [("any" : Str)], z ∈ ys ∨ z = "any" := fun z hz => (List.mem_append.mp hz).imp id List.mem_singleton.mp
    generalize ys ++ [("any" : Str)] = zs at u4' hzl hzm
    generalize upd H3 mo (.lst (ys.map V.str ++ [.str "any"])) = H4 at S4 e4 u4' ⊢
    have hz0 : (0 : Int) < (((zs.map V.str).length : Nat) : Int) := by rw [List.length_map]; omega
    have hz1 : (((zs.map V.str).length : Nat) : Int) < 1073741824 := by rw [List.length_map]; omega
    obtain ⟨y2, hy2, hm2⟩ := word_len zs (by omega) n2
    refine ⟨_, rfl, _, rfl, _, rfl, _, rfl, mo, _, rfl, .inl (SqL.of (S4.at u4')), fe, n2, _, rfl, S4.fed, hz0, hz1, ?_⟩
    have S5 := S4.take (k := n2 / (((zs.map V.str).length : Nat) : Int))
    generalize upd H4 fe (.lst [.int (n2 / (((zs.map V.str).length : Nat) : Int))]) = H5 at S5 ⊢
    generalize n2 / (((zs.map V.str).length : Nat) : Int) = n5 at S5
    obtain ⟨y3, hy3, hm3⟩ := word_len zs (by omega) n5
    refine ⟨mo, _, _, _, rfl, rfl, SqL.of (S5.at u4'), hy2, _, rfl, _, rfl, _, rfl, mo, _, rfl, .inl (SqL.of (S5.at u4')), fe, n5, _, rfl, S5.fed, hz0, hz1, ?_⟩
    have S6 := S5.take (k := n5 / (((zs.map V.str).length : Nat) : Int))
    generalize upd H5 fe (.lst [.int (n5 / (((zs.map V.str).length : Nat) : Int))]) = H6 at S6 ⊢
    refine ⟨mo, _, _, _, rfl, rfl, SqL.of (S6.at u4'), hy3, (show 4 ≤ sizeLine by decide), fun t ht => ?_⟩
    obtain ⟨S7, e7, u7⟩ := S6.new (o := .tup [.str "cell", .str y1, .str y2, .str y3]) ht
    exact q t [("cell" : Str), y1, y2, y3] _ _ ⟨S7.fed, (e3.trans e4).trans e7⟩ u7 (fun z => absurd z c') (fun _ => .inl ⟨y1, y2, y3, rfl, hm1, hzm _ hm2, hzm _ hm3⟩)
  refine ⟨_, rfl, rfl, _, rfl, iteB (fun _ => ?_) (fun _ => ?_)⟩
  · obtain ⟨y2, hy2, hm2⟩ := word_len ys h0 n2
    refine ⟨_, rfl, _, rfl, _, rfl, _, rfl, sm, _, rfl, .inl (SqL.of (S2.at hsG)), fe, n2, _, rfl, S2.fed, hl0, hl1, ?_⟩
    have S5 := S2.take (k := n2 / (((ys.map V.str).length : Nat) : Int))
    generalize upd H2 fe (.lst [.int (n2 / (((ys.map V.str).length : Nat) : Int))]) = H5 at S5 ⊢
    refine ⟨sm, _, _, _, rfl, rfl, SqL.of (S5.at hsG), hy2, (show 3 ≤ sizeLine by decide), fun t ht => ?_⟩
    obtain ⟨S7, e7, u7⟩ := S5.new (o := .tup [.str "stretch", .str y1, .str y2]) ht
    exact q t [("stretch" : Str), y1, y2] _ _ ⟨S7.fed, e7⟩ u7 (fun z => absurd z c') (fun _ => .inr (.inl ⟨y1, y2, rfl, hm1, hm2⟩))
  · refine ⟨_, rfl, (show 2 ≤ sizeLine by decide), fun t ht => ?_⟩
    obtain ⟨S7, e7, u7⟩ := S2.new (o := .tup [.str "tree", .str y1]) ht
    exact q t [("tree" : Str), y1] _ _ ⟨S7.fed, e7⟩ u7 (fun z => absurd z c') (fun _ => .inr (.inr ⟨y1, rfl, hm1⟩))
end
end K43
namespace L2
open PySem PySem.Spec
theorem ixK {X : Cx} {K : PySem.W.Frag} (h : X.K = K) : IxR X (rIxL K) := by subst h; exact ix_list
theorem wo_put {H : Hp} {D fe : Addr} {o : HO} (h : D ≠ fe) : wo (upd H D o) fe = upd (wo H fe) D o := by
  funext c
  by_cases h1 : c = fe
  · subst h1; rw [wo_self, upd_ne h.symm, wo_self]
  · rw [wo_ne h1]
    by_cases h2 : c = D
    · subst h2; rw [upd_same, upd_same]
    · rw [upd_ne h2, upd_ne h2, wo_ne h1]
theorem Same.new {G G' : Hp} {D : Addr} {o : HO} (e : Same G G') (hD : G D = none) : Same G (upd G' D o) := fun b u h => by rw [upd_ne (ne_of_none h hD)]; exact e b u h
theorem row_putL {K : PySem.W.Frag} {H : Hp} {l b : Addr} {xs ys : List V} {r : List Str} (hl : H l = some (.lst xs)) (h : RowAt K H b r) : RowAt K (upd H l (.lst ys)) b r := by
  rcases h with (h | ⟨o, h⟩) | h
  · have hne : b ≠ l := fun e => by rw [e, hl] at h; cases h
    exact .inl (.inl (by show upd H l _ b = _; rw [upd_ne hne]; exact h))
  · have hne : b ≠ l := fun e => by rw [e, hl] at h; cases h
    exact .inl (.inr ⟨o, by show upd H l _ b = _; rw [upd_ne hne]; exact h⟩)
  · exact .inr h
theorem comp_feed {K : PySem.W.Frag} {G H1 : Hp} {σ : St} {ix : List Nat} {te : TE} {Q : VK} {fe : Addr} {n1 : Int} {N : Nat} (Pr : List Str → Prop) (hN : N ≤ 1000) (S1 : FS G fe H1 n1)
    (he : ∀ (D : Addr) (i : Nat) H2 n2, FS G fe H2 n2 → H2 D ≠ none → ∀ Q' : VK, (∀ b r n3 H3, FS (wo H2 fe) fe H3 n3 → (wo H3 fe) b = some (.tup ((r : List Str).map V.str)) → Pr r → Q' (.ref b) H3) → te (some (.int (0 + (i : Int))) :: frees σ ix) H2 Q')
    (hQ : ∀ D H' n' rs, H1 D = none → FS G fe H' n' → RowsAt K (wo H' fe) D rs → rs.length = N → (∀ r ∈ rs, Pr r) → Q (.ref D) H') : CompGo (Itr 0 N) H1 σ ix tYes te Q := by
  intro D hD
  have hDf : D ≠ fe := FS.ne S1.fed hD
  have hGD : G D = none := by
    cases q : G D with
    | none => rfl
    | some o => have := S1.at q; rw [hD] at this; cases this
  refine ⟨fun i m H => i ≤ N ∧ m = N - i ∧ ∃ (n : Int) (as : List Addr) (rs : List (List Str)), FS G fe H n ∧ (wo H fe) D = some (.lst (as.map V.ref)) ∧ Paired (fun b r => RowAt K (wo H fe) b r) as rs ∧ rs.length = i ∧ ∀ r ∈ rs, Pr r, ⟨N, Nat.zero_le _, rfl, n1, [], [], ⟨?_, ?_⟩, ?_, .nil, rfl, (fun r hr => by cases hr)⟩, ?_⟩
  · rw [upd_ne hDf.symm]; exact S1.fed
  · rw [wo_put hDf]; exact S1.g.new hGD
  · rw [wo_put hDf, upd_same]; rfl
  rintro i m H ⟨hi, rfl, n, as, rs, S, hDl, hpp, hlen, hPr⟩
  by_cases hlt : i < N
  · refine .inr ⟨hlt, fun x H' hy => ?_⟩
    obtain ⟨rfl, rfl⟩ := hy
    have hDl' : H' D = some (.lst (as.map V.ref)) := wo_back _ _ hDl
    refine he D i H' n S (by rw [hDl']; simp) _ fun b r n3 H3 S3 hb hr => ?_
    have hal := Paired.length hpp
    have hD3 : (wo H3 fe) D = some (.lst (as.map V.ref)) := S3.g _ _ hDl
    refine ⟨as.map V.ref, wo_back _ _ hD3, Nat.lt_of_le_of_lt (by rw [List.length_map]; omega : _ ≤ 1000) (by decide), N - (i + 1), by omega, hlt, rfl, n3, as ++ [b], rs ++ [r], ⟨?_, ?_⟩, ?_, ?_, ?_, ?_⟩
    · rw [upd_ne hDf.symm]; exact S3.fed
    · rw [wo_put hDf]; exact (S.g.trans S3.g).new hGD
    · rw [wo_put hDf, upd_same, List.map_append]; rfl
    · rw [wo_put hDf]
      refine Paired.snocP (Paired.mapP hpp fun x y z => ?_) ?_
      · exact row_putL hD3 (RowAt.same z S3.g)
      · exact row_putL hD3 (SqT.of hb)
    · rw [List.length_append, hlen]; rfl
    · intro x hx
      rcases List.mem_append.mp hx with z | z
      · exact hPr x z
      · rw [List.mem_singleton.mp z]; exact hr
  · have e : i = N := by omega
    subst e
    exact .inl ⟨Nat.le_refl _, hQ D H n rs hD S ⟨as, hDl, hpp⟩ hlen hPr⟩
end L2
namespace K43
open PySem PySem.Spec L2 Mir
inductive spAnyTold (K : PySem.W.Frag) (vs : List V) (H : Hp) (Q : VK) (E : XK) : Prop
  | mk (fe ow : Addr) (n : Int) (xs : List Str) (mo : Nat) (h0 : vs = [.ref fe, .ref ow, .int (mo : Int)]) (h1 : H fe = some (.lst [.int n])) (h2 : H ow = some (.lst (xs.map V.str))) (h3 : ow ≠ fe) (h4 : xs.length ≤ 20) (h5 : mo ≤ 10)
      (q : ∀ t fa pa F P n' H', FS (wo H fe) fe H' n' → NewT K (wo H fe) (wo H' fe) t fa pa F P (xs ++ [("nil" : Str)]) mo → Q (.ref t) H') : spAnyTold K vs H Q E
inductive spCond (K : PySem.W.Frag) (vs : List V) (H : Hp) (Q : VK) (E : XK) : Prop
  | mk (m : Int) (ow : Addr) (xs : List Str) (h0 : vs = [.int m, .ref ow]) (h2 : H ow = some (.lst (xs.map V.str))) (h4 : xs.length ≤ 20)
      (q : ∀ t r H', Same H H' → H' t = some (.tup ((r : List Str).map V.str)) → FactY (xs ++ [("nil" : Str)]) r → Q (.ref t) H') : spCond K vs H Q E
section
variable {P : Program} {w : World} {K : PySem.W.Frag} {mg : Str → Option Value} {base : Heap} {f gT gR : Addr} {fd dT dR : FuncData}
theorem scCond : FnScope ["_law_mixed", "_law_own", "_law_some"] ["_law_mixed", "_law_own"] (defScope sCond) := ⟨rfl, rfl, rfl, by decide +kernel, rfl, by decide +kernel, by decide +kernel⟩
theorem ok_cond (C : Con K mg w) (F : Fun K "_law_condition" "_law_condition" sCond f fd) : FnOk P w K mg base CX0 1 f fd ["_law_mixed", "_law_own"] (spCond K) := by
  refine F.okQ scCond (fun vs H Q E h => ?_) (fun cdv A outer s0 H vs Q E hr h => ?_)
  · obtain ⟨m, ow, xs, rfl, _⟩ := h; rfl
  obtain ⟨m, ow, xs, rfl, hL, hx, q⟩ := h
  have nd := scCond.nd
  refine ⟨_, qb_cons (qs_set (i := 2) nd rfl (Or.inl rfl) (qe_op op_cat (qv 1) (qe_lst (qa_str qa_nil))))
    (qb_one (qs_ret (qe_tup (qa_sub (qe_ix ix_list (qe_lst (qa_str (qa_str qa_nil))) (qe_op op_mod (qv 0) qe_int) (fun _ _ => rfl)) (qa_sub (qe_ix ix_list (qv 2) (qe_op op_mod (qe_op op_fdiv (qv 0) qe_int) (qe_callB call_len_seq rfl C.len PySem.boot_len (qa_nm (qv 2) qa_nil))) (fun _ _ => rfl)) (qa_sub (qe_ix ix_list (qv 2) (qe_op op_mod (qe_op op_fdiv (qv 0) qe_int) (qe_callB call_len_seq rfl C.len PySem.boot_len (qa_nm (qv 2) qa_nil))) (fun _ _ => rfl)) qa_nil)))))), ?_⟩
  refine ⟨_, rfl, (show 1 ≤ sizeLine by decide), fun x1 hx1 => ?_⟩
  have s1 := same_new hx1 (.lst [.str "nil"])
  have k1 : (upd H x1 (.lst [.str "nil"])) x1 = some (.lst [.str "nil"]) := upd_same
  generalize upd H x1 (.lst [.str "nil"]) = H1 at s1 k1 ⊢
  refine ⟨ow, x1, _, _, rfl, rfl, s1 _ _ hL, k1, le_line (by rw [List.length_map]; show _ + 1 ≤ 1000; omega), fun sm hsm => ?_⟩
  have s2 := same_new hsm (.lst (xs.map V.str ++ [.str "nil"]))
  have k2 : (upd H1 sm (.lst (xs.map V.str ++ [.str "nil"]))) sm = some (.lst ((xs ++ [("nil" : Str)]).map V.str)) := by rw [upd_same, List.map_append]; rfl
  have e2 := s1.trans s2
  have hyl : (xs ++ [("nil" : Str)]).length = xs.length + 1 := by rw [List.length_append]; rfl
  generalize upd H1 sm (.lst (xs.map V.str ++ [.str "nil"])) = H2 at k2 e2 ⊢
  generalize xs ++ [("nil" : Str)] = ys at k2 hyl q
  obtain ⟨wd, hwd, hwd'⟩ := isnot_at m
  obtain ⟨y1, hy1, hm1⟩ := word_len ys (by omega) (m / 2)
  obtain ⟨y2, hy2, hm2⟩ := word_len ys (by omega) (m / 14)
  have hlp : (0 : Int) < (((ys.map V.str).length : Nat) : Int) := by rw [List.length_map]; omega
  refine ⟨(show 2 ≤ sizeLine by decide), fun x2 hx2 => ?_⟩
  have t1 := same_new hx2 (.lst [.str "is", .str "not"])
  have u1 : (upd H2 x2 (.lst [.str "is", .str "not"])) x2 = some (.lst [.str "is", .str "not"]) := upd_same
  generalize upd H2 x2 (.lst [.str "is", .str "not"]) = H4 at t1 u1 ⊢
  have hsm4 := t1 _ _ k2
  refine ⟨_, rfl, _, _, rfl, rfl, (show (0 : Int) < 2 by decide), x2, _, _, _, rfl, rfl, SqL.of u1, hwd, ?_⟩
  refine ⟨_, rfl, _, rfl, _, _, rfl, rfl, (show CDiv _ 2 from ⟨by decide, by decide⟩), _, rfl, sm, _, rfl, .inl (SqL.of hsm4), _, _, rfl, rfl, hlp, sm, _, _, _, rfl, rfl, SqL.of hsm4, hy1, ?_⟩
  refine ⟨_, rfl, _, rfl, _, _, rfl, rfl, (show CDiv _ 14 from ⟨by decide, by decide⟩), _, rfl, sm, _, rfl, .inl (SqL.of hsm4), _, _, rfl, rfl, hlp, sm, _, _, _, rfl, rfl, SqL.of hsm4, hy2, ?_⟩
  refine ⟨(show 3 ≤ sizeLine by decide), fun t ht => ?_⟩
  exact q t [wd, y1, y2] _ ((e2.trans t1).trans (same_new ht _)) upd_same ⟨wd, y1, y2, rfl, hwd', hm1, hm2⟩
theorem scAnyTold : FnScope ["_law_feed", "_law_own", "_law_most", "_law_some", "_law_facts"] ["_law_feed", "_law_own", "_law_most"] (defScope sAnyTold) := ⟨rfl, rfl, rfl, by decide +kernel, rfl, by decide +kernel, by decide +kernel⟩
theorem ok_anyTold (C : Con K mg w) (F : Fun K "_law_any_told" "_law_any_told" sAnyTold f fd) (GT : FnOk P w K mg base CX0 1 gT dT ["_law_feed", "_law_many"] spTake) (cT : Cal K mg "_law_take" gT dT ["_law_feed", "_law_many"])
    (GR : FnOk P w K mg base CX0 2 gR dR ["_law_feed", "_law_some", "_law_sort"] (spAnyRow K)) (cR : Cal K mg "_law_any_row" gR dR ["_law_feed", "_law_some", "_law_sort"]) : FnOk P w K mg base CX0 3 f fd ["_law_feed", "_law_own", "_law_most"] (spAnyTold K) := by
  refine F.okQ scAnyTold (fun vs H Q E h => ?_) (fun cdv A outer s0 H vs Q E hr h => ?_)
  · obtain ⟨fe, ow, n, xs, mo, rfl, _⟩ := h; rfl
  obtain ⟨fe, ow, n, xs, mo, rfl, hfe, hL, hne, hx, hmo, q⟩ := h
  have nd := scAnyTold.nd
  have hr1 := hr.mono (j := 1) (by omega)
  refine ⟨_, qb_cons (qs_set (i := 3) nd rfl (Or.inr rfl) (qe_op op_cat (qv 1) (qe_lst (qa_str qa_nil))))
    (qb_cons (qs_setCG ["_law_k", "_law_some", "_law_feed"] [3, 0] (i := 4) nd rfl (Or.inl rfl) (qi_range1 rfl C.range (qa_call (qe_call GT hr1 rfl cT.name cT.keep cT.bind .nil pass0 (qa_nm (qv 0) (qa_bop (qe_op op_add (qv 2) qe_int) qa_nil))) qa_nil)) (fun _ _ _ _ => qts_nil) (fun _ _ _ _ => (qe_call GR hr rfl cR.name cR.keep cR.bind .nil pass0 (qa_nm (qv 2) (qa_nm (qv 1) (qa_str qa_nil))))))
    (qb_one (qs_ret (qe_tup (qa_nm (qv 4) (qa_cons (qe_compG ["_law_k", "_law_some", "_law_feed"] [3, 0] (qi_range1 rfl C.range (qa_call (qe_call GT hr1 rfl cT.name cT.keep cT.bind .nil pass0 (qa_nm (qv 0) (qa_bop (qe_op op_add (qv 2) qe_int) qa_nil))) qa_nil)) (fun _ _ _ _ => qts_nil) (fun _ _ _ _ => (qe_call GR hr rfl cR.name cR.keep cR.bind .nil pass0 (qa_nm (qv 2) (qa_nm (qv 1) (qa_str qa_nil)))))) qa_nil)))))), ?_⟩
  have S0 : FS (wo H fe) fe H n := ⟨hfe, Same.refl _⟩
  refine ⟨_, rfl, (show 1 ≤ sizeLine by decide), fun x1 hx1 => ?_⟩
  obtain ⟨S1, e1, u1⟩ := S0.new (o := .lst [.str "nil"]) hx1
  have hL1 : (wo H fe) ow = some (.lst (xs.map V.str)) := by rw [wo_ne hne]; exact hL
  generalize upd H x1 (.lst [.str "nil"]) = H1 at S1 e1 u1 ⊢
  refine ⟨ow, x1, _, _, rfl, rfl, S1.at (e1 _ _ hL1), S1.at u1, le_line (by rw [List.length_map]; show _ + 1 ≤ 1000; omega), fun sm hsm => ?_⟩
  obtain ⟨S2, e2, u2⟩ := S1.new (o := .lst (xs.map V.str ++ [.str "nil"])) hsm
  have u2' : (wo (upd H1 sm (.lst (xs.map V.str ++ [.str "nil"]))) fe) sm = some (.lst ((xs ++ [("nil" : Str)]).map V.str)) := by rw [u2, List.map_append]; rfl
  have hyl : (xs ++ [("nil" : Str)]).length = xs.length + 1 := by rw [List.length_append]; rfl
  have e02 := e1.trans e2
  generalize upd H1 sm (.lst (xs.map V.str ++ [.str "nil"])) = H2 at S2 e2 u2' e02 ⊢
  generalize xs ++ [("nil" : Str)] = ys at u2' hyl q
  have hm1 : (0 : Int) < (mo : Int) + 1 := by omega
  refine ⟨_, rfl, _, rfl, _, _, rfl, rfl, fe, n, _, rfl, S2.fed, hm1, by omega, ?_⟩
  have S3 := S2.take (k := n / ((mo : Int) + 1))
  have b0 := Int.emod_nonneg n (show (mo : Int) + 1 ≠ 0 by omega)
  have b1 := Int.emod_lt_of_pos n hm1
  generalize upd H2 fe (.lst [.int (n / ((mo : Int) + 1))]) = H3 at S3 ⊢
  generalize n / ((mo : Int) + 1) = n3 at S3
  refine ⟨_, rfl, by omega, by omega, ?_⟩
  refine comp_feed (K := K) (FactY ys) (by omega) S3 (fun D i H4 n4 S4 _ Q' q' => ?_) (fun fa H4 n4 Fs hfa S4 hF hFl hFo => ?_)
  · exact ⟨_, rfl, _, rfl, fe, sm, n4, ys, "fact", rfl, S4.fed, S4.at u2', by omega, by omega, fun t r n5 H5 S5 ht h1 _ => q' t r n5 H5 S5 ht (h1 rfl)⟩
  have nfa : (wo H fe) fa = none := by
    cases hq : (wo H fe) fa with
    | none => rfl
    | some o => have := S3.at (e02 _ _ hq); rw [hfa] at this; cases this
  have S4' : FS (wo H4 fe) fe H4 n4 := ⟨S4.fed, Same.refl _⟩
  have u24 := S4.g _ _ u2'
  have e04 := e02.trans S4.g
  refine ⟨_, rfl, _, rfl, _, rfl, _, _, rfl, rfl, fe, n4, _, rfl, S4.fed, hm1, by omega, ?_⟩
  have S5 := S4'.take (k := n4 / ((mo : Int) + 1))
  have b2 := Int.emod_nonneg n4 (show (mo : Int) + 1 ≠ 0 by omega)
  have b3 := Int.emod_lt_of_pos n4 hm1
  generalize upd H4 fe (.lst [.int (n4 / ((mo : Int) + 1))]) = H5 at S5 ⊢
  generalize n4 / ((mo : Int) + 1) = n5 at S5
  refine ⟨_, rfl, by omega, by omega, ?_⟩
  refine comp_feed (K := K) (PartY ys) (by omega) S5 (fun D i H6 n6 S6 _ Q' q' => ?_) (fun pa H6 n6 Ps hpa S6 hP hPl hPo => ?_)
  · exact ⟨_, rfl, _, rfl, fe, sm, n6, ys, "part", rfl, S6.fed, S6.at u24, by omega, by omega, fun t r n7 H7 S7 ht _ h2 => q' t r n7 H7 S7 ht (h2 (by decide +kernel))⟩
  have npa : (wo H fe) pa = none := by
    cases hq : (wo H fe) pa with
    | none => rfl
    | some o => have := S5.at (e04 _ _ hq); rw [hpa] at this; cases this
  refine ⟨(show 2 ≤ sizeLine by decide), fun t ht => ?_⟩
  obtain ⟨S7, e7, u7⟩ := (show FS (wo H6 fe) fe H6 n6 from ⟨S6.fed, Same.refl _⟩).new (o := .tup [.ref fa, .ref pa]) ht
  have e46 := S6.g.trans e7
  exact q t fa pa Fs Ps n6 _ ⟨S7.fed, e04.trans e46⟩ ⟨e04.trans e46, nfa, npa, u7, hF.same e46, hP.same e7, hFo, hPo, by omega, by omega⟩
end
end K43
namespace K43
open PySem PySem.Spec L2 Mir
noncomputable abbrev sAnyHeads : Stmt := top 14
noncomputable abbrev sHeads : Stmt := top 15
structure Hd where
  name : Str
  own : List Str
  par : Nat
  res : Str
structure HdOk (xs : List Str) (h : Hd) : Prop where
  name : h.name ∈ xs
  own : ∀ y ∈ h.own, y ∈ xs
  pos : 0 < h.own.length
  few : h.own.length ≤ 6
  par : h.par < h.own.length
  res : h.res = "" ∨ h.res ∈ h.own
noncomputable def HeadX (S : Addr → Prop) (H : Hp) (t : Addr) (h : Hd) : Prop := ∃ ow, H t = some (.tup [.str h.name, .ref ow, .int (h.par : Int), .str h.res]) ∧ H ow = some (.lst (h.own.map V.str)) ∧ ¬ S ow
theorem HeadX.same {S : Addr → Prop} {H H' : Hp} {t : Addr} {h : Hd} (x : HeadX S H t h) (e : Same H H') : HeadX S H' t h := by
  obtain ⟨ow, h1, h2, h3⟩ := x
  exact ⟨ow, e _ _ h1, e _ _ h2, h3⟩
theorem HeadX.put {S : Addr → Prop} {H : Hp} {t s : Addr} {h : Hd} {us vs : List V} (x : HeadX S H t h) (hs : S s) (hl : H s = some (.lst us)) : HeadX S (upd H s (.lst vs)) t h := by
  obtain ⟨ow, h1, h2, h3⟩ := x
  exact ⟨ow, by rw [upd_ne (fun z => by rw [z, hl] at h1; cases h1)]; exact h1, by rw [upd_ne (fun z : ow = s => h3 (by rw [z]; exact hs))]; exact h2, h3⟩
theorem HeadX.more {S S' : Addr → Prop} {H : Hp} {t : Addr} {h : Hd} (x : HeadX S H t h) (hS : ∀ b, S' b → S b ∨ H b = none) : HeadX S' H t h := by
  obtain ⟨ow, h1, h2, h3⟩ := x
  refine ⟨ow, h1, h2, fun z => ?_⟩
  rcases hS ow z with y | y
  · exact h3 y
  · rw [y] at h2; cases h2
theorem HeadX.less {S S' : Addr → Prop} {H : Hp} {t : Addr} {h : Hd} (x : HeadX S H t h) (hS : ∀ b, S' b → S b) : HeadX S' H t h := by
  obtain ⟨ow, h1, h2, h3⟩ := x
  exact ⟨ow, h1, h2, fun z => h3 (hS ow z)⟩
noncomputable def HeadsAt (H : Hp) (l : Addr) (hs : List Hd) : Prop := ∃ ts : List Addr, H l = some (.lst (ts.map V.ref)) ∧ Paired (HeadX (· = l) H) ts hs
inductive spAnyHeads (vs : List V) (H : Hp) (Q : VK) (E : XK) : Prop
  | mk (c : Int) (l : Addr) (xs : List Str) (h0 : vs = [.int c, .ref l]) (h1 : H l = some (.lst (xs.map V.str))) (h2 : xs.length = 8) (q : ∀ hl hs H', Same H H' → H hl = none → HeadsAt H' hl hs → 0 < hs.length → hs.length ≤ 4 → (∀ h ∈ hs, HdOk xs h) → Q (.ref hl) H') : spAnyHeads vs H Q E
theorem six_nat {n l : Nat} (h : n < l) : seqIndex? (n : Int) l = some n := by
  unfold seqIndex?
  have h1 : ¬ (n : Int) < 0 := by omega
  simp only [if_neg h1]
  rw [if_pos]
  · simp
  · simp; omega
theorem erase_map {α β : Type} (g : α → β) : ∀ (l : List α) (p : Nat), (l.map g).eraseIdx p = (l.eraseIdx p).map g
  | [], _ => rfl
  | _ :: _, 0 => rfl
  | x :: l, p + 1 => by rw [List.map_cons, List.eraseIdx_cons_succ, List.eraseIdx_cons_succ, List.map_cons, erase_map g l p]
inductive AHO (H : Hp) (c : Int) (l fe hl : Addr) (xs : List Str) (i : Nat) (σ : St) (H3 : Hp) : Prop
  | mk (n : Int) (ts : List Addr) (hs : List Hd) (z4 z5 z6 z7 z8 : Option V) (e : Same H H3) (hf : H3 fe = some (.lst [.int n])) (hh : H3 hl = some (.lst (ts.map V.ref))) (hp : Paired (HeadX (fun b => b = fe ∨ b = hl) H3) ts hs) (hi : hs.length = i) (ok : ∀ h ∈ hs, HdOk xs h)
      (hs' : σ = [some (.int c), some (.ref l), some (.ref fe), some (.ref hl), z4, z5, z6, z7, z8]) : AHO H c l fe hl xs i σ H3
inductive AHI (H : Hp) (c : Int) (l fe hl lf ow : Addr) (xs : List Str) (ts : List Addr) (hs : List Hd) (k : Int) (j : Nat) (σ : St) (H3 : Hp) : Prop
  | mk (n : Int) (ls os : List Str) (z7 z8 : Option V) (e : Same H H3) (hf : H3 fe = some (.lst [.int n])) (hh : H3 hl = some (.lst (ts.map V.ref))) (hp : Paired (HeadX (fun b => b = fe ∨ b = hl ∨ b = lf ∨ b = ow) H3) ts hs) (hl' : H3 lf = some (.lst (ls.map V.str))) (ho : H3 ow = some (.lst (os.map V.str)))
      (hll : ls.length + j = 8) (hol : os.length = j) (hlx : ∀ y ∈ ls, y ∈ xs) (hox : ∀ y ∈ os, y ∈ xs) (hs' : σ = [some (.int c), some (.ref l), some (.ref fe), some (.ref hl), some (.int k), some (.ref lf), some (.ref ow), z7, z8]) : AHI H c l fe hl lf ow xs ts hs k j σ H3
section
variable {P : Program} {w : World} {K : PySem.W.Frag} {mg : Str → Option Value} {base : Heap} {f gT gR : Addr} {fd dT dR : FuncData}
theorem scAnyHeads : FnScope ["_law_cell", "_law_names_here", "_law_feed", "_law_heads_here", "_law_k", "_law_left", "_law_own", "_law_j", "_law_params"] ["_law_cell", "_law_names_here"] (defScope sAnyHeads) := ⟨rfl, rfl, rfl, by decide +kernel, rfl, by decide +kernel, by decide +kernel⟩
theorem ok_anyHeads (C : Con K mg w) (F : Fun K "_law_any_heads" "_law_any_heads" sAnyHeads f fd) (GT : FnOk P w K mg base CX0 1 gT dT ["_law_feed", "_law_many"] spTake) (cT : Cal K mg "_law_take" gT dT ["_law_feed", "_law_many"]) : FnOk P w K mg base CX0 2 f fd ["_law_cell", "_law_names_here"] spAnyHeads := by
  refine F.okQ scAnyHeads (fun vs H Q E h => ?_) (fun cdv A outer s0 H vs Q E hr h => ?_)
  · obtain ⟨c, l, xs, rfl, _⟩ := h; rfl
  obtain ⟨c, l, xs, rfl, hL, hx8, q⟩ := h
  have nd := scAnyHeads.nd
  refine ⟨_, qb_cons (qs_set (i := 2) nd rfl (Or.inl rfl) (qe_lst (qa_bop (qe_op op_fdiv (qv 0) qe_int) qa_nil)))
    (qb_cons (qs_set (i := 3) nd rfl (Or.inl rfl) (qe_lst qa_nil))
    (qb_cons (qs_for PassesOwn.never rfl (qi_range1 rfl C.range (qa_bop (qe_op op_add qe_int (qe_op op_mod (qv 0) qe_int)) qa_nil)) (qg_name (i := 4) nd rfl (Or.inl rfl)) (qb_cons (qs_set (i := 5) nd rfl (Or.inl rfl) (qe_callTy call_list_of rfl C.list PyProof.Rows.boot_list (qa_nm (qv 1) qa_nil)))
    (qb_cons (qs_set (i := 6) nd rfl (Or.inl rfl) (qe_lst qa_nil))
    (qb_cons (qs_for PassesOwn.never rfl (qi_range1 rfl C.range (qa_bop (qe_op op_add qe_int (qe_call GT hr rfl cT.name cT.keep cT.bind .nil pass0 (qa_nm (qv 2) (qa_int qa_nil)))) qa_nil)) (qg_name (i := 7) nd rfl (Or.inl rfl)) (qb_one (qs_expr (qe_bmK (K := K) rfl PySem.F.plainAttrs_list PySem.F.slot_list_append PySem.F.type_list_append mt_append (qv 6) (qa_call (qe_bmK (K := K) rfl PySem.F.plainAttrs_list PySem.F.slot_list_pop PySem.F.type_list_pop mt_popAt (qv 5) (qa_call (qe_call GT hr rfl cT.name cT.keep cT.bind .nil pass0 (qa_nm (qv 2) (qa_call (qe_callB call_len_seq rfl C.len PySem.boot_len (qa_nm (qv 5) qa_nil)) qa_nil))) qa_nil)) qa_nil)))))
    (qb_cons (qs_set (i := 8) nd rfl (Or.inl rfl) (qe_callB (call_min2 rfl) rfl C.min PyProof.Rows.Boot.min (qa_call (qe_call GT hr rfl cT.name cT.keep cT.bind .nil pass0 (qa_nm (qv 2) (qa_int qa_nil))) (qa_bop (qe_op op_sub (qe_callB call_len_seq rfl C.len PySem.boot_len (qa_nm (qv 6) qa_nil)) qe_int) qa_nil))))
    (qb_one (qs_expr (qe_bmK (K := K) rfl PySem.F.plainAttrs_list PySem.F.slot_list_append PySem.F.type_list_append mt_append (qv 3) (qa_tp (qa_sub (qe_ix ix_list (qv 1) (qe_op op_sub qe_int (qv 4)) (fun _ _ => rfl)) (qa_nm (qv 6) (qa_nm (qv 8) (qa_sub (qe_ix ix_list (qe_lst (qa_str (qa_sub (qe_ix ix_list (qv 6) (qv 8) (fun _ _ => rfl)) qa_nil))) (qe_call GT hr rfl cT.name cT.keep cT.bind .nil pass0 (qa_nm (qv 2) (qa_int qa_nil))) (fun _ _ => rfl)) qa_nil)))) qa_nil)))))))))
    (qb_one (qs_ret (qv 3))))), ?_⟩
  refine ⟨_, rfl, _, _, rfl, rfl, (show CDiv _ 4 from ⟨by decide, by decide⟩), (show 1 ≤ sizeLine by decide), fun fe hfe => ?_⟩
  have s1 := same_new hfe (.lst [.int (c / 4)])
  have k1 : (upd H fe (.lst [.int (c / 4)])) fe = some (.lst [.int (c / 4)]) := upd_same
  show tSeq _ _ _ _ (upd H fe (.lst [.int (c / 4)]))
  generalize upd H fe (.lst [.int (c / 4)]) = H1 at s1 k1 ⊢
  refine ⟨Nat.zero_le _, fun hl hhl => ?_⟩
  have s2 := same_new hhl (.lst [])
  have k2 : (upd H1 hl (.lst [])) hl = some (.lst []) := upd_same
  have nfh : fe ≠ hl := ne_of_none k1 hhl
  have hhl0 : H hl = none := s1.free hhl
  generalize upd H1 hl (.lst []) = H2 at s2 k2 ⊢
  have m4 := Int.emod_nonneg c (show (4 : Int) ≠ 0 by decide)
  have m4' := Int.emod_lt_of_pos c (show (0 : Int) < 4 by decide)
  refine ⟨_, rfl, _, _, rfl, rfl, (show (0 : Int) < 4 by decide), _, _, rfl, rfl, _, rfl, by omega, by omega, ?_⟩
  refine for_range (lo := 0) (n := (1 + c % 4).toNat) (AHO H c l fe hl xs) ⟨c / 4, [], [], none, none, none, none, none, s1.trans s2, s2 _ _ k1, k2, .nil, rfl, (fun h hh => by cases hh), rfl⟩ ?_ ?_
  · rintro i σ H3 hi ⟨n, ts, hs, z4, z5, z6, z7, z8, e3, hf3, hh3, hp3, hi3, ok3, rfl⟩
    have hL3 := e3 _ _ hL
    refine ⟨_, rfl, l, _, rfl, .inl (SqL.of hL3), fun lf hlf => ?_⟩
    have t1 := same_new hlf (.lst (xs.map V.str))
    have u1 : (upd H3 lf (.lst (xs.map V.str))) lf = some (.lst (xs.map V.str)) := upd_same
    have nlf : fe ≠ lf := ne_of_none hf3 hlf
    have nlh : hl ≠ lf := ne_of_none hh3 hlf
    have flf : H lf = none := e3.free hlf
    show tSeq _ _ _ _ (upd H3 lf (.lst (xs.map V.str)))
    have hp4 : Paired (HeadX (fun b => b = fe ∨ b = hl ∨ b = lf) (upd H3 lf (.lst (xs.map V.str)))) ts hs := Paired.mapP hp3 fun _ _ z => HeadX.same (HeadX.more z fun b hb => by rcases hb with h | h | h <;> simp [h, hlf]) t1
    generalize upd H3 lf (.lst (xs.map V.str)) = H4 at t1 u1 hp4 ⊢
    refine ⟨Nat.zero_le _, fun ow how => ?_⟩
    have t2 := same_new how (.lst [])
    have u2 : (upd H4 ow (.lst [])) ow = some (.lst []) := upd_same
    have nof : fe ≠ ow := ne_of_none (t1 _ _ hf3) how
    have noh : hl ≠ ow := ne_of_none (t1 _ _ hh3) how
    have nol : lf ≠ ow := ne_of_none u1 how
    have fow : H ow = none := (e3.trans t1).free how
    have hp5 : Paired (HeadX (fun b => b = fe ∨ b = hl ∨ b = lf ∨ b = ow) (upd H4 ow (.lst []))) ts hs := Paired.mapP hp4 fun _ _ z => HeadX.same (HeadX.more z fun b hb => by rcases hb with h | h | h | h <;> simp [h, how]) t2
    generalize upd H4 ow (.lst []) = H5 at t2 u2 hp5 ⊢
    have e5 := (e3.trans t1).trans t2
    have hf5 := (t1.trans t2) _ _ hf3
    have hh5 := (t1.trans t2) _ _ hh3
    refine ⟨_, rfl, fe, n, 6, rfl, hf5, by decide, by decide, ?_⟩
    have m6 := Int.emod_nonneg n (show (6 : Int) ≠ 0 by decide)
    have m6' := Int.emod_lt_of_pos n (show (0 : Int) < 6 by decide)
    refine ⟨_, _, rfl, rfl, _, rfl, by omega, by omega, ?_⟩
    refine for_range (lo := 0) (n := (1 + n % 6).toNat) (AHI H c l fe hl lf ow xs ts hs (0 + (i : Int))) ⟨n / 6, xs, [], z7, z8, fun b o h => by rw [upd_ne (ne_of_none h hfe)]; exact e5 _ _ h, upd_same, by rw [upd_ne nfh.symm]; exact hh5, Paired.mapP hp5 fun _ _ z => HeadX.put z (.inl rfl) hf5, by rw [upd_ne nlf.symm]; exact t2 _ _ u1, by rw [upd_ne nof.symm]; exact u2, by omega, rfl, fun y hy => hy, (fun y hy => by cases hy), rfl⟩ ?_ ?_
    · rintro j σ H6 hj ⟨n6, ls, os, z7, z8, e6, hf6, hh6, hp6, hlf6, how6, hll, hol, hlx, hox, rfl⟩
      have hj6 : j < 6 := by omega
      have hl0 : (0 : Int) < (((ls.map V.str).length : Nat) : Int) := by rw [List.length_map]; omega
      refine ⟨_, rfl, (.inl ⟨rfl, _, SqL.of how6⟩), _, rfl, (.inl ⟨rfl, _, SqL.of hlf6⟩), _, rfl, _, rfl, lf, _, rfl, .inl (SqL.of hlf6), fe, n6, _, rfl, hf6, hl0, (by rw [List.length_map]; omega), ?_⟩
      have b0 := Int.emod_nonneg n6 (Int.ne_of_gt hl0)
      have b1 := Int.emod_lt_of_pos n6 hl0
      obtain ⟨p, hp⟩ : ∃ p : Nat, n6 % (((ls.map V.str).length : Nat) : Int) = (p : Int) := ⟨(n6 % (((ls.map V.str).length : Nat) : Int)).toNat, by omega⟩
      rw [hp] at b1 ⊢
      have hpl : p < ls.length := by rw [List.length_map] at b1; omega
      have hlf7 : (upd H6 fe (.lst [.int (n6 / (((ls.map V.str).length : Nat) : Int))])) lf = some (.lst (ls.map V.str)) := by rw [upd_ne nlf.symm]; exact hlf6
      refine ⟨lf, _, _, p, .str ls[p], rfl, rfl, hlf7, (by omega), (by omega), ?_, by rw [List.getElem?_map, List.getElem?_eq_getElem hpl]; rfl, ?_⟩
      · rw [List.length_map]; exact six_nat hpl
      rw [erase_map]
      have S1 : Same H (upd (upd H6 fe (.lst [.int (n6 / (((ls.map V.str).length : Nat) : Int))])) lf (.lst ((ls.eraseIdx p).map V.str))) := fun b o h => by rw [upd_ne (ne_of_none h flf), upd_ne (ne_of_none h hfe)]; exact e6 _ _ h
      have F1 : (upd (upd H6 fe (.lst [.int (n6 / (((ls.map V.str).length : Nat) : Int))])) lf (.lst ((ls.eraseIdx p).map V.str))) fe = some (.lst [.int (n6 / (((ls.map V.str).length : Nat) : Int))]) := by rw [upd_ne nlf, upd_same]
      have O1 : (upd (upd H6 fe (.lst [.int (n6 / (((ls.map V.str).length : Nat) : Int))])) lf (.lst ((ls.eraseIdx p).map V.str))) ow = some (.lst (os.map V.str)) := by rw [upd_ne nol.symm, upd_ne nof.symm]; exact how6
      have L1 : (upd (upd H6 fe (.lst [.int (n6 / (((ls.map V.str).length : Nat) : Int))])) lf (.lst ((ls.eraseIdx p).map V.str))) lf = some (.lst ((ls.eraseIdx p).map V.str)) := upd_same
      have T1 : (upd (upd H6 fe (.lst [.int (n6 / (((ls.map V.str).length : Nat) : Int))])) lf (.lst ((ls.eraseIdx p).map V.str))) hl = some (.lst (ts.map V.ref)) := by rw [upd_ne nlh, upd_ne nfh.symm]; exact hh6
      have P1 : Paired (HeadX (fun b => b = fe ∨ b = hl ∨ b = lf ∨ b = ow) (upd (upd H6 fe (.lst [.int (n6 / (((ls.map V.str).length : Nat) : Int))])) lf (.lst ((ls.eraseIdx p).map V.str)))) ts hs := Paired.mapP hp6 fun _ _ z => HeadX.put (HeadX.put z (.inl rfl) hf6) (.inr (.inr (.inl rfl))) hlf7
      generalize upd (upd H6 fe (.lst [.int (n6 / (((ls.map V.str).length : Nat) : Int))])) lf (.lst ((ls.eraseIdx p).map V.str)) = H8 at S1 F1 O1 L1 T1 P1 ⊢
      refine ⟨ow, os.map V.str, _, rfl, rfl, O1, lt_line (by rw [List.length_map]; omega), ?_⟩
      refine ⟨_, ls.eraseIdx p, os ++ [ls[p]], _, _, fun b o h => by rw [upd_ne (ne_of_none h fow)]; exact S1 _ _ h, by rw [upd_ne nof]; exact F1, by rw [upd_ne noh]; exact T1, Paired.mapP P1 fun _ _ z => HeadX.put z (.inr (.inr (.inr rfl))) O1, by rw [upd_ne nol]; exact L1, by rw [upd_same, List.map_append]; rfl, ?_, by rw [List.length_append, hol]; rfl, fun y hy => hlx y (List.mem_of_mem_eraseIdx hy), fun y hy => ?_, rfl⟩
      · rw [List.length_eraseIdx_of_lt hpl]; omega
      · rcases List.mem_append.mp hy with z | z
        · exact hox y z
        · rw [List.mem_singleton.mp z]; exact hlx _ (List.getElem_mem hpl)
    · rintro σ H6 ⟨n6, ls, os, z7, z8, e6, hf6, hh6, hp6, hlf6, how6, hll, hol, hlx, hox, rfl⟩
      have hos0 : 0 < os.length := by omega
      have hos6 : os.length ≤ 6 := by omega
      clear hlf6 hll hlx hol
      have p0 := Int.emod_nonneg n6 (show (5 : Int) ≠ 0 by decide)
      have p1 := Int.emod_lt_of_pos n6 (show (0 : Int) < 5 by decide)
      have how7 : (upd H6 fe (.lst [.int (n6 / 5)])) ow = some (.lst (os.map V.str)) := by rw [upd_ne nof.symm]; exact how6
      have hf7 : (upd H6 fe (.lst [.int (n6 / 5)])) fe = some (.lst [.int (n6 / 5)]) := upd_same
      have hh7 : (upd H6 fe (.lst [.int (n6 / 5)])) hl = some (.lst (ts.map V.ref)) := by rw [upd_ne nfh.symm]; exact hh6
      have e7 : Same H (upd H6 fe (.lst [.int (n6 / 5)])) := fun b o h => by rw [upd_ne (ne_of_none h hfe)]; exact e6 _ _ h
      have hp7 : Paired (HeadX (fun b => b = fe ∨ b = hl ∨ b = lf ∨ b = ow) (upd H6 fe (.lst [.int (n6 / 5)]))) ts hs := Paired.mapP hp6 fun _ _ z => HeadX.put z (.inl rfl) hf6
      refine ⟨_, rfl, fe, n6, 5, rfl, hf6, by decide, by decide, ?_⟩
      generalize upd H6 fe (.lst [.int (n6 / 5)]) = H7 at how7 hf7 hh7 e7 hp7 ⊢
      refine ⟨_, rfl, ow, _, rfl, .inl (SqL.of how7), _, _, rfl, rfl, _, _, rfl, ?_⟩
      obtain ⟨pm, hpm, hpl⟩ : ∃ pm : Nat, (if (((os.map V.str).length : Nat) : Int) - 1 < n6 % 5 then (((os.map V.str).length : Nat) : Int) - 1 else n6 % 5) = (pm : Int) ∧ pm < os.length := by
        rw [List.length_map]
        by_cases c1 : ((os.length : Nat) : Int) - 1 < n6 % 5
        · rw [if_pos c1]; exact ⟨os.length - 1, by omega, by omega⟩
        · rw [if_neg c1]; exact ⟨(n6 % 5).toNat, by omega, by omega⟩
      show gName _ (V.int (if (((os.map V.str).length : Nat) : Int) - 1 < n6 % 5 then (((os.map V.str).length : Nat) : Int) - 1 else n6 % 5)) _ _ _
      rw [hpm]
      have hL7 := e7 _ _ hL
      have at7 : atI (xs.map V.str) (7 - (0 + (i : Int))) = some (.str (xs.getD (7 - i) "")) := by
        have := getD_at (ws := xs) (i := 7 - i) (by omega)
        rw [show (7 : Int) - (0 + (i : Int)) = ((7 - i : Nat) : Int) by omega]
        exact this
      have hnx : xs.getD (7 - i) "" ∈ xs := by
        rw [List.getD_eq_getElem?_getD, List.getElem?_eq_getElem (by omega)]; exact List.getElem_mem _
      generalize xs.getD (7 - i) "" = nm at at7 hnx
      have atp : atI (os.map V.str) (pm : Int) = some (.str os[pm]) := atI_nat (by rw [List.getElem?_map, List.getElem?_eq_getElem hpl]; rfl)
      refine ⟨_, rfl, (.inl ⟨rfl, _, SqL.of hh7⟩), _, rfl, _, rfl, _, _, rfl, rfl, l, _, _, _, rfl, rfl, SqL.of hL7, at7, _, rfl, _, rfl, _, rfl, _, rfl, ow, _, _, _, rfl, rfl, SqL.of how7, atp, (show 2 ≤ sizeLine by decide), fun x1 hx1 => ?_⟩
      have t3 := same_new hx1 (.lst [.str "", .str os[pm]])
      have u3 : (upd H7 x1 (.lst [.str "", .str os[pm]])) x1 = some (.lst [.str "", .str os[pm]]) := upd_same
      have nx1 : x1 ≠ fe := (ne_of_none hf7 hx1).symm
      generalize upd H7 x1 (.lst [.str "", .str os[pm]]) = H8 at t3 u3 ⊢
      have hf8 := t3 _ _ hf7
      refine ⟨_, rfl, fe, n6 / 5, 2, rfl, hf8, by decide, by decide, ?_⟩
      obtain ⟨v, hv, hvm⟩ := at_mod (xs := [V.str "", V.str os[pm]]) (m := 2) (i := n6 / 5) rfl (by decide)
      obtain ⟨rs, rfl, hrs⟩ : ∃ rs : Str, v = .str rs ∧ (rs = "" ∨ rs ∈ os) := by
        simp only [List.mem_cons, List.not_mem_nil, or_false] at hvm
        rcases hvm with rfl | rfl
        · exact ⟨_, rfl, .inl rfl⟩
        · exact ⟨_, rfl, .inr (List.getElem_mem hpl)⟩
      have e9 : Same H (upd H8 fe (.lst [.int (n6 / 5 / 2)])) := fun b o h => by rw [upd_ne (ne_of_none h hfe)]; exact (e7.trans t3) _ _ h
      have f9 : (upd H8 fe (.lst [.int (n6 / 5 / 2)])) fe = some (.lst [.int (n6 / 5 / 2)]) := upd_same
      have x9 : (upd H8 fe (.lst [.int (n6 / 5 / 2)])) x1 = some (.lst [.str "", .str os[pm]]) := by rw [upd_ne nx1]; exact u3
      have o9 : (upd H8 fe (.lst [.int (n6 / 5 / 2)])) ow = some (.lst (os.map V.str)) := by rw [upd_ne nof.symm]; exact t3 _ _ how7
      have h9 : (upd H8 fe (.lst [.int (n6 / 5 / 2)])) hl = some (.lst (ts.map V.ref)) := by rw [upd_ne nfh.symm]; exact t3 _ _ hh7
      have p9 : Paired (HeadX (fun b => b = fe ∨ b = hl ∨ b = lf ∨ b = ow) (upd H8 fe (.lst [.int (n6 / 5 / 2)]))) ts hs := Paired.mapP hp7 fun _ _ z => HeadX.put (HeadX.same z t3) (.inl rfl) hf8
      generalize upd H8 fe (.lst [.int (n6 / 5 / 2)]) = H9 at e9 f9 x9 o9 h9 p9 ⊢
      refine ⟨x1, _, _, _, rfl, rfl, SqL.of x9, hv, (show 4 ≤ sizeLine by decide), fun t ht => ?_⟩
      have t4 := same_new ht (.tup [.str nm, .ref ow, .int (pm : Int), .str rs])
      have u4 : (upd H9 t (.tup [.str nm, .ref ow, .int (pm : Int), .str rs])) t = some (.tup [.str nm, .ref ow, .int (pm : Int), .str rs]) := upd_same
      generalize upd H9 t (.tup [.str nm, .ref ow, .int (pm : Int), .str rs]) = H10 at t4 u4 ⊢
      have h10 := t4 _ _ h9
      have hal := Paired.length p9
      refine ⟨hl, ts.map V.ref, _, rfl, rfl, h10, lt_line (by rw [List.length_map]; omega), ?_⟩
      have hnew : HeadX (fun b => b = fe ∨ b = hl) H10 t ⟨nm, os, pm, rs⟩ := ⟨ow, u4, t4 _ _ o9, fun z => by rcases z with z | z; exact nof z.symm; exact noh z.symm⟩
      refine ⟨_, ts ++ [t], hs ++ [⟨nm, os, pm, rs⟩], _, _, _, _, _, fun b o h => by rw [upd_ne (ne_of_none h hhl0)]; exact (e9.trans t4) _ _ h, by rw [upd_ne nfh]; exact t4 _ _ f9, by rw [upd_same, List.map_append]; rfl, Paired.snocP (Paired.mapP p9 fun _ _ z => HeadX.put (HeadX.less (HeadX.same z t4) fun b hb => by rcases hb with h | h <;> simp [h]) (.inr rfl) h10) (HeadX.put hnew (.inr rfl) h10), by rw [List.length_append, hi3]; rfl, fun h hh => ?_, rfl⟩
      rcases List.mem_append.mp hh with z | z
      · exact ok3 h z
      · rw [List.mem_singleton.mp z]; exact ⟨hnx, hox, hos0, hos6, hpl, hrs⟩
  · rintro σ H3 ⟨n, ts, hs, z4, z5, z6, z7, z8, e3, hf3, hh3, hp3, hi3, ok3, rfl⟩
    exact ⟨_, rfl, q hl hs H3 e3 hhl0 ⟨ts, hh3, Paired.mapP hp3 fun _ _ z => HeadX.less z fun b hb => .inr hb⟩ (by omega) (by omega) ok3⟩
end
end K43
namespace K43
open PySem PySem.Spec L2 Mir
inductive spHeads (K : PySem.W.Frag) (vs : List V) (H : Hp) (Q : VK) (E : XK) : Prop
  | mk (a : Addr) (ns : List Int) (h0 : vs = [.ref a]) (h1 : SqL K H a (ns.map V.int)) (q : ∀ hl hs xs H', Same H H' → H hl = none → HeadsAt H' hl hs → 0 < hs.length → hs.length ≤ 4 → (∀ x ∈ xs, isName x = true) → (∀ h ∈ hs, HdOk xs h) → Q (.ref hl) H') : spHeads K vs H Q E
inductive HO1 (H : Hp) (a nl hl : Addr) (xs : List Str) (i : Nat) (σ : St) (H3 : Hp) : Prop
  | mk (ts : List Addr) (hs : List Hd) (z3 z4 z5 z6 z7 z8 : Option V) (e : Same H H3) (hn : H3 nl = some (.lst (xs.map V.str))) (hh : H3 hl = some (.lst (ts.map V.ref))) (hp : Paired (HeadX (· = hl) H3) ts hs) (hi : hs.length = i) (ok : ∀ h ∈ hs, HdOk xs h)
      (hs' : σ = [some (.ref a), some (.ref nl), some (.ref hl), z3, z4, z5, z6, z7, z8]) : HO1 H a nl hl xs i σ H3
section
variable {P : Program} {w : World} {K : PySem.W.Frag} {mg : Str → Option Value} {base : Heap} {f gC gA gN gB : Addr} {fd dC dA dN dB : FuncData}
theorem scHeads : FnScope ["_law_script", "_law_names_here", "_law_heads_here", "_law_k", "_law_cell", "_law_size", "_law_params", "_law_own", "_law_result"] ["_law_script"] (defScope sHeads) := ⟨rfl, rfl, rfl, by decide +kernel, rfl, by decide +kernel, by decide +kernel⟩
theorem ok_heads (C : Con K mg w) (F : Fun K "_law_heads" "_law_heads" sHeads f fd) (GC : FnOk P w K mg base CX0 1 gC dC ["_law_script", "_law_k"] (spCell K)) (cC : Cal K mg "_law_cell_at" gC dC ["_law_script", "_law_k"])
    (GA : FnOk P w K mg base CX0 2 gA dA ["_law_cell", "_law_names_here"] spAnyHeads) (cA : Cal K mg "_law_any_heads" gA dA ["_law_cell", "_law_names_here"])
    (GN : FnOk P w K mg base CX0 2 gN dN ["_law_cell"] (spMade mg)) (cN : Cal K mg "_law_any_names" gN dN ["_law_cell"])
    (GB : FnOk P w K mg base CX0 1 gB dB ["_law_cell"] (spMade mg)) (cB : Cal K mg "_law_names" gB dB ["_law_cell"]) : FnOk P w K mg base CX0 3 f fd ["_law_script"] (spHeads K) := by
  refine F.okQ scHeads (fun vs H Q E h => ?_) (fun cdv A outer s0 H vs Q E hr h => ?_)
  · obtain ⟨a, ns, rfl, _⟩ := h; rfl
  obtain ⟨a, ns, rfl, hS, q⟩ := h
  have nd := scHeads.nd
  have hr1 := hr.mono (j := 1) (by omega)
  refine ⟨_, qb_cons (qs_if (qt_cmpR op_eq (qe_op op_mod (qe_call GC hr1 rfl cC.name cC.keep cC.bind .nil pass0 (qa_nm (qv 0) (qa_int qa_nil))) qe_int) qe_int (nomark _)) (qb_one (qs_ret (qe_call GA hr rfl cA.name cA.keep cA.bind .nil pass0 (qa_bop (qe_op op_fdiv (qe_call GC hr1 rfl cC.name cC.keep cC.bind .nil pass0 (qa_nm (qv 0) (qa_int qa_nil))) qe_int) (qa_call (qe_call GN hr rfl cN.name cN.keep cN.bind .nil pass0 (qa_call (qe_call GC hr1 rfl cC.name cC.keep cC.bind .nil pass0 (qa_nm (qv 0) (qa_int qa_nil))) qa_nil)) qa_nil))))) qb_nil)
    (qb_cons (qs_set (i := 1) nd rfl (Or.inr rfl) (qe_call GB hr1 rfl cB.name cB.keep cB.bind .nil pass0 (qa_call (qe_call GC hr1 rfl cC.name cC.keep cC.bind .nil pass0 (qa_nm (qv 0) (qa_int qa_nil))) qa_nil)))
    (qb_cons (qs_set (i := 2) nd rfl (Or.inl rfl) (qe_lst qa_nil))
    (qb_cons (qs_for PassesOwn.never rfl (qi_range1 rfl C.range (qa_bop (qe_op op_add qe_int (qe_op op_mod (qe_op op_fdiv (qe_call GC hr1 rfl cC.name cC.keep cC.bind .nil pass0 (qa_nm (qv 0) (qa_int qa_nil))) qe_int) qe_int)) qa_nil)) (qg_name (i := 3) nd rfl (Or.inl rfl)) (qb_cons (qs_set (i := 4) nd rfl (Or.inr rfl) (qe_op op_fdiv (qe_op op_mod (qe_op op_mul (qe_op op_fdiv (qe_call GC hr1 rfl cC.name cC.keep cC.bind .nil pass0 (qa_nm (qv 0) (qa_int qa_nil))) qe_int) qe_int) qe_int) (qe_op op_add (qe_op op_mul (qv 3) (qv 3)) qe_int)))
    (qb_cons (qs_set (i := 5) nd rfl (Or.inl rfl) (qe_op op_add qe_int (qe_op op_mod (qv 4) qe_int)))
    (qb_cons (qs_set (i := 6) nd rfl (Or.inl rfl) (qe_callB (call_min2 rfl) rfl C.min PyProof.Rows.Boot.min (qa_bop (qe_op op_mod (qe_op op_fdiv (qv 4) qe_int) qe_int) (qa_bop (qe_op op_sub (qv 5) qe_int) qa_nil))))
    (qb_cons (qs_setCG ["_law_j", "_law_names_here", "_law_cell"] [1, 4] (i := 7) nd rfl (Or.inl rfl) (qi_range1 rfl C.range (qa_nm (qv 5) qa_nil)) (fun _ _ _ _ => qts_nil) (fun _ _ _ _ => (qe_ix (ixK (K := K) rfl) (qv 1) (qe_op op_mod (qe_op op_add (qv 0) (qe_op op_fdiv (qv 2) qe_int)) qe_int) (fun _ _ => rfl))))
    (qb_cons (qs_set (i := 8) nd rfl (Or.inl rfl) qe_str)
    (qb_cons (qs_if (qt_cmpR op_eq (qe_op op_mod (qe_op op_fdiv (qv 4) qe_int) qe_int) qe_int (nomark _)) (qb_one (qs_set (i := 8) nd rfl (Or.inl rfl) (qe_ix ix_list (qv 7) (qv 6) (fun _ _ => rfl)))) qb_nil)
    (qb_one (qs_expr (qe_bmK (K := K) rfl PySem.F.plainAttrs_list PySem.F.slot_list_append PySem.F.type_list_append mt_append (qv 2) (qa_tp (qa_sub (qe_ix ix_list (qv 1) (qe_op op_sub qe_int (qv 3)) (fun _ _ => rfl)) (qa_nm (qv 7) (qa_nm (qv 6) (qa_nm (qv 8) qa_nil)))) qa_nil)))))))))))
    (qb_one (qs_ret (qv 2)))))), ?_⟩
  refine ⟨_, rfl, a, ns, 1, rfl, hS, _, _, rfl, rfl, (show (0 : Int) < 2 by decide), rfl, _, rfl, iteB (fun _ => ?_) (fun _ => ?_)⟩
  · refine ⟨_, rfl, a, ns, 1, rfl, hS, _, _, rfl, rfl, (show CDiv _ 2 from ⟨by decide, by decide⟩), _, rfl, a, ns, 0, rfl, hS, cellAt ns 0, rfl, fun p xs H1 e1 hp0 hp1 hx8 hxn => ?_⟩
    exact ⟨_, p, xs, rfl, hp1, hx8, fun hl hs H2 e2 hhl hH h0 h4 hok => q hl hs xs H2 (e1.trans e2) (e1.free hhl) hH h0 h4 hxn hok⟩
  refine ⟨_, rfl, a, ns, 0, rfl, hS, cellAt ns 0, rfl, fun nl xs H1 e1 hnl0 hnl hx8 hxn => ?_⟩
  refine ⟨Nat.zero_le _, fun hl hhl => ?_⟩
  have s2 := same_new hhl (.lst [])
  have k2 : (upd H1 hl (.lst [])) hl = some (.lst []) := upd_same
  have nhn : nl ≠ hl := ne_of_none hnl hhl
  have hhl0 : H hl = none := e1.free hhl
  generalize upd H1 hl (.lst []) = H2 at s2 k2 ⊢
  have e2 := e1.trans s2
  have m4 := Int.emod_nonneg (cellAt ns 1 / 2) (show (4 : Int) ≠ 0 by decide)
  have m4' := Int.emod_lt_of_pos (cellAt ns 1 / 2) (show (0 : Int) < 4 by decide)
  refine ⟨_, rfl, a, ns, 1, rfl, e2.seq hS, _, _, rfl, rfl, (show CDiv _ 2 from ⟨by decide, by decide⟩), _, _, rfl, rfl, (show (0 : Int) < 4 by decide), _, _, rfl, rfl, _, rfl, by omega, by omega, ?_⟩
  refine for_range (lo := 0) (n := (1 + cellAt ns 1 / 2 % 4).toNat) (HO1 H a nl hl xs) ⟨[], [], none, none, none, none, none, none, e2, s2 _ _ hnl, k2, .nil, rfl, (fun h hh => by cases hh), rfl⟩ ?_ ?_
  · rintro i σ H3 hi ⟨ts, hs, z3, z4, z5, z6, z7, z8, e3, hn3, hh3, hp3, hi3, ok3, rfl⟩
    rw [Int.zero_add]
    have hi4 : i < 4 := by omega
    have hkk : (0 : Int) ≤ (i : Int) * (i : Int) ∧ (i : Int) * (i : Int) ≤ 9 := by
      match i, hi4 with
      | 0, _ => decide
      | 1, _ => decide
      | 2, _ => decide
      | 3, _ => decide
    refine ⟨_, rfl, a, ns, 1, rfl, e3.seq hS, _, _, rfl, rfl, (show CDiv _ 8 from ⟨by decide, by decide⟩), _, _, rfl, rfl, .inr ⟨by decide, by decide⟩, _, _, rfl, rfl, (show (0 : Int) < 2147483647 by decide), _, rfl, _, rfl, _, _, rfl, rfl, .inl ⟨by omega, by omega⟩, _, _, rfl, rfl, _, _, rfl, rfl, (show CDiv _ _ from ⟨by omega, by omega⟩), ?_⟩
    have hc0 : 0 ≤ cellAt ns 1 / 8 * 69621 % 2147483647 / ((i : Int) * (i : Int) + 1) := Int.ediv_nonneg (Int.emod_nonneg _ (by decide)) (by omega)
    show gName _ (V.int (cellAt ns 1 / 8 * 69621 % 2147483647 / ((i : Int) * (i : Int) + 1))) _ _ _
    generalize cellAt ns 1 / 8 * 69621 % 2147483647 / ((i : Int) * (i : Int) + 1) = cc at hc0 ⊢
    have c6 := Int.emod_nonneg cc (show (6 : Int) ≠ 0 by decide)
    have c6' := Int.emod_lt_of_pos cc (show (0 : Int) < 6 by decide)
    refine ⟨_, rfl, _, _, rfl, rfl, (show (0 : Int) < 6 by decide), _, _, rfl, rfl, ?_⟩
    obtain ⟨sz, hsz, hsz0, hsz6⟩ : ∃ sz : Nat, 1 + cc % 6 = (sz : Int) ∧ 0 < sz ∧ sz ≤ 6 := ⟨(1 + cc % 6).toNat, by omega, by omega, by omega⟩
    show gName _ (V.int (1 + cc % 6)) _ _ _
    rw [hsz]
    have p0 := Int.emod_nonneg (cc / 6) (show (5 : Int) ≠ 0 by decide)
    refine ⟨_, rfl, _, _, rfl, rfl, (show CDiv _ 6 from ⟨by decide, by decide⟩), _, _, rfl, rfl, (show (0 : Int) < 5 by decide), _, rfl, _, _, rfl, rfl, _, _, rfl, ?_⟩
    obtain ⟨pm, hpm, hpl⟩ : ∃ pm : Nat, (if (sz : Int) - 1 < cc / 6 % 5 then (sz : Int) - 1 else cc / 6 % 5) = (pm : Int) ∧ pm < sz := by
      by_cases c1 : (sz : Int) - 1 < cc / 6 % 5
      · rw [if_pos c1]; exact ⟨sz - 1, by omega, by omega⟩
      · rw [if_neg c1]; exact ⟨(cc / 6 % 5).toNat, by omega, by omega⟩
    show gName _ (V.int (if (sz : Int) - 1 < cc / 6 % 5 then (sz : Int) - 1 else cc / 6 % 5)) _ _ _
    rw [hpm]
    clear hpm p0 hsz c6 c6'
    have at8 : ∀ j : Nat, ∃ v : Str, atI (xs.map V.str) ((0 + (j : Int) + cc / 24) % 8) = some (.str v) ∧ v ∈ xs := fun j => word_n xs (n := 8) (by rw [hx8]; rfl) (by decide) _
    refine ⟨_, rfl, _, rfl, by omega, by omega, ?_⟩
    refine comp_str (nums 0 (sz : Int).toNat) (List.range sz) (fun j => Classical.choose (at8 j)) jseq_rng trivial (by unfold nums; rw [List.length_map, List.length_range]; omega) (by unfold nums; rw [List.length_map, List.length_range, List.length_range]; omega) (fun j x r hx hr' H4 e4 Q' q' => ?_) fun ow H4 how e4 how4 => ?_
    · have hx' : x = .int ((0 : Int) + (r : Nat)) := by
        unfold nums at hx
        rw [Int.toNat_natCast, List.getElem?_map, hr'] at hx
        exact (Option.some.inj hx).symm
      subst hx'
      exact ⟨_, rfl, _, rfl, _, rfl, _, _, rfl, rfl, (show CDiv _ 24 from ⟨by decide, by decide⟩), _, _, rfl, rfl, _, _, rfl, rfl, (show (0 : Int) < 8 by decide), nl, _, _, _, rfl, rfl, SqL.of (e4 _ _ hn3), (Classical.choose_spec (at8 r)).1, q' H4 (Same.refl _)⟩
    have hol : ((List.range sz).map fun j => Classical.choose (at8 j)).length = sz := by rw [List.length_map, List.length_range]
    have hox : ∀ y ∈ (List.range sz).map fun j => Classical.choose (at8 j), y ∈ xs := fun y hy => by
      obtain ⟨j, _, rfl⟩ := List.mem_map.mp hy
      exact (Classical.choose_spec (at8 j)).2
    generalize ((List.range sz).map fun j => Classical.choose (at8 j)) = os at how4 hol hox
    have noh : ow ≠ hl := (ne_of_none hh3 how).symm
    have hpo : pm < os.length := by omega
    have atp : atI (os.map V.str) (pm : Int) = some (.str os[pm]) := atI_nat (by rw [List.getElem?_map, List.getElem?_eq_getElem hpo]; rfl)
    have at7 : atI (xs.map V.str) (7 - (i : Int)) = some (.str (xs.getD (7 - i) "")) := by
      have := getD_at (ws := xs) (i := 7 - i) (by omega)
      rw [show (7 : Int) - (i : Int) = ((7 - i : Nat) : Int) by omega]
      exact this
    have hnx : xs.getD (7 - i) "" ∈ xs := by
      rw [List.getD_eq_getElem?_getD, List.getElem?_eq_getElem (by omega)]; exact List.getElem_mem _
    generalize xs.getD (7 - i) "" = nm at at7 hnx
    have hn4 := e4 _ _ hn3
    have hh4 := e4 _ _ hh3
    have hal := Paired.length hp3
    dsimp only [gName]
    refine seq_hide (a := tAsg _ _) fun D1 hN1 hR1 hC1 => hN1 _ _ ?_
    refine seq_hide (a := tIfS _ _ _) fun D2 hN2 hR2 hC2 => ?_
    have rest : ∀ rs : Str, (rs = "" ∨ rs ∈ os) → D2.nx [some (.ref a), some (.ref nl), some (.ref hl), some (.int (i : Int)), some (.int cc), some (.int (sz : Int)), some (.int (pm : Int)), some (.ref ow), some (.str rs)] H4 := fun rs hrs => by
      refine hN2 _ _ ?_
      refine ⟨_, rfl, (.inl ⟨rfl, _, SqL.of hh4⟩), _, rfl, _, rfl, _, _, rfl, rfl, nl, _, _, _, rfl, rfl, SqL.of hn4, at7, _, rfl, _, rfl, _, rfl, (show 4 ≤ sizeLine by decide), fun t ht => ?_⟩
      have t4 := same_new ht (.tup [.str nm, .ref ow, .int (pm : Int), .str rs])
      have u4 : (upd H4 t (.tup [.str nm, .ref ow, .int (pm : Int), .str rs])) t = some (.tup [.str nm, .ref ow, .int (pm : Int), .str rs]) := upd_same
      generalize upd H4 t (.tup [.str nm, .ref ow, .int (pm : Int), .str rs]) = H5 at t4 u4 ⊢
      have h5 := t4 _ _ hh4
      refine ⟨hl, ts.map V.ref, _, rfl, rfl, h5, lt_line (by rw [List.length_map]; omega), ?_⟩
      have hnew : HeadX (· = hl) H5 t ⟨nm, os, pm, rs⟩ := ⟨ow, u4, t4 _ _ how4, noh⟩
      refine ⟨ts ++ [t], hs ++ [⟨nm, os, pm, rs⟩], _, _, _, _, _, _, fun b o h => by rw [upd_ne (ne_of_none h hhl0)]; exact ((e3.trans e4).trans t4) _ _ h, by rw [upd_ne nhn]; exact t4 _ _ hn4, by rw [upd_same, List.map_append]; rfl, Paired.snocP (Paired.mapP hp3 fun _ _ z => HeadX.put (HeadX.same z (e4.trans t4)) rfl h5) (HeadX.put hnew rfl h5), by rw [List.length_append, hi3]; rfl, fun h hh => ?_, rfl⟩
      rcases List.mem_append.mp hh with z | z
      · exact ok3 h z
      · rw [List.mem_singleton.mp z]; exact ⟨hnx, hox, by show 0 < os.length; omega, by show os.length ≤ 6; omega, hpo, hrs⟩
    refine ⟨_, rfl, _, _, rfl, rfl, (show CDiv _ 192 from ⟨by decide, by decide⟩), _, _, rfl, rfl, (show (0 : Int) < 2 by decide), rfl, _, rfl, iteB (fun _ => ?_) (fun _ => ?_)⟩
    · exact ⟨_, rfl, _, rfl, ow, _, _, _, rfl, rfl, SqL.of how4, atp, rest os[pm] (.inr (List.getElem_mem hpo))⟩
    · exact rest "" (.inl rfl)
  · rintro σ H3 ⟨ts, hs, z3, z4, z5, z6, z7, z8, e3, hn3, hh3, hp3, hi3, ok3, rfl⟩
    exact ⟨_, rfl, q hl hs xs H3 e3 hhl0 ⟨ts, hh3, hp3⟩ (by omega) (by omega) hxn ok3⟩
end
end K43
namespace K43
open PySem PySem.Spec L2 Mir
noncomputable abbrev sPlain : Stmt := top 17
theorem lenK {X : Cx} {K : PySem.W.Frag} (h : X.K = K) : CallR X (.builtin "len") (fun xs H Q => ∃ p ys, xs = [.ref p] ∧ (SqL K H p ys ∨ SqT K H p ys) ∧ Q (.int ys.length) H) := by subst h; exact call_len_seq
noncomputable def Ok (x : Str) : Prop := (PyData.str x).canLay0 = true
theorem cut_drop (xs : List V) (n : Nat) : cutV xs (some (n : Int)) none = xs.drop n := by
  unfold cutV
  rw [HT.sIx_nat, show HT.sIx xs.length xs.length none = xs.length from rfl]
  by_cases h : n ≤ xs.length
  · rw [Nat.min_eq_left h, List.take_of_length_le (by rw [List.length_drop]; omega)]
  · rw [Nat.min_eq_right (by omega), List.drop_length, List.drop_eq_nil_of_le (by omega), List.take_nil]
inductive Pl
  | row (r : List Str)
  | call (x c : Str) (vs : List Str)
noncomputable def PlAt (H : Hp) (t : Addr) : Pl → Prop
  | .row r => H t = some (.tup (r.map V.str))
  | .call x c vs => ∃ v, H t = some (.tup [.str "call", .str x, .str c, .ref v]) ∧ H v = some (.tup (vs.map V.str))
theorem PlAt.same {H H' : Hp} {t : Addr} {p : Pl} (h : PlAt H t p) (e : Same H H') : PlAt H' t p := by
  cases p with
  | row r => exact e _ _ h
  | call x c vs => obtain ⟨v, h1, h2⟩ := h; exact ⟨v, e _ _ h1, e _ _ h2⟩
noncomputable def PlOk : Pl → Prop
  | .row r => (∃ h r', r = h :: r' ∧ h ≠ "if" ∧ h ≠ "while") ∧ ∀ y ∈ r, Ok y
  | .call x c vs => Ok x ∧ Ok c ∧ ∀ y ∈ vs, Ok y
theorem okSign_small : ∀ c ∈ Mir.letters.cps.toList ++ Mir.figures.cps.toList, c < 128 := by decide +kernel
theorem ok_name {y : Str} (h : isName y = true) : Ok y := by
  have h2 : y.cps.toList.all okSign = true := by
    unfold isName at h
    split at h
    · cases h
    · rw [Bool.and_eq_true] at h; exact h.2
  unfold Ok
  simp only [PyData.canLay0]
  unfold PyData.strOk
  rw [← Array.all_toList, List.all_eq_true]
  intro c hc
  have h3 := List.all_eq_true.mp h2 c hc
  unfold okSign at h3
  rw [Bool.or_eq_true] at h3
  have : c < 128 := okSign_small c (List.mem_append.mpr (h3.imp of_decide_eq_true of_decide_eq_true))
  simp only [decide_eq_true_eq]
  omega
inductive spPlain (vs : List V) (H : Hp) (Q : VK) (E : XK) : Prop
  | mk (wy m : Int) (t hl : Addr) (S : Addr → Prop) (h : Hd) (hs : List Hd) (xs : List Str) (h0 : vs = [.int wy, .int m, .ref t, .ref hl]) (h1 : HeadX S H t h) (h2 : HdOk xs h) (h3 : HeadsAt H hl hs) (h4 : 0 < hs.length) (h4' : hs.length ≤ 4) (h5 : ∀ h ∈ hs, HdOk xs h) (h6 : ∀ x ∈ xs, isName x = true)
      (q : ∀ t p H', Same H H' → PlAt H' t p → PlOk p → Q (.ref t) H') : spPlain vs H Q E
theorem ok_words : ∀ y ∈ ([("set" : Str), "read", "write", "new", "free", "first", "second", "nil", "", "is", "not", "if", "while", "call"] : List Str), (PyData.str y).canLay0 = true := by decide +kernel
theorem row_ok {h : Str} {r : List Str} (hh : h ∈ [("set" : Str), "read", "write", "new", "free"]) (hr : ∀ y ∈ r, Ok y) : PlOk (.row (h :: r)) := by
  refine ⟨⟨h, r, rfl, ?_, ?_⟩, fun y hy => ?_⟩
  · rintro rfl; exact absurd hh (by decide +kernel)
  · rintro rfl; exact absurd hh (by decide +kernel)
  · rcases List.mem_cons.mp hy with rfl | z
    · refine ok_words y ?_
      simp only [List.mem_cons, List.not_mem_nil, or_false] at hh ⊢
      rcases hh with z | z | z | z | z <;> simp [z]
    · exact hr y z
theorem fields_at (i : Int) : ∃ v : Str, atI [V.str "first", V.str "second"] (i % 2) = some (.str v) ∧ Ok v := by
  obtain ⟨v, hv, hm⟩ := at_mod (xs := [V.str "first", V.str "second"]) (m := 2) (i := i) rfl (by decide)
  simp only [List.mem_cons, List.not_mem_nil, or_false] at hm
  rcases hm with rfl | rfl
  · exact ⟨_, hv, show (PyData.str "first").canLay0 = true by decide +kernel⟩
  · exact ⟨_, hv, show (PyData.str "second").canLay0 = true by decide +kernel⟩
section
variable {P : Program} {w : World} {K : PySem.W.Frag} {mg : Str → Option Value} {base : Heap} {f gC gA gN gB : Addr} {fd dC dA dN dB : FuncData}
theorem scPlain : FnScope ["_law_way", "_law_mixed", "_law_head", "_law_heads_here", "_law_own", "_law_some", "_law_x", "_law_y", "_law_field", "_law_e", "_law_f", "_law_called", "_law_values"] ["_law_way", "_law_mixed", "_law_head", "_law_heads_here"] (defScope sPlain) := ⟨rfl, rfl, rfl, by decide +kernel, rfl, by decide +kernel, by decide +kernel⟩
theorem ok_plain (C : Con K mg w) (F : Fun K "_law_plain" "_law_plain" sPlain f fd) : FnOk P w K mg base CX0 1 f fd ["_law_way", "_law_mixed", "_law_head", "_law_heads_here"] spPlain := by
  refine F.okQ scPlain (fun vs H Q E h => ?_) (fun cdv A outer s0 H vs Q E hr h => ?_)
  · obtain ⟨wy, m, t, hl, S, h, hs, xs, rfl, _⟩ := h; rfl
  obtain ⟨wy, m, t, hl, S, hd, hs, xs, rfl, hX, hok, hH, hs0, hs4, hsok, hxn, q⟩ := h
  have nd := scPlain.nd
  refine ⟨_, qb_cons (qs_set (i := 4) nd rfl (Or.inl rfl) (qe_ix ix_tup (qv 2) qe_int (fun _ _ => rfl)))
    (qb_cons (qs_flat (qs_set (i := 5) nd rfl (Or.inr rfl) (qe_op op_cat (qv 4) (qe_lst (qa_str qa_nil)))))
    (qb_cons (qs_set (i := 6) nd rfl (Or.inl rfl) (qe_ix ix_list (qe_slice sl_list (qv 4) (qo_some (qe_ix ix_tup (qv 2) qe_int (fun _ _ => rfl))) qo_none) (qe_op op_mod (qv 1) (qe_op op_sub (qe_callB call_len_seq rfl C.len PySem.boot_len (qa_nm (qv 4) qa_nil)) (qe_ix ix_tup (qv 2) qe_int (fun _ _ => rfl)))) (fun _ _ => rfl)))
    (qb_cons (qs_set (i := 7) nd rfl (Or.inl rfl) (qe_ix ix_list (qv 4) (qe_op op_mod (qe_op op_fdiv (qv 1) qe_int) (qe_callB call_len_seq rfl C.len PySem.boot_len (qa_nm (qv 4) qa_nil))) (fun _ _ => rfl)))
    (qb_cons (qs_flat (qs_set (i := 8) nd rfl (Or.inl rfl) (qe_ix ix_list (qe_lst (qa_str (qa_str qa_nil))) (qe_op op_mod (qe_op op_fdiv (qv 1) qe_int) qe_int) (fun _ _ => rfl))))
    (qb_cons (qs_set (i := 9) nd rfl (Or.inl rfl) (qe_ix ix_list (qv 5) (qe_op op_mod (qe_op op_fdiv (qv 1) qe_int) (qe_callB call_len_seq rfl C.len PySem.boot_len (qa_nm (qv 5) qa_nil))) (fun _ _ => rfl)))
    (qb_cons (qs_set (i := 10) nd rfl (Or.inl rfl) (qe_ix ix_list (qv 5) (qe_op op_mod (qe_op op_fdiv (qv 1) qe_int) (qe_callB call_len_seq rfl C.len PySem.boot_len (qa_nm (qv 5) qa_nil))) (fun _ _ => rfl)))
    (qb_cons (qs_if (qt_cmpR op_eq (qv 0) qe_int (nomark _)) (qb_one (qs_ret (qe_tup (qa_str (qa_nm (qv 6) (qa_nm (qv 9) qa_nil)))))) qb_nil)
    (qb_cons (qs_if (qt_cmpR op_eq (qv 0) qe_int (nomark _)) (qb_one (qs_ret (qe_tup (qa_str (qa_nm (qv 6) (qa_nm (qv 7) (qa_nm (qv 8) qa_nil))))))) qb_nil)
    (qb_cons (qs_if (qt_cmpR op_eq (qv 0) qe_int (nomark _)) (qb_one (qs_ret (qe_tup (qa_str (qa_nm (qv 7) (qa_nm (qv 8) (qa_nm (qv 9) qa_nil))))))) qb_nil)
    (qb_cons (qs_if (qt_cmpR op_eq (qv 0) qe_int (nomark _)) (qb_one (qs_ret (qe_tup (qa_str (qa_nm (qv 6) (qa_nm (qv 9) (qa_nm (qv 10) qa_nil))))))) qb_nil)
    (qb_cons (qs_if (qt_cmpR op_eq (qv 0) qe_int (nomark _)) (qb_one (qs_ret (qe_tup (qa_str (qa_nm (qv 7) qa_nil))))) qb_nil)
    (qb_cons (qs_set (i := 11) nd rfl (Or.inl rfl) (qe_ix ix_list (qv 3) (qe_op op_mod (qe_op op_fdiv (qv 1) qe_int) (qe_callB call_len_seq rfl C.len PySem.boot_len (qa_nm (qv 3) qa_nil))) (fun _ _ => rfl)))
    (qb_cons (qs_set (i := 12) nd rfl (Or.inl rfl) (qe_callTy call_tuple_of rfl C.tuple PyProof.Rows.boot_tuple (qa_cons (qe_compG ["_law_j", "_law_some", "_law_mixed"] [5, 1] (qi_range1 rfl C.range (qa_sub (qe_ix ix_tup (qv 11) qe_int (fun _ _ => rfl)) qa_nil)) (fun _ _ _ _ => qts_nil) (fun _ _ _ _ => (qe_ix (ixK (K := K) rfl) (qv 1) (qe_op op_mod (qe_op op_fdiv (qv 2) (qe_op op_add qe_int (qv 0))) (qe_callB (lenK (K := K) rfl) rfl C.len PySem.boot_len (qa_nm (qv 1) qa_nil))) (fun _ _ => rfl)))) qa_nil)))
    (qb_cons (qs_if (qt_cmpR op_eq (qe_ix ix_tup (qv 11) qe_int (fun _ _ => rfl)) qe_str (nomark _)) (qb_one (qs_ret (qe_tup (qa_str (qa_str (qa_sub (qe_ix ix_tup (qv 11) qe_int (fun _ _ => rfl)) (qa_nm (qv 12) qa_nil))))))) qb_nil)
    (qb_one (qs_ret (qe_tup (qa_str (qa_nm (qv 6) (qa_sub (qe_ix ix_tup (qv 11) qe_int (fun _ _ => rfl)) (qa_nm (qv 12) qa_nil))))))))))))))))))))), ?_⟩
  obtain ⟨ow, hX1, hX2, _⟩ := hX
  obtain ⟨nm, os, pm, rs⟩ := hd
  obtain ⟨hok1, hok2, hok3, hok4, hok5, hok6⟩ := hok
  dsimp only at hX1 hX2 hok1 hok2 hok3 hok4 hok5 hok6
  have okx : ∀ x ∈ xs, Ok x := fun x hx => ok_name (hxn x hx)
  have oko : ∀ x ∈ os, Ok x := fun x hx => okx x (hok2 x hx)
  refine ⟨_, rfl, t, _, 1, _, rfl, rfl, SqT.of hX1, rfl, ?_⟩
  refine ⟨_, rfl, (show 1 ≤ sizeLine by decide), fun x1 hx1 => ?_⟩
  have s1 := same_new hx1 (.lst [.str "nil"])
  have k1 : (upd H x1 (.lst [.str "nil"])) x1 = some (.lst [.str "nil"]) := upd_same
  generalize upd H x1 (.lst [.str "nil"]) = H1 at s1 k1 ⊢
  refine ⟨ow, x1, _, _, rfl, rfl, s1 _ _ hX2, k1, le_line (by rw [List.length_map]; show _ + 1 ≤ 1000; omega), fun sm hsm => ?_⟩
  have s2 := same_new hsm (.lst (os.map V.str ++ [.str "nil"]))
  have k2 : (upd H1 sm (.lst (os.map V.str ++ [.str "nil"]))) sm = some (.lst ((os ++ [("nil" : Str)]).map V.str)) := by rw [upd_same, List.map_append]; rfl
  have e2 := s1.trans s2
  have hyl : (os ++ [("nil" : Str)]).length = os.length + 1 := by rw [List.length_append]; rfl
  have oky : ∀ y ∈ os ++ [("nil" : Str)], Ok y := fun y hy => by
    rcases List.mem_append.mp hy with z | z
    · exact oko y z
    · rw [List.mem_singleton.mp z]; exact ok_words "nil" (by simp)
  generalize upd H1 sm (.lst (os.map V.str ++ [.str "nil"])) = H2 at k2 e2 ⊢
  generalize os ++ [("nil" : Str)] = ys at k2 hyl oky
  clear s1 s2 k1 hx1 hsm
  intro τ eτ
  obtain rfl : τ = [some (.int wy), some (.int m), some (.ref t), some (.ref hl), some (.ref ow), some (.ref sm), none, none, none, none, none, none, none] := eτ
  have ho2 := e2 _ _ hX2
  have ht2 := e2 _ _ hX1
  have ly0 : (0 : Int) < (((ys.map V.str).length : Nat) : Int) := by rw [List.length_map]; omega
  have lo0 : (0 : Int) < (((os.map V.str).length : Nat) : Int) := by rw [List.length_map]; omega
  refine ⟨_, rfl, _, rfl, t, _, 2, _, rfl, rfl, SqT.of ht2, rfl, _, rfl, ow, _, rfl, SqL.of ho2, fun x2 hx2 => ?_⟩
  rw [cut_drop, ← List.map_drop]
  have s3 := same_new hx2 (.lst ((os.drop pm).map V.str))
  have k3 : (upd H2 x2 (.lst ((os.drop pm).map V.str))) x2 = some (.lst ((os.drop pm).map V.str)) := upd_same
  generalize upd H2 x2 (.lst ((os.drop pm).map V.str)) = H3 at s3 k3 ⊢
  have hdl : (((os.map V.str).length : Nat) : Int) - (pm : Int) = (((os.drop pm).length : Nat) : Int) := by rw [List.length_map, List.length_drop]; omega
  obtain ⟨vx, hvx, hvxm⟩ := word_n (os.drop pm) (n := (((os.map V.str).length : Nat) : Int) - (pm : Int)) hdl.symm (by rw [List.length_map]; omega) m
  have hvo := List.mem_of_mem_drop hvxm
  have ho3 := s3 _ _ ho2
  have ht3 := s3 _ _ ht2
  have hm3 := s3 _ _ k2
  refine ⟨_, rfl, _, rfl, ow, _, rfl, .inl (SqL.of ho3), _, rfl, t, _, 2, _, rfl, rfl, SqT.of ht3, rfl, _, _, rfl, rfl, _, _, rfl, rfl, (by rw [List.length_map]; omega), x2, _, _, _, rfl, rfl, SqL.of k3, hvx, ?_⟩
  obtain ⟨vy, hvy, hvym⟩ := word_len os hok3 (m / 6)
  refine ⟨_, rfl, _, rfl, _, _, rfl, rfl, (show CDiv _ 6 from ⟨by decide, by decide⟩), _, rfl, ow, _, rfl, .inl (SqL.of ho3), _, _, rfl, rfl, lo0, ow, _, _, _, rfl, rfl, SqL.of ho3, hvy, ?_⟩
  obtain ⟨fi, hfi, okfi⟩ := fields_at (m / 36)
  refine ⟨(show 2 ≤ sizeLine by decide), fun x3 hx3 => ?_⟩
  have s4 := same_new hx3 (.lst [.str "first", .str "second"])
  have k4 : (upd H3 x3 (.lst [.str "first", .str "second"])) x3 = some (.lst [.str "first", .str "second"]) := upd_same
  generalize upd H3 x3 (.lst [.str "first", .str "second"]) = H4 at s4 k4 ⊢
  have hm4 := s4 _ _ hm3
  refine ⟨_, rfl, _, _, rfl, rfl, (show CDiv _ 36 from ⟨by decide, by decide⟩), _, _, rfl, rfl, (show (0 : Int) < 2 by decide), x3, _, _, _, rfl, rfl, SqL.of k4, hfi, ?_⟩
  intro τ eτ
  obtain rfl : τ = [some (.int wy), some (.int m), some (.ref t), some (.ref hl), some (.ref ow), some (.ref sm), some (.str vx), some (.str vy), some (.str fi), none, none, none, none] := eτ
  obtain ⟨ve, hve, hvem⟩ := word_len ys (by omega) (m / 72)
  obtain ⟨vf, hvf, hvfm⟩ := word_len ys (by omega) (m / 504)
  refine ⟨_, rfl, _, rfl, _, _, rfl, rfl, (show CDiv _ 72 from ⟨by decide, by decide⟩), _, rfl, sm, _, rfl, .inl (SqL.of hm4), _, _, rfl, rfl, ly0, sm, _, _, _, rfl, rfl, SqL.of hm4, hve, ?_⟩
  refine ⟨_, rfl, _, rfl, _, _, rfl, rfl, (show CDiv _ 504 from ⟨by decide, by decide⟩), _, rfl, sm, _, rfl, .inl (SqL.of hm4), _, _, rfl, rfl, ly0, sm, _, _, _, rfl, rfl, SqL.of hm4, hvf, ?_⟩
  have e4 := (e2.trans s3).trans s4
  clear hve hvf hvx hvy hfi
  have fin : ∀ (h : Str) (r : List Str) (t : Addr), h ∈ [("set" : Str), "read", "write", "new", "free"] → (∀ y ∈ r, Ok y) → H4 t = none → Q (.ref t) (upd H4 t (.tup ((h :: r).map V.str))) := fun h r t hh hr ht => q t (.row (h :: r)) _ (e4.trans (same_new ht _)) upd_same (row_ok hh hr)
  have okx' := oko _ hvo
  have oky' := oko _ hvym
  have oke := oky _ hvem
  have okf := oky _ hvfm
  have ok2 : ∀ {a b : Str}, Ok a → Ok b → ∀ y ∈ [a, b], Ok y := fun ha hb y hy => by
    rcases List.mem_cons.mp hy with rfl | z
    · exact ha
    · rw [List.mem_singleton.mp z]; exact hb
  have ok3 : ∀ {a b c : Str}, Ok a → Ok b → Ok c → ∀ y ∈ [a, b, c], Ok y := fun ha hb hc y hy => by
    rcases List.mem_cons.mp hy with rfl | z
    · exact ha
    · exact ok2 hb hc y z
  refine ⟨_, rfl, rfl, _, rfl, iteB (fun _ => ?_) (fun _ => ?_)⟩
  · exact ⟨_, rfl, _, rfl, (show 3 ≤ sizeLine by decide), fun t ht => fin "set" [vx, ve] t (by decide +kernel) (ok2 okx' oke) ht⟩
  refine ⟨_, rfl, rfl, _, rfl, iteB (fun _ => ?_) (fun _ => ?_)⟩
  · exact ⟨_, rfl, _, rfl, _, rfl, (show 4 ≤ sizeLine by decide), fun t ht => fin "read" [vx, vy, fi] t (by decide +kernel) (ok3 okx' oky' okfi) ht⟩
  refine ⟨_, rfl, rfl, _, rfl, iteB (fun _ => ?_) (fun _ => ?_)⟩
  · exact ⟨_, rfl, _, rfl, _, rfl, (show 4 ≤ sizeLine by decide), fun t ht => fin "write" [vy, fi, ve] t (by decide +kernel) (ok3 oky' okfi oke) ht⟩
  refine ⟨_, rfl, rfl, _, rfl, iteB (fun _ => ?_) (fun _ => ?_)⟩
  · exact ⟨_, rfl, _, rfl, _, rfl, (show 4 ≤ sizeLine by decide), fun t ht => fin "new" [vx, ve, vf] t (by decide +kernel) (ok3 okx' oke okf) ht⟩
  refine ⟨_, rfl, rfl, _, rfl, iteB (fun _ => ?_) (fun _ => ?_)⟩
  · exact ⟨_, rfl, (show 2 ≤ sizeLine by decide), fun t ht => fin "free" [vy] t (by decide +kernel) (fun y hy => by rw [List.mem_singleton.mp hy]; exact oky') ht⟩
  have hH4 : HeadsAt H4 hl hs := by
    obtain ⟨ts, h1, h2⟩ := hH
    exact ⟨ts, e4 _ _ h1, Paired.mapP h2 fun _ _ z => z.same e4⟩
  obtain ⟨ts, hl4, hp4⟩ := hH4
  have htl := Paired.length hp4
  obtain ⟨cv, hcv, hcm⟩ := at_mod (xs := ts.map V.ref) (m := ((ts.map V.ref).length : Int)) (i := m / 3528) rfl (by rw [List.length_map]; omega)
  obtain ⟨ct, hct, rfl⟩ := List.mem_map.mp hcm
  obtain ⟨k, hk⟩ := List.getElem?_of_mem hct
  obtain ⟨⟨cn, cos, cpm, crs⟩, hck, cow, hc1, hc2, hc3⟩ := Paired.nth hp4 hk
  have hcok := hsok _ (List.mem_of_getElem? hck)
  obtain ⟨hcok1, hcok2, hcok3, hcok4, hcok5, hcok6⟩ := hcok
  dsimp only at hc1 hc2 hcok1 hcok2 hcok3 hcok4 hcok5 hcok6
  refine ⟨_, rfl, _, rfl, _, _, rfl, rfl, (show CDiv _ 3528 from ⟨by decide, by decide⟩), _, rfl, hl, _, rfl, .inl (SqL.of hl4), _, _, rfl, rfl, (by rw [List.length_map]; omega), hl, _, _, _, rfl, rfl, SqL.of hl4, hcv, ?_⟩
  have aty : ∀ j : Nat, ∃ v : Str, atI (ys.map V.str) ((m / (5 + (0 + (j : Int)))) % (((ys.map V.str).length : Nat) : Int)) = some (.str v) ∧ v ∈ ys := fun j => word_len ys (by omega) _
  refine ⟨_, rfl, ct, _, 2, _, rfl, rfl, SqT.of hc1, rfl, _, rfl, by omega, by omega, ?_⟩
  refine comp_str (nums 0 (cpm : Int).toNat) (List.range cpm) (fun j => Classical.choose (aty j)) jseq_rng trivial (by unfold nums; rw [List.length_map, List.length_range]; omega) (by unfold nums; rw [List.length_map, List.length_range, List.length_range]; omega) (fun j x r hx hr' H5 e5 Q' q' => ?_) fun vl H5 hvl e5 hvl5 => ?_
  · have hx' : x = .int ((0 : Int) + (r : Nat)) := by
      unfold nums at hx
      rw [Int.toNat_natCast, List.getElem?_map, hr'] at hx
      exact (Option.some.inj hx).symm
    subst hx'
    have hr5 : (0 : Int) ≤ (r : Int) ∧ (r : Int) ≤ 6 := by
      have := List.getElem?_eq_some_iff.mp hr'
      obtain ⟨h1, h2⟩ := this
      rw [List.getElem_range] at h2
      rw [List.length_range] at h1
      omega
    have hm5 := e5 _ _ hm4
    exact ⟨_, rfl, _, rfl, _, rfl, _, _, rfl, rfl, _, _, rfl, rfl, (show CDiv _ _ from ⟨by omega, by omega⟩), _, rfl, sm, _, rfl, .inl (SqL.of hm5), _, _, rfl, rfl, ly0, sm, _, _, _, rfl, rfl, SqL.of hm5, (Classical.choose_spec (aty r)).1, q' H5 (Same.refl _)⟩
  have hvy' : ∀ y ∈ (List.range cpm).map fun j => Classical.choose (aty j), Ok y := fun y hy => by
    obtain ⟨j, _, rfl⟩ := List.mem_map.mp hy
    exact oky _ (Classical.choose_spec (aty j)).2
  generalize ((List.range cpm).map fun j => Classical.choose (aty j)) = vs at hvl5 hvy'
  refine ⟨vl, _, rfl, .inl ⟨SqL.of hvl5, fun vt hvt => ?_⟩⟩
  have s6 := same_new hvt (.tup (vs.map V.str))
  have k6 : (upd H5 vt (.tup (vs.map V.str))) vt = some (.tup (vs.map V.str)) := upd_same
  generalize upd H5 vt (.tup (vs.map V.str)) = H6 at s6 k6 ⊢
  have e6 := (e4.trans e5).trans s6
  have c6 := (e5.trans s6) _ _ hc1
  have okc : Ok cn := okx _ hcok1
  have fin2 : ∀ (x : Str) (t : Addr), Ok x → H6 t = none → Q (.ref t) (upd H6 t (.tup [.str "call", .str x, .str cn, .ref vt])) := fun x t hx ht => q t (.call x cn vs) _ (e6.trans (same_new ht _)) ⟨vt, upd_same, (same_new ht _) _ _ k6⟩ ⟨hx, okc, hvy'⟩
  refine ⟨_, rfl, ct, _, 3, _, rfl, rfl, SqT.of c6, rfl, rfl, _, rfl, iteB (fun _ => ?_) (fun _ => ?_)⟩
  · exact ⟨_, rfl, ct, _, 0, _, rfl, rfl, SqT.of c6, rfl, _, rfl, (show 4 ≤ sizeLine by decide), fun t ht => fin2 "" t (ok_words "" (by simp)) ht⟩
  · exact ⟨_, rfl, _, rfl, ct, _, 0, _, rfl, rfl, SqT.of c6, rfl, _, rfl, (show 4 ≤ sizeLine by decide), fun t ht => fin2 vx t okx' ht⟩
end
end K43
namespace K43
open PySem PySem.Spec L2 Mir
abbrev Lv := Addr → Option Nat
noncomputable def Mt (lv : Lv) (S : List Addr) (b : Addr) : Prop := (∃ k, lv b = some k) ∨ b ∈ S
structure Up (S : List Addr) (lv lv' : Lv) (H H' : Hp) : Prop where
  inc : ∀ a k, lv a = some k → lv' a = some k
  new : ∀ a k, lv' a = some k → lv a = some k ∨ H a = none
  keep : ∀ b o, H b = some o → ¬ Mt lv S b → H' b = some o
  dom : ∀ b, H' b = none → H b = none
noncomputable def lvAdd (lv : Lv) (b : Addr) (k : Nat) : Lv := fun a => if a = b then some k else lv a
section
variable {S : List Addr} {lv lv' lv1 lv2 : Lv} {H H' H1 H2 : Hp}
theorem Up.not (u : Up S lv lv' H H') {b : Addr} {o : HO} (h : H b = some o) (n : ¬ Mt lv S b) : ¬ Mt lv' S b := by
  rintro (⟨k, z⟩ | z)
  · rcases u.new _ _ z with y | y
    · exact n (.inl ⟨k, y⟩)
    · rw [y] at h; cases h
  · exact n (.inr z)
theorem Up.refl : Up S lv lv H H := ⟨fun _ _ z => z, fun _ _ z => .inl z, fun _ _ h _ => h, fun _ h => h⟩
theorem Up.trans (u : Up S lv lv1 H H1) (v : Up S lv1 lv2 H1 H2) : Up S lv lv2 H H2 :=
  ⟨fun a k z => v.inc _ _ (u.inc _ _ z), fun a k z => (v.new a k z).elim (fun y => u.new a k y) (fun y => .inr (u.dom _ y)), fun b o h n => v.keep b o (u.keep b o h n) (u.not h n), fun b h => u.dom b (v.dom b h)⟩
theorem Up.same (e : Same H H') : Up S lv lv H H' := ⟨fun _ _ z => z, fun _ _ z => .inl z, fun b o h _ => e b o h, fun _ h => e.free h⟩
theorem Up.put {a : Addr} {o o' : HO} (hM : Mt lv S a) (ha : H a = some o) : Up S lv lv H (upd H a o') :=
  ⟨fun _ _ z => z, fun _ _ z => .inl z, fun b u h n => by rw [upd_ne (fun z => n (by rw [z]; exact hM))]; exact h, fun b h => by
    by_cases z : b = a
    · rw [z, upd_same] at h; cases h
    · rw [upd_ne z] at h; exact h⟩
theorem Up.add {b : Addr} {k : Nat} {o : HO} (hb : H b = none) (hl : lv b = none) : Up S lv (lvAdd lv b k) H (upd H b o) :=
  ⟨fun a j z => by
    unfold lvAdd
    rw [if_neg (fun y => by rw [y, hl] at z; cases z)]; exact z, fun a j z => by
    unfold lvAdd at z
    by_cases y : a = b
    · exact .inr (by rw [y]; exact hb)
    · rw [if_neg y] at z; exact .inl z, fun c u h _ => same_new hb _ _ _ h, fun c h => (same_new hb o).free h⟩
noncomputable def MtL (H : Hp) (lv : Lv) (S : List Addr) : Prop := ∀ b, Mt lv S b → ∃ us, H b = some (.lst us)
theorem Up.tup (u : Up S lv lv' H H') (m : MtL H lv S) {t : Addr} {vs : List V} (h : H t = some (.tup vs)) : H' t = some (.tup vs) := u.keep _ _ h fun z => by
  obtain ⟨us, hu⟩ := m _ z
  rw [h] at hu; cases hu
theorem Up.frz (u : Up S lv lv' H H') (m : MtL H lv S) {t : Addr} {o : Obj} {x : HO} (h : H t = some (.frz o x)) : H' t = some (.frz o x) := u.keep _ _ h fun z => by
  obtain ⟨us, hu⟩ := m _ z
  rw [h] at hu; cases hu
theorem Up.sqT (u : Up S lv lv' H H') (m : MtL H lv S) {K : PySem.W.Frag} {t : Addr} {vs : List V} (h : SqT K H t vs) : SqT K H' t vs := by
  rcases h with (h | ⟨o, h⟩) | h
  · exact .inl (.inl (u.tup m h))
  · exact .inl (.inr ⟨o, u.frz m h⟩)
  · exact .inr h
theorem Up.rows (u : Up S lv lv' H H') (m : MtL H lv S) {K : PySem.W.Frag} {t : Addr} {rs : List (List Str)} (n : ¬ Mt lv S t) (h : RowsAt K H t rs) : RowsAt K H' t rs := by
  obtain ⟨as, h1, h2⟩ := h
  exact ⟨as, u.keep _ _ h1 n, Paired.mapP h2 fun _ _ z => u.sqT m z⟩
theorem Up.pl (u : Up S lv lv' H H') (m : MtL H lv S) {t : Addr} {p : Pl} (h : PlAt H t p) : PlAt H' t p := by
  cases p with
  | row r => exact u.tup m h
  | call x c vs => obtain ⟨v, h1, h2⟩ := h; exact ⟨v, u.tup m h1, u.tup m h2⟩
inductive DeedAt (K : PySem.W.Frag) (H : Hp) (lv : Lv) (S : List Addr) (k : Nat) (t : Addr) : Prop
  | plain (p : Pl) (h1 : PlAt H t p) (h2 : PlOk p)
  | cond (c i o : Addr) (r : List Str) (h : H t = some (.tup [.str "if", .ref c, .ref i, .ref o])) (hc : H c = some (.tup (r.map V.str))) (okr : ∀ y ∈ r, Ok y) (hi : lv i = some (k + 1)) (ho : lv o = some (k + 1))
  | loop (c td i fa pa : Addr) (r : List Str) (F P : List (List Str)) (h : H t = some (.tup [.str "while", .ref c, .ref td, .ref i])) (hc : H c = some (.tup (r.map V.str))) (okr : ∀ y ∈ r, Ok y) (htd : H td = some (.tup [.ref fa, .ref pa])) (hF : RowsAt K H fa F) (hP : RowsAt K H pa P) (nF : ¬ Mt lv S fa) (nP : ¬ Mt lv S pa)
      (okF : ∀ r ∈ F, ∀ y ∈ r, Ok y) (okP : ∀ r ∈ P, ∀ y ∈ r, Ok y) (lF : F.length ≤ 10) (lP : P.length ≤ 10) (hi : lv i = some (k + 1))
theorem rows_lst {K : PySem.W.Frag} {H : Hp} {t : Addr} {rs : List (List Str)} (h : RowsAt K H t rs) : ∃ us, H t = some (.lst us) := by
  obtain ⟨as, h1, _⟩ := h; exact ⟨_, h1⟩
theorem DeedAt.up {K : PySem.W.Frag} {k : Nat} {t : Addr} (h : DeedAt K H lv S k t) (m : MtL H lv S) (u : Up S lv lv' H H') : DeedAt K H' lv' S k t := by
  cases h with
  | plain p h1 h2 => exact .plain p (u.pl m h1) h2
  | cond c i o r h hc okr hi ho => exact .cond c i o r (u.tup m h) (u.tup m hc) okr (u.inc _ _ hi) (u.inc _ _ ho)
  | loop c td i fa pa r F P h hc okr htd hF hP nF nP okF okP lF lP hi =>
    obtain ⟨_, q1⟩ := rows_lst hF
    obtain ⟨_, q2⟩ := rows_lst hP
    exact .loop c td i fa pa r F P (u.tup m h) (u.tup m hc) okr (u.tup m htd) (u.rows m nF hF) (u.rows m nP hP) (u.not q1 nF) (u.not q2 nP) okF okP lF lP (u.inc _ _ hi)
inductive EntAt (H : Hp) (lv : Lv) (i : Nat) (e : Addr) : Prop
  | one (d : Addr) (h : H e = some (.tup [.ref d, .non])) (hd : lv d = some i)
  | two (d o : Addr) (h : H e = some (.tup [.ref d, .ref o])) (hd : lv d = some i) (ho : lv o = some i)
theorem EntAt.up {i : Nat} {e : Addr} (h : EntAt H lv i e) (m : MtL H lv S) (u : Up S lv lv' H H') : EntAt H' lv' i e := by
  cases h with
  | one d h hd => exact .one d (u.tup m h) (u.inc _ _ hd)
  | two d o h hd ho => exact .two d o (u.tup m h) (u.inc _ _ hd) (u.inc _ _ ho)
noncomputable def EntsAt (H : Hp) (lv : Lv) (es : List Addr) : Prop := 0 < es.length ∧ es.length ≤ 5 ∧ ∀ i e, es[i]? = some e → EntAt H lv i e
noncomputable def Psn (H : Hp) (lv : Lv) (a : Addr) (i : Nat) (t : Addr) : Prop := ∃ (k : Nat) (ts : List Addr), lv a = some k ∧ H a = some (.lst (ts.map V.ref)) ∧ ts[i]? = some t
inductive Inn (H : Hp) (t b : Addr) : Nat → Prop
  | i0 (c : V) (o : Addr) (h : H t = some (.tup [.str "if", c, .ref b, .ref o])) : Inn H t b 0
  | i1 (c : V) (i : Addr) (h : H t = some (.tup [.str "if", c, .ref i, .ref b])) : Inn H t b 1
  | w0 (c d : V) (h : H t = some (.tup [.str "while", c, d, .ref b])) : Inn H t b 0
noncomputable def Orph (H : Hp) (lv : Lv) (b : Addr) : Prop := ∀ a i t s, Psn H lv a i t → ¬ Inn H t b s
structure Wk (K : PySem.W.Frag) (H : Hp) (lv : Lv) (S : List Addr) (n : Nat) : Prop where
  low : ∀ a k, lv a = some k → k ≤ 4
  lists : ∀ a k, lv a = some k → ∃ ts : List Addr, H a = some (.lst (ts.map V.ref)) ∧ ts.length ≤ n ∧ ∀ t ∈ ts, DeedAt K H lv S k t
  stacks : ∀ s ∈ S, ∃ es : List Addr, H s = some (.lst (es.map V.ref)) ∧ EntsAt H lv es
  apart : ∀ s ∈ S, lv s = none
  sz : ∃ d : Nat → Nat, d 0 + d 1 + d 2 + d 3 + d 4 ≤ n ∧ ∀ a k (ts : List Addr), lv a = some k → H a = some (.lst (ts.map V.ref)) → ts.length ≤ d k
  one : ∀ a i t s a' i' t' s' b, Psn H lv a i t → Inn H t b s → Psn H lv a' i' t' → Inn H t' b s' → a = a' ∧ i = i' ∧ s = s'
  num : ∃ nm : Addr → Nat → Nat, (∀ a i t, Psn H lv a i t → nm a i < n) ∧ ∀ a i t a' i' t', Psn H lv a i t → Psn H lv a' i' t' → nm a i = nm a' i' → a = a' ∧ i = i'
theorem pl_word {H : Hp} {t : Addr} {p : Pl} (h : PlAt H t p) (ok : PlOk p) : ∃ (w : Str) (vs : List V), H t = some (.tup (.str w :: vs)) ∧ w ≠ "if" ∧ w ≠ "while" := by
  cases p with
  | row r => obtain ⟨⟨w, r', rfl, h1, h2⟩, _⟩ := ok; exact ⟨w, r'.map V.str, h, h1, h2⟩
  | call x c vs => obtain ⟨v, h1, h2⟩ := h; exact ⟨"call", _, h1, by decide +kernel, by decide +kernel⟩
theorem inn_plain {H : Hp} {t b : Addr} {s : Nat} {p : Pl} (h : PlAt H t p) (ok : PlOk p) : ¬ Inn H t b s := fun z => by
  obtain ⟨w, vs, hw, n1, n2⟩ := pl_word h ok
  cases z with
  | i0 c o h' => rw [hw] at h'; cases h'; exact n1 rfl
  | i1 c o h' => rw [hw] at h'; cases h'; exact n1 rfl
  | w0 c d h' => rw [hw] at h'; cases h'; exact n2 rfl
theorem inn_if {H : Hp} {t x b b2 : Addr} {c : V} {s : Nat} (h : H t = some (.tup [.str "if", c, .ref b, .ref b2])) (z : Inn H t x s) : (x = b ∧ s = 0) ∨ (x = b2 ∧ s = 1) := by
  cases z with
  | i0 c o h' => rw [h] at h'; cases h'; exact .inl ⟨rfl, rfl⟩
  | i1 c o h' => rw [h] at h'; cases h'; exact .inr ⟨rfl, rfl⟩
  | w0 c d h' =>
    rw [h] at h'
    exact absurd (V.str.inj (List.cons.inj (HO.tup.inj (Option.some.inj h'))).1) (by decide +kernel)
theorem inn_while {H : Hp} {t x b : Addr} {c d : V} {s : Nat} (h : H t = some (.tup [.str "while", c, d, .ref b])) (z : Inn H t x s) : x = b ∧ s = 0 := by
  cases z with
  | i0 c o h' =>
    rw [h] at h'
    exact absurd (V.str.inj (List.cons.inj (HO.tup.inj (Option.some.inj h'))).1) (by decide +kernel)
  | i1 c o h' =>
    rw [h] at h'
    exact absurd (V.str.inj (List.cons.inj (HO.tup.inj (Option.some.inj h'))).1) (by decide +kernel)
  | w0 c d h' => rw [h] at h'; cases h'; exact ⟨rfl, rfl⟩
theorem Inn.of {H H' : Hp} {t b : Addr} {s : Nat} {vs : List V} (h : H t = some (.tup vs)) (h' : H' t = some (.tup vs)) (z : Inn H' t b s) : Inn H t b s := by
  cases z with
  | i0 c o e => exact .i0 c o (by rw [h, ← h', e])
  | i1 c o e => exact .i1 c o (by rw [h, ← h', e])
  | w0 c d e => exact .w0 c d (by rw [h, ← h', e])
theorem DeedAt.tup {K : PySem.W.Frag} {H : Hp} {lv : Lv} {S : List Addr} {k : Nat} {t : Addr} (h : DeedAt K H lv S k t) : ∃ vs, H t = some (.tup vs) := by
  cases h with
  | plain p h1 h2 => obtain ⟨w, vs, hw, _⟩ := pl_word h1 h2; exact ⟨_, hw⟩
  | cond c i o r h hc okr hi ho => exact ⟨_, h⟩
  | loop c td i fa pa r F P h hc okr htd hF hP nF nP okF okP lF lP hi => exact ⟨_, h⟩
theorem DeedAt.inn {K : PySem.W.Frag} {H : Hp} {lv : Lv} {S : List Addr} {k s : Nat} {t b : Addr} (h : DeedAt K H lv S k t) (z : Inn H t b s) : lv b = some (k + 1) := by
  cases h with
  | plain p h1 h2 => exact absurd z (inn_plain h1 h2)
  | cond c i o r h hc okr hi ho => rcases inn_if h z with ⟨rfl, _⟩ | ⟨rfl, _⟩ <;> assumption
  | loop c td i fa pa r F P h hc okr htd hF hP nF nP okF okP lF lP hi => obtain ⟨rfl, _⟩ := inn_while h z; exact hi
theorem refs_inj {H : Hp} {a : Addr} {ts us : List Addr} (h1 : H a = some (.lst (ts.map V.ref))) (h2 : H a = some (.lst (us.map V.ref))) : ts = us := by
  rw [h1] at h2
  exact List.map_inj_right (f := V.ref) (fun x y z => by injection z) |>.mp (HO.lst.inj (Option.some.inj h2))
variable {K : PySem.W.Frag} {n : Nat}
theorem Wk.mt (W : Wk K H lv S n) : MtL H lv S := by
  rintro b (⟨k, hk⟩ | hs)
  · obtain ⟨ts, h, _⟩ := W.lists _ _ hk; exact ⟨_, h⟩
  · obtain ⟨es, h, _⟩ := W.stacks _ hs; exact ⟨_, h⟩
theorem Wk.lvfree (W : Wk K H lv S n) {b : Addr} (h : H b = none) : lv b = none := by
  cases q : lv b with
  | none => rfl
  | some k => obtain ⟨ts, h1, _⟩ := W.lists _ _ q; rw [h] at h1; cases h1
theorem Wk.le (W : Wk K H lv S n) {m : Nat} (h : n ≤ m) : Wk K H lv S m :=
  ⟨W.low, fun a k z => by obtain ⟨ts, h1, h2, h3⟩ := W.lists a k z; exact ⟨ts, h1, Nat.le_trans h2 h, h3⟩, W.stacks, W.apart, by obtain ⟨d, h1, h2⟩ := W.sz; exact ⟨d, Nat.le_trans h1 h, h2⟩, W.one, by obtain ⟨nm, h1, h2⟩ := W.num; exact ⟨nm, fun a i t z => Nat.lt_of_lt_of_le (h1 a i t z) h, h2⟩⟩
theorem Wk.psn (W : Wk K H lv S n) {a : Addr} {i : Nat} {t : Addr} (z : Psn H lv a i t) : ∃ k, lv a = some k ∧ DeedAt K H lv S k t := by
  obtain ⟨k, ts, h1, h2, h3⟩ := z
  obtain ⟨ts', g1, _, g3⟩ := W.lists a k h1
  rw [refs_inj h2 g1] at h3
  exact ⟨k, h1, g3 t (List.mem_of_getElem? h3)⟩
theorem Wk.orph (W : Wk K H lv S n) {b : Addr} (hb : H b = none) : Orph H lv b := fun a i t s z y => by
  obtain ⟨k, h1, h2⟩ := W.psn z
  have := h2.inn y
  rw [W.lvfree hb] at this; cases this
structure Back (H : Hp) (lv : Lv) (H' : Hp) (lv' : Lv) : Prop where
  psn : ∀ a i t, Psn H' lv' a i t → Psn H lv a i t
  inn : ∀ a i t b s, Psn H lv a i t → Inn H' t b s → Inn H t b s
theorem Back.orph (B : Back H lv H' lv') {b : Addr} (h : Orph H lv b) : Orph H' lv' b := fun a i t s z y => h a i t s (B.psn _ _ _ z) (B.inn _ _ _ _ _ (B.psn _ _ _ z) y)
theorem Back.one (B : Back H lv H' lv') (W : Wk K H lv S n) : ∀ a i t s a' i' t' s' b, Psn H' lv' a i t → Inn H' t b s → Psn H' lv' a' i' t' → Inn H' t' b s' → a = a' ∧ i = i' ∧ s = s' :=
  fun a i t s a' i' t' s' b h1 h2 h3 h4 => W.one a i t s a' i' t' s' b (B.psn _ _ _ h1) (B.inn _ _ _ _ _ (B.psn _ _ _ h1) h2) (B.psn _ _ _ h3) (B.inn _ _ _ _ _ (B.psn _ _ _ h3) h4)
theorem Back.num (B : Back H lv H' lv') (W : Wk K H lv S n) : ∃ nm : Addr → Nat → Nat, (∀ a i t, Psn H' lv' a i t → nm a i < n) ∧ ∀ a i t a' i' t', Psn H' lv' a i t → Psn H' lv' a' i' t' → nm a i = nm a' i' → a = a' ∧ i = i' := by
  obtain ⟨nm, h1, h2⟩ := W.num
  exact ⟨nm, fun a i t z => h1 a i t (B.psn _ _ _ z), fun a i t a' i' t' z y => h2 a i t a' i' t' (B.psn _ _ _ z) (B.psn _ _ _ y)⟩
theorem Wk.innB (W : Wk K H lv S n) (u : Up S lv lv' H H') {a : Addr} {i : Nat} {t b : Addr} {s : Nat} (z : Psn H lv a i t) (y : Inn H' t b s) : Inn H t b s := by
  obtain ⟨k, _, h⟩ := W.psn z
  obtain ⟨vs, hv⟩ := h.tup
  exact y.of hv (u.tup W.mt hv)
theorem Wk.backS (W : Wk K H lv S n) (e : Same H H') : Back H lv H' lv := ⟨fun a i t z => by
  obtain ⟨k, ts, h1, h2, h3⟩ := z
  obtain ⟨ts', g1, _⟩ := W.lists a k h1
  rw [refs_inj h2 (e _ _ g1)] at h3
  exact ⟨k, ts', h1, g1, h3⟩, fun a i t b s z y => W.innB (.same e) z y⟩
theorem EntsAt.up {es : List Addr} (h : EntsAt H lv es) (m : MtL H lv S) (u : Up S lv lv' H H') : EntsAt H' lv' es := ⟨h.1, h.2.1, fun i e q => (h.2.2 i e q).up m u⟩
theorem Wk.same (W : Wk K H lv S n) (e : Same H H') : Wk K H' lv S n :=
  ⟨W.low, fun a k z => by
    obtain ⟨ts, h1, h2, h3⟩ := W.lists a k z
    exact ⟨ts, e _ _ h1, h2, fun t ht => (h3 t ht).up W.mt (.same e)⟩, fun s hs => by
    obtain ⟨es, h1, h2⟩ := W.stacks s hs
    exact ⟨es, e _ _ h1, h2.up W.mt (.same e)⟩, W.apart, by
    obtain ⟨d, h1, h2⟩ := W.sz
    refine ⟨d, h1, fun a k ts z y => ?_⟩
    obtain ⟨ts', h3, _⟩ := W.lists a k z
    rw [refs_inj y (e _ _ h3)]
    exact h2 a k ts' z h3, (W.backS e).one W, (W.backS e).num W⟩
theorem Wk.put (W : Wk K H lv S n) {a t : Addr} {k : Nat} {ts : List Addr} (ha : lv a = some k) (hl : H a = some (.lst (ts.map V.ref))) (ht : DeedAt K H lv S k t) (hO : ∀ b s, Inn H t b s → Orph H lv b ∧ ∀ s', Inn H t b s' → s = s') : Wk K (upd H a (.lst (ts.map V.ref ++ [.ref t]))) lv S (n + 1) := by
  have u : Up S lv lv H (upd H a (.lst (ts.map V.ref ++ [.ref t]))) := .put (.inl ⟨k, ha⟩) hl
  have hps : ∀ b i x, Psn (upd H a (.lst (ts.map V.ref ++ [.ref t]))) lv b i x → Psn H lv b i x ∨ (b = a ∧ i = ts.length ∧ x = t) := fun b i x z => by
    obtain ⟨j, us, h1, h2, h3⟩ := z
    by_cases c : b = a
    · subst c
      have q : (upd H b (.lst (ts.map V.ref ++ [.ref t]))) b = some (.lst ((ts ++ [t]).map V.ref)) := by rw [upd_same, List.map_append]; rfl
      rw [refs_inj h2 q] at h3
      by_cases hi : i < ts.length
      · rw [List.getElem?_append_left hi] at h3
        exact .inl ⟨k, ts, ha, hl, h3⟩
      · rw [List.getElem?_append_right (by omega)] at h3
        obtain ⟨hlt, hx⟩ := List.getElem?_eq_some_iff.mp h3
        have h0 : i = ts.length := by simp only [List.length_cons, List.length_nil] at hlt; omega
        subst h0
        rw [Nat.sub_self] at h3
        exact .inr ⟨rfl, rfl, (Option.some.inj h3).symm⟩
    · rw [upd_ne c] at h2
      exact .inl ⟨j, us, h1, h2, h3⟩
  obtain ⟨vt, hvt⟩ := ht.tup
  have hit : ∀ x s, Inn (upd H a (.lst (ts.map V.ref ++ [.ref t]))) t x s → Inn H t x s := fun x s z => z.of hvt (u.tup W.mt hvt)
  refine ⟨W.low, fun b j z => ?_, fun s hs => ?_, W.apart, ?_, ?_, ?_⟩
  · obtain ⟨ts', h1, h2, h3⟩ := W.lists b j z
    by_cases y : b = a
    · subst y
      rw [ha] at z; cases z
      rw [hl] at h1
      have : ts = ts' := by
        have h4 := List.map_inj_right (f := V.ref) (fun x y z => by injection z) |>.mp (HO.lst.inj (Option.some.inj h1))
        exact h4
      subst this
      refine ⟨ts ++ [t], by rw [upd_same, List.map_append]; rfl, by rw [List.length_append]; exact Nat.add_le_add_right h2 1, fun x hx => ?_⟩
      rcases List.mem_append.mp hx with q | q
      · exact (h3 x q).up W.mt u
      · rw [List.mem_singleton.mp q]; exact ht.up W.mt u
    · exact ⟨ts', by rw [upd_ne y]; exact h1, by omega, fun x hx => (h3 x hx).up W.mt u⟩
  · obtain ⟨es, h1, h2⟩ := W.stacks s hs
    exact ⟨es, by rw [upd_ne (fun y => by rw [← y, W.apart s hs] at ha; cases ha)]; exact h1, h2.up W.mt u⟩
  · obtain ⟨d, h1, h2⟩ := W.sz
    refine ⟨fun j => if j = k then d j + 1 else d j, ?_, fun b j us z y => ?_⟩
    · have hk := W.low a k ha
      have : k = 0 ∨ k = 1 ∨ k = 2 ∨ k = 3 ∨ k = 4 := by omega
      rcases this with rfl | rfl | rfl | rfl | rfl <;> simp <;> omega
    · by_cases c : b = a
      · subst c
        rw [ha] at z; cases z
        show us.length ≤ if k = k then d k + 1 else d k
        rw [if_pos rfl]
        have q : (upd H b (.lst (ts.map V.ref ++ [.ref t]))) b = some (.lst ((ts ++ [t]).map V.ref)) := by rw [upd_same, List.map_append]; rfl
        rw [refs_inj y q, List.length_append]
        exact Nat.add_le_add_right (h2 b k ts ha hl) 1
      · rw [upd_ne c] at y
        have := h2 b j us z y
        show us.length ≤ if j = k then d j + 1 else d j
        split <;> omega
  · intro b i x s b' i' x' s' y h1 h2 h3 h4
    rcases hps _ _ _ h1 with g1 | ⟨rfl, rfl, rfl⟩
    · have e2 := W.innB u g1 h2
      rcases hps _ _ _ h3 with g3 | ⟨rfl, rfl, rfl⟩
      · exact W.one _ _ _ _ _ _ _ _ _ g1 e2 g3 (W.innB u g3 h4)
      · exact absurd e2 ((hO _ _ (hit _ _ h4)).1 _ _ _ _ g1)
    · have e2 := hit _ _ h2
      rcases hps _ _ _ h3 with g3 | ⟨rfl, rfl, rfl⟩
      · exact absurd (W.innB u g3 h4) ((hO _ _ e2).1 _ _ _ _ g3)
      · exact ⟨rfl, rfl, (hO _ _ e2).2 _ (hit _ _ h4)⟩
  · obtain ⟨nm, h1, h2⟩ := W.num
    have no : ∀ x, ¬ Psn H lv a ts.length x := fun x z => by
      obtain ⟨_, us, _, g2, g3⟩ := z
      rw [refs_inj g2 hl, List.getElem?_eq_none (Nat.le_refl _)] at g3; cases g3
    have val : ∀ b i x, Psn H lv b i x → ¬ (b = a ∧ i = ts.length) := fun b i x z y => no x (by rw [← y.1, ← y.2]; exact z)
    refine ⟨fun b i => if b = a ∧ i = ts.length then n else nm b i, fun b i x z => ?_, fun b i x b' i' x' z y e => ?_⟩
    · show (if b = a ∧ i = ts.length then n else nm b i) < n + 1
      split
      · exact Nat.lt_succ_self _
      · rename_i c
        rcases hps _ _ _ z with g | ⟨g1, g2, _⟩
        · exact Nat.lt_succ_of_lt (h1 _ _ _ g)
        · exact absurd ⟨g1, g2⟩ c
    · have e' : (if b = a ∧ i = ts.length then n else nm b i) = (if b' = a ∧ i' = ts.length then n else nm b' i') := e
      rcases hps _ _ _ z with g | ⟨rfl, rfl, _⟩
      · rw [if_neg (val _ _ _ g)] at e'
        rcases hps _ _ _ y with g' | ⟨rfl, rfl, _⟩
        · rw [if_neg (val _ _ _ g')] at e'
          exact h2 _ _ _ _ _ _ g g' e'
        · rw [if_pos ⟨rfl, rfl⟩] at e'
          have := h1 _ _ _ g
          omega
      · rw [if_pos ⟨rfl, rfl⟩] at e'
        rcases hps _ _ _ y with g' | ⟨rfl, rfl, _⟩
        · rw [if_neg (val _ _ _ g')] at e'
          have := h1 _ _ _ g'
          omega
        · exact ⟨rfl, rfl⟩
theorem Wk.backK (W : Wk K H lv S n) {s : Addr} {es : List Addr} {o : HO} (hs : s ∈ S) (hl : H s = some o) : Back H lv (upd H s (.lst (es.map V.ref))) lv := by
  refine ⟨fun a i t z => ?_, fun a i t b s z y => W.innB (.put (.inr hs) hl) z y⟩
  obtain ⟨k, ts, h1, h2, h3⟩ := z
  exact ⟨k, ts, h1, by rw [upd_ne (fun c => by rw [c, W.apart s hs] at h1; cases h1)] at h2; exact h2, h3⟩
theorem Wk.stk (W : Wk K H lv S n) {s : Addr} {es : List Addr} {o : HO} (hs : s ∈ S) (hl : H s = some o) (he : EntsAt H lv es) : Wk K (upd H s (.lst (es.map V.ref))) lv S n := by
  have u : Up S lv lv H (upd H s (.lst (es.map V.ref))) := .put (.inr hs) hl
  refine ⟨W.low, fun b j z => ?_, fun s' hs' => ?_, W.apart, ?_, (W.backK hs hl).one W, (W.backK hs hl).num W⟩
  · obtain ⟨ts', h1, h2, h3⟩ := W.lists b j z
    exact ⟨ts', by rw [upd_ne (fun y => by rw [y, W.apart s hs] at z; cases z)]; exact h1, h2, fun x hx => (h3 x hx).up W.mt u⟩
  · by_cases y : s' = s
    · subst y; exact ⟨es, upd_same, he.up W.mt u⟩
    · obtain ⟨es', h1, h2⟩ := W.stacks s' hs'
      exact ⟨es', by rw [upd_ne y]; exact h1, h2.up W.mt u⟩
  · obtain ⟨d, h1, h2⟩ := W.sz
    exact ⟨d, h1, fun b j us z y => h2 b j us z (by rw [upd_ne (fun c => by rw [c, W.apart s hs] at z; cases z)] at y; exact y)⟩
theorem lvAdd_same {b : Addr} {k : Nat} : lvAdd lv b k b = some k := by unfold lvAdd; rw [if_pos rfl]
theorem Wk.backA (W : Wk K H lv S n) {b : Addr} {k : Nat} (hb : H b = none) : Back H lv (upd H b (.lst [])) (lvAdd lv b k) := by
  refine ⟨fun a i t z => ?_, fun a i t b' s z y => W.innB (.add hb (W.lvfree hb) : Up S lv (lvAdd lv b k) H (upd H b (.lst []))) z y⟩
  obtain ⟨j, ts, h1, h2, h3⟩ := z
  by_cases c : a = b
  · subst c
    rw [upd_same] at h2
    cases ts with
    | nil => cases h3
    | cons x l => cases h2
  · rw [upd_ne c] at h2
    unfold lvAdd at h1; rw [if_neg c] at h1
    exact ⟨j, ts, h1, h2, h3⟩
theorem Wk.add (W : Wk K H lv S n) {b : Addr} {k : Nat} (hb : H b = none) (hk : k ≤ 4) : Wk K (upd H b (.lst [])) (lvAdd lv b k) S n := by
  have u : Up S lv (lvAdd lv b k) H (upd H b (.lst [])) := .add hb (W.lvfree hb)
  refine ⟨fun a j z => ?_, fun a j z => ?_, fun s hs => ?_, fun s hs => ?_, ?_, (W.backA hb).one W, (W.backA hb).num W⟩
  · rcases u.new _ _ z with y | y
    · exact W.low _ _ y
    · by_cases q : a = b
      · rw [q, lvAdd_same] at z; cases z; exact hk
      · unfold lvAdd at z; rw [if_neg q] at z; exact W.low _ _ z
  · by_cases q : a = b
    · subst q; exact ⟨[], upd_same, Nat.zero_le _, fun t ht => by cases ht⟩
    · unfold lvAdd at z; rw [if_neg q] at z
      obtain ⟨ts', h1, h2, h3⟩ := W.lists a j z
      exact ⟨ts', by rw [upd_ne q]; exact h1, h2, fun x hx => (h3 x hx).up W.mt u⟩
  · obtain ⟨es, h1, h2⟩ := W.stacks s hs
    exact ⟨es, by rw [upd_ne (fun y => by rw [y, hb] at h1; cases h1)]; exact h1, h2.up W.mt u⟩
  · obtain ⟨es, h1, h2⟩ := W.stacks s hs
    unfold lvAdd
    rw [if_neg (fun y => by rw [y, hb] at h1; cases h1)]; exact W.apart s hs
  · obtain ⟨d, h1, h2⟩ := W.sz
    refine ⟨d, h1, fun a j us z y => ?_⟩
    by_cases q : a = b
    · subst q
      rw [upd_same] at y
      have : us = [] := by cases us with
        | nil => rfl
        | cons x l => cases y
      rw [this]; exact Nat.zero_le _
    · unfold lvAdd at z; rw [if_neg q] at z
      rw [upd_ne q] at y
      exact h2 a j us z y
noncomputable def HeadsM (M : Addr → Prop) (H : Hp) (l : Addr) (hs : List Hd) : Prop := ¬ M l ∧ ∃ ts : List Addr, H l = some (.lst (ts.map V.ref)) ∧ Paired (HeadX (fun b => b = l ∨ M b) H) ts hs
theorem HeadsM.at {M : Addr → Prop} {l : Addr} {hs : List Hd} (h : HeadsM M H l hs) : HeadsAt H l hs := by
  obtain ⟨_, ts, h1, h2⟩ := h
  exact ⟨ts, h1, Paired.mapP h2 fun _ _ z => z.less fun _ y => .inl y⟩
theorem HeadX.up {t l : Addr} {h : Hd} (x : HeadX (fun b => b = l ∨ Mt lv S b) H t h) (m : MtL H lv S) (u : Up S lv lv' H H') : HeadX (fun b => b = l ∨ Mt lv' S b) H' t h := by
  obtain ⟨ow, h1, h2, h3⟩ := x
  have n2 : ¬ Mt lv S ow := fun z => h3 (.inr z)
  exact ⟨ow, u.tup m h1, u.keep _ _ h2 n2, fun z => z.elim (fun y => h3 (.inl y)) (u.not h2 n2)⟩
theorem HeadX.upM {t : Addr} {h : Hd} (x : HeadX (Mt lv S) H t h) (m : MtL H lv S) (u : Up S lv lv' H H') : HeadX (Mt lv' S) H' t h := by
  obtain ⟨ow, h1, h2, h3⟩ := x
  exact ⟨ow, u.tup m h1, u.keep _ _ h2 h3, u.not h2 h3⟩
theorem HeadsM.up {l : Addr} {hs : List Hd} (h : HeadsM (Mt lv S) H l hs) (m : MtL H lv S) (u : Up S lv lv' H H') : HeadsM (Mt lv' S) H' l hs := by
  obtain ⟨h0, ts, h1, h2⟩ := h
  exact ⟨u.not h1 h0, ts, u.keep _ _ h1 h0, Paired.mapP h2 fun _ _ z => z.up m u⟩
end
theorem ok_some {xs : List Str} (hx : ∀ x ∈ xs, isName x = true) : ∀ y ∈ xs ++ [("nil" : Str)], Ok y := fun y hy => by
  rcases List.mem_append.mp hy with z | z
  · exact ok_name (hx y z)
  · rw [List.mem_singleton.mp z]; exact ok_words "nil" (by simp)
theorem ok_fact {ys r : List Str} (hy : ∀ y ∈ ys, Ok y) (h : FactY ys r) : ∀ y ∈ r, Ok y := by
  obtain ⟨k, u, v, rfl, hk, hu, hv⟩ := h
  intro y h
  simp only [List.mem_cons, List.not_mem_nil, or_false] at h
  rcases h with rfl | rfl | rfl
  · rcases hk with rfl | rfl <;> exact ok_words _ (by simp)
  · exact hy _ hu
  · exact hy _ hv
theorem ok_any : Ok "any" := show (PyData.str "any").canLay0 = true by decide +kernel
theorem ok_part {ys r : List Str} (hy : ∀ y ∈ ys, Ok y) (h : PartY ys r) : ∀ y ∈ r, Ok y := by
  have ha : ∀ f : Str, (f ∈ ys ∨ f = "any") → Ok f := fun f hf => hf.elim (hy f) fun z => by rw [z]; exact ok_any
  rcases h with ⟨a, f, s, rfl, h1, h2, h3⟩ | ⟨a, b, rfl, h1, h2⟩ | ⟨a, rfl, h1⟩
  · intro y h
    simp only [List.mem_cons, List.not_mem_nil, or_false] at h
    rcases h with rfl | rfl | rfl | rfl
    · exact show (PyData.str "cell").canLay0 = true by decide +kernel
    · exact hy _ h1
    · exact ha _ h2
    · exact ha _ h3
  · intro y h
    simp only [List.mem_cons, List.not_mem_nil, or_false] at h
    rcases h with rfl | rfl | rfl
    · exact show (PyData.str "stretch").canLay0 = true by decide +kernel
    · exact hy _ h1
    · exact hy _ h2
  · intro y h
    simp only [List.mem_cons, List.not_mem_nil, or_false] at h
    rcases h with rfl | rfl
    · exact show (PyData.str "tree").canLay0 = true by decide +kernel
    · exact hy _ h1
end K43
namespace K43
open PySem PySem.Spec L2 Mir
noncomputable abbrev sPut : Stmt := top 18
inductive spPut (K : PySem.W.Frag) (vs : List V) (H : Hp) (Q : VK) (E : XK) : Prop
  | mk (s : Addr) (cell m : Int) (t hl : Addr) (lv : Lv) (S : List Addr) (n : Nat) (h : Hd) (hs : List Hd) (xs : List Str) (h0 : vs = [.ref s, .int cell, .int m, .ref t, .ref hl]) (W : Wk K H lv S n) (hsS : s ∈ S) (hn : n ≤ 100) (h1 : HeadX (Mt lv S) H t h) (h2 : HdOk xs h) (h3 : HeadsM (Mt lv S) H hl hs) (h4 : 0 < hs.length) (h4' : hs.length ≤ 4) (h5 : ∀ h ∈ hs, HdOk xs h) (h6 : ∀ x ∈ xs, isName x = true)
      (q : ∀ lv' H', Up S lv lv' H H' → Wk K H' lv' S (n + 1) → Q .non H') : spPut K vs H Q E
section
variable {A B C : Prop} [Decidable A] [Decidable B] [Decidable C] {t u v : TT} {σ : St} {H : Hp} {Q : Bool → Hp → Prop}
theorem and_two (ht : ∀ Q' : Bool → Hp → Prop, Q' (decide A) H → t σ H Q') (hu : ∀ Q' : Bool → Hp → Prop, Q' (decide B) H → u σ H Q') (hT : A → B → Q true H) (hF : ¬ (A ∧ B) → Q false H) : tAnd t u σ H Q := by
  refine ht _ ?_
  by_cases a : A
  · rw [decide_eq_true a]
    refine hu _ ?_
    by_cases b : B
    · rw [decide_eq_true b]; exact hT a b
    · rw [decide_eq_false b]; exact hF fun z => b z.2
  · rw [decide_eq_false a]; exact hF fun z => a z.1
theorem and_three (ht : ∀ Q' : Bool → Hp → Prop, Q' (decide A) H → t σ H Q') (hu : ∀ Q' : Bool → Hp → Prop, Q' (decide B) H → u σ H Q') (hv : ∀ Q' : Bool → Hp → Prop, Q' (decide C) H → v σ H Q') (hT : A → B → C → Q true H) (hF : ¬ (A ∧ B ∧ C) → Q false H) : tAnd t (tAnd u v) σ H Q := by
  refine ht _ ?_
  by_cases a : A
  · rw [decide_eq_true a]
    exact and_two hu hv (hT a) fun z => hF fun y => z y.2
  · rw [decide_eq_false a]; exact hF fun z => a z.1
end
theorem orph_if {H : Hp} {lv : Lv} {t b b2 : Addr} {c : V} (h : H t = some (.tup [.str "if", c, .ref b, .ref b2])) (nb : b ≠ b2) (h1 : Orph H lv b) (h2 : Orph H lv b2) : ∀ x s, Inn H t x s → Orph H lv x ∧ ∀ s', Inn H t x s' → s = s' := fun x s z => by
  rcases inn_if h z with ⟨rfl, rfl⟩ | ⟨rfl, rfl⟩
  · exact ⟨h1, fun s' y => by rcases inn_if h y with ⟨_, rfl⟩ | ⟨e, _⟩; exact rfl; exact absurd e nb⟩
  · exact ⟨h2, fun s' y => by rcases inn_if h y with ⟨e, _⟩ | ⟨_, rfl⟩; exact absurd e.symm nb; exact rfl⟩
theorem orph_while {H : Hp} {lv : Lv} {t b : Addr} {c d : V} (h : H t = some (.tup [.str "while", c, d, .ref b])) (h1 : Orph H lv b) : ∀ x s, Inn H t x s → Orph H lv x ∧ ∀ s', Inn H t x s' → s = s' := fun x s z => by
  obtain ⟨rfl, rfl⟩ := inn_while h z
  exact ⟨h1, fun s' y => (inn_while h y).2.symm⟩
theorem ents_snoc {H : Hp} {lv : Lv} {es : List Addr} {e : Addr} (h : ∀ i e, es[i]? = some e → EntAt H lv i e) (he : EntAt H lv es.length e) (h5 : es.length < 5) : EntsAt H lv (es ++ [e]) := by
  refine ⟨by rw [List.length_append]; exact Nat.succ_pos _, by rw [List.length_append]; exact h5, fun i x hx => ?_⟩
  by_cases c : i < es.length
  · rw [List.getElem?_append_left c] at hx; exact h i x hx
  · rw [List.getElem?_append_right (by omega)] at hx
    have : i - es.length = 0 := by
      cases q : i - es.length with
      | zero => rfl
      | succ j => rw [q] at hx; cases hx
    rw [this] at hx
    cases hx
    rw [show i = es.length by omega]; exact he
section
variable {P : Program} {w : World} {K : PySem.W.Frag} {mg : Str → Option Value} {base : Heap} {f gC gT gP : Addr} {fd dC dT dP : FuncData}
theorem scPut : FnScope ["_law_open_lists", "_law_cell", "_law_mixed", "_law_head", "_law_heads_here", "_law_deeds", "_law_others", "_law_way", "_law_inner", "_law_more", "_law_told_here"] ["_law_open_lists", "_law_cell", "_law_mixed", "_law_head", "_law_heads_here"] (defScope sPut) := ⟨rfl, rfl, rfl, by decide +kernel, rfl, by decide +kernel, by decide +kernel⟩
theorem ok_put (C : Con K mg w) (F : Fun K "_law_put" "_law_put" sPut f fd) (GC : FnOk P w K mg base CX0 1 gC dC ["_law_mixed", "_law_own"] (spCond K)) (cC : Cal K mg "_law_condition" gC dC ["_law_mixed", "_law_own"]) (GT : FnOk P w K mg base CX0 1 gT dT ["_law_cell", "_law_names_here"] (spTold K)) (cT : Cal K mg "_law_told" gT dT ["_law_cell", "_law_names_here"])
    (GP : FnOk P w K mg base CX0 1 gP dP ["_law_way", "_law_mixed", "_law_head", "_law_heads_here"] spPlain) (cP : Cal K mg "_law_plain" gP dP ["_law_way", "_law_mixed", "_law_head", "_law_heads_here"]) : FnOk P w K mg base CX0 2 f fd ["_law_open_lists", "_law_cell", "_law_mixed", "_law_head", "_law_heads_here"] (spPut K) := by
  refine F.okQ scPut (fun vs H Q E h => ?_) (fun cdv A outer s0 H vs Q E hr h => ?_)
  · obtain ⟨s, cell, m, t, hl, lv, S, n, h, hs, xs, rfl, _⟩ := h; rfl
  obtain ⟨s, cell, m, t, hl, lv, S, n, h0, hs, xs, rfl, W, hsS, hn, hX, hok, hH, hs0, hs4, hsok, hxn, q⟩ := h
  have nd := scPut.nd
  refine ⟨_, qb_cons (qs_asg (qe_ix ix_list (qv 0) (qe_un un_neg qe_int) (fun _ _ => rfl)) (qg_tup2 (qg_name (i := 5) nd rfl (Or.inl rfl)) (qg_name (i := 6) nd rfl (Or.inl rfl))))
    (qb_cons (qs_set (i := 7) nd rfl (Or.inl rfl) (qe_op op_mod (qe_op op_fdiv (qv 1) qe_int) qe_int))
    (qb_one (qs_if (QW.qt (qw_and (qt_cmpR op_eq (qv 7) qe_int (nomark _)) (qw_and1 (qt_cmpR op_gt (qe_callB call_len_seq rfl C.len PySem.boot_len (qa_nm (qv 0) qa_nil)) qe_int (nomark _))))) (qb_cons (qs_expr (qe_bm0 PySem.F.plainAttrs_list PySem.F.slot_list_pop PySem.F.type_list_pop mt_pop (qv 0)))
    (qb_one (qs_if (QW.qt (qw_and (qt_cmpR op_notN (qv 6) qe_non (nomark _)) (qw_and1 (qt_cmpR op_eq (qe_op op_mod (qv 2) qe_int) qe_int (nomark _))))) (qb_one (qs_expr (qe_bmK (K := K) rfl PySem.F.plainAttrs_list PySem.F.slot_list_append PySem.F.type_list_append mt_append (qv 0) (qa_tp (qa_nm (qv 6) (qa_cons qe_non qa_nil)) qa_nil)))) qb_nil))) (qb_one (qs_if (QW.qt (qw_and (qt_cmpR op_gt (qv 7) qe_int (nomark _)) (qw_and (qt_cmpR op_lt (qv 7) qe_int (nomark _)) (qw_and1 (qt_cmpR op_lt (qe_callB call_len_seq rfl C.len PySem.boot_len (qa_nm (qv 0) qa_nil)) qe_int (nomark _)))))) (qb_cons (qs_set (i := 8) nd rfl (Or.inl rfl) (qe_lst qa_nil))
    (qb_one (qs_if (qt_cmpR op_eq (qv 7) qe_int (nomark _)) (qb_cons (qs_set (i := 9) nd rfl (Or.inl rfl) (qe_lst qa_nil))
    (qb_cons (qs_expr (qe_bmK (K := K) rfl PySem.F.plainAttrs_list PySem.F.slot_list_append PySem.F.type_list_append mt_append (qv 5) (qa_tp (qa_str (qa_call (qe_call GC hr rfl cC.name cC.keep cC.bind .nil pass0 (qa_nm (qv 2) (qa_sub (qe_ix ix_tup (qv 3) qe_int (fun _ _ => rfl)) qa_nil))) (qa_nm (qv 8) (qa_nm (qv 9) qa_nil)))) qa_nil)))
    (qb_one (qs_expr (qe_bmK (K := K) rfl PySem.F.plainAttrs_list PySem.F.slot_list_append PySem.F.type_list_append mt_append (qv 0) (qa_tp (qa_nm (qv 8) (qa_nm (qv 9) qa_nil)) qa_nil)))))) (qb_cons (qs_set (i := 10) nd rfl (Or.inl rfl) (qe_call GT hr rfl cT.name cT.keep cT.bind .nil pass0 (qa_bop (qe_op op_fdiv (qv 2) qe_int) (qa_sub (qe_ix ix_tup (qv 3) qe_int (fun _ _ => rfl)) qa_nil))))
    (qb_cons (qs_expr (qe_bmK (K := K) rfl PySem.F.plainAttrs_list PySem.F.slot_list_append PySem.F.type_list_append mt_append (qv 5) (qa_tp (qa_str (qa_call (qe_call GC hr rfl cC.name cC.keep cC.bind .nil pass0 (qa_nm (qv 2) (qa_sub (qe_ix ix_tup (qv 3) qe_int (fun _ _ => rfl)) qa_nil))) (qa_nm (qv 10) (qa_nm (qv 8) qa_nil)))) qa_nil)))
    (qb_one (qs_expr (qe_bmK (K := K) rfl PySem.F.plainAttrs_list PySem.F.slot_list_append PySem.F.type_list_append mt_append (qv 0) (qa_tp (qa_nm (qv 8) (qa_cons qe_non qa_nil)) qa_nil))))))))) (qb_one (qs_expr (qe_bmK (K := K) rfl PySem.F.plainAttrs_list PySem.F.slot_list_append PySem.F.type_list_append mt_append (qv 5) (qa_call (qe_call GP hr rfl cP.name cP.keep cP.bind .nil pass0 (qa_bop (qe_op op_mod (qv 7) qe_int) (qa_nm (qv 2) (qa_nm (qv 3) (qa_nm (qv 4) qa_nil))))) qa_nil))))))))), ?_⟩
  obtain ⟨es, hes, he0, he5, hEn⟩ := W.stacks s hsS
  obtain ⟨es0, e, rfl⟩ : ∃ es0 e, es = es0 ++ [e] := by
    rcases List.eq_nil_or_concat es with z | ⟨l, b, z⟩
    · rw [z] at he0; cases he0
    · exact ⟨l, b, by rw [z, List.concat_eq_append]⟩
  rw [List.map_append] at hes
  have hl5 : es0.length < 5 := by rw [List.length_append] at he5; exact he5
  have hE0 : ∀ i x, es0[i]? = some x → EntAt H lv i x := fun i x hx => hEn i x (by rw [List.getElem?_append_left (List.getElem?_eq_some_iff.mp hx).1]; exact hx)
  obtain ⟨d, o, he, hd, ho⟩ : ∃ d o, H e = some (.tup [.ref d, o]) ∧ lv d = some es0.length ∧ (o = .non ∨ ∃ b, o = .ref b ∧ lv b = some es0.length) := by
    have := hEn es0.length e (by rw [List.getElem?_append_right (Nat.le_refl _), Nat.sub_self]; rfl)
    cases this with
    | one d h hd => exact ⟨d, _, h, hd, .inl rfl⟩
    | two d o h hd ho => exact ⟨d, _, h, hd, .inr ⟨o, rfl, ho⟩⟩
  obtain ⟨ts, hdl, htn, htd⟩ := W.lists d _ hd
  have mL := W.mt
  have hlen : ((es0.map V.ref ++ [e].map V.ref).length : Int) = (es0.length : Int) + 1 := by rw [List.length_append, List.length_map]; rfl
  refine ⟨_, rfl, _, rfl, s, _, _, _, rfl, rfl, SqL.of hes, atI_last, e, _, rfl, SqT.of he, rfl, _, _, rfl, _, _, rfl, rfl, ?_⟩
  refine ⟨_, rfl, _, _, rfl, rfl, (show CDiv _ 4 from ⟨by decide, by decide⟩), _, _, rfl, rfl, (show (0 : Int) < 10 by decide), ?_⟩
  dsimp only [gName]
  generalize cell / 4 % 10 = way
  refine and_two (A := V.int way = V.int 9) (B := (1 : Int) < ((es0.map V.ref ++ [e].map V.ref).length : Int)) (fun Q' q' => ⟨_, rfl, rfl, _, rfl, q'⟩) (fun Q' q' => ⟨_, rfl, s, _, rfl, .inl (SqL.of hes), _, _, rfl, rfl, _, rfl, q'⟩) (fun _ c2 => (if_pos rfl).mpr ?_) (fun _ => (if_neg Bool.false_ne_true).mpr ?_)
  · have l0 : 0 < es0.length := by omega
    have EN : EntsAt H lv es0 := ⟨l0, Nat.le_of_lt hl5, hE0⟩
    have W1 := (W.stk (es := es0) hsS hes EN).le (Nat.le_succ n)
    have u1 : Up S lv lv H (upd H s (.lst (es0.map V.ref))) := .put (.inr hsS) hes
    refine ⟨_, rfl, (.inl ⟨rfl, _, SqL.of hes⟩), s, _, _, rfl, rfl, hes, (by rw [List.length_append, List.getElem?_append_right (by simp)]; simp; rfl), ?_⟩
    rw [show (es0.map V.ref ++ [e].map V.ref).dropLast = es0.map V.ref from List.dropLast_concat]
    have hs1 : (upd H s (.lst (es0.map V.ref))) s = some (.lst (es0.map V.ref)) := upd_same
    have EN1 := EN.up mL u1
    generalize upd H s (.lst (es0.map V.ref)) = H1 at W1 u1 hs1 EN1 ⊢
    dsimp only
    refine and_two (A := ¬ o = V.non) (B := V.int (m % 2) = V.int 1) (fun Q' q' => ⟨_, rfl, rfl, _, rfl, by rw [← decide_not]; exact q'⟩) (fun Q' q' => ⟨_, rfl, _, _, rfl, rfl, (show (0 : Int) < 2 by decide), rfl, _, rfl, q'⟩) (fun c3 _ => (if_pos rfl).mpr ?_) (fun _ => (if_neg Bool.false_ne_true).mpr ?_)
    · rcases ho with z | ⟨b, rfl, hb⟩
      · exact absurd z c3
      refine ⟨_, rfl, (.inl ⟨rfl, _, SqL.of hs1⟩), _, rfl, (show 2 ≤ sizeLine by decide), fun te hte => ?_⟩
      have s2 := same_new hte (.tup [.ref b, .non])
      have k2 : (upd H1 te (.tup [.ref b, .non])) te = some (.tup [.ref b, .non]) := upd_same
      generalize upd H1 te (.tup [.ref b, .non]) = H2 at s2 k2 ⊢
      have W2 := W1.same s2
      have u2 := u1.trans (.same s2)
      have hs2 := s2 _ _ hs1
      refine ⟨s, _, _, rfl, rfl, hs2, lt_line (by rw [List.length_map]; omega), ?_⟩
      have EN2 := EN1.up W1.mt (.same s2 (S := S))
      have W3 := W2.stk (es := es0 ++ [te]) hsS hs2 (ents_snoc EN2.2.2 (.one b k2 hb) hl5)
      rw [List.map_append] at W3
      exact q lv _ (u2.trans (.put (.inr hsS) hs2)) W3
    · exact q lv _ u1 W1
  refine and_three (A := (5 : Int) < way) (B := way < 8) (C := ((es0.map V.ref ++ [e].map V.ref).length : Int) < 5) (fun Q' q' => ⟨_, rfl, _, _, rfl, rfl, _, rfl, q'⟩) (fun Q' q' => ⟨_, rfl, _, _, rfl, rfl, _, rfl, q'⟩) (fun Q' q' => ⟨_, rfl, s, _, rfl, .inl (SqL.of hes), _, _, rfl, rfl, _, rfl, q'⟩) (fun _ _ c3 => (if_pos rfl).mpr ?_) (fun _ => (if_neg Bool.false_ne_true).mpr ?_)
  · have hk : es0.length + 1 ≤ 4 := by omega
    have hsd : s ≠ d := fun z => by rw [← z, W.apart s hsS] at hd; cases hd
    have hlt : (es0.map V.ref ++ [e].map V.ref).length < sizeLine := lt_line (by rw [List.length_append, List.length_map]; show _ + 1 ≤ 1000; omega)
    have push : ∀ {lv' : Lv} {H' : Hp} {b te : Addr} {oo : V}, Wk K H' lv' S (n + 1) → Up S lv lv' H H' → lv' b = some (es0.length + 1) → (oo = .non ∨ ∃ b2, oo = .ref b2 ∧ lv' b2 = some (es0.length + 1)) → H' s = some (.lst (es0.map V.ref ++ [e].map V.ref)) → H' te = none → Q .non (upd (upd H' te (.tup [.ref b, oo])) s (.lst ((es0.map V.ref ++ [e].map V.ref) ++ [.ref te]))) := fun {lv' H' b te oo} W' u' hb' ho' hs' hte => by
      have s2 := same_new hte (.tup [.ref b, oo])
      have k2 : (upd H' te (.tup [.ref b, oo])) te = some (.tup [.ref b, oo]) := upd_same
      generalize upd H' te (.tup [.ref b, oo]) = H2 at s2 k2 ⊢
      have W2 := W'.same s2
      have u2 := u'.trans (.same s2)
      have hs2 := s2 _ _ hs'
      have EN2 := EntsAt.up ⟨he0, he5, hEn⟩ mL u2
      have en : EntAt H2 lv' (es0 ++ [e]).length te := by
        rw [List.length_append]
        rcases ho' with rfl | ⟨b2, rfl, h2⟩
        · exact .one b k2 hb'
        · exact .two b b2 k2 hb' h2
      have W3 := W2.stk (es := (es0 ++ [e]) ++ [te]) hsS hs2 (ents_snoc EN2.2.2 en (by rw [List.length_append]; show es0.length + 1 < 5; omega))
      rw [List.map_append, List.map_append] at W3
      exact q lv' _ (u2.trans (.put (.inr hsS) hs2)) W3
    refine ⟨Nat.zero_le _, fun b hb => ?_⟩
    have W1 := W.add hb hk
    have u1 : Up S lv (lvAdd lv b (es0.length + 1)) H (upd H b (.lst [])) := .add hb (W.lvfree hb)
    have i1 : lvAdd lv b (es0.length + 1) b = some (es0.length + 1) := lvAdd_same
    have hs1 := same_new hb (.lst []) _ _ hes
    have o1 := (W.backA (k := es0.length + 1) hb).orph (W.orph hb)
    have b1 : (upd H b (.lst [])) b = some (.lst []) := upd_same
    generalize lvAdd lv b (es0.length + 1) = lv1, upd H b (.lst []) = H1 at W1 u1 i1 hs1 o1 b1 ⊢
    refine ⟨_, rfl, rfl, _, rfl, iteB (fun _ => ?_) (fun _ => ?_)⟩
    · refine ⟨Nat.zero_le _, fun b2 hb2 => ?_⟩
      have W2 := W1.add hb2 hk
      have u2' : Up S lv1 (lvAdd lv1 b2 (es0.length + 1)) H1 (upd H1 b2 (.lst [])) := .add hb2 (W1.lvfree hb2)
      have i2 : lvAdd lv1 b2 (es0.length + 1) b2 = some (es0.length + 1) := lvAdd_same
      have hs2 := same_new hb2 (.lst []) _ _ hs1
      have B2 := W1.backA (k := es0.length + 1) hb2
      have o2 := B2.orph (W1.orph hb2)
      have o1' := B2.orph o1
      have nb := ne_of_none b1 hb2
      clear B2
      generalize lvAdd lv1 b2 (es0.length + 1) = lv2, upd H1 b2 (.lst []) = H2 at W2 u2' i2 hs2 o2 o1' ⊢
      have i1' := u2'.inc _ _ i1
      have u2 := u1.trans u2'
      obtain ⟨ow, ho1, ho2, ho3⟩ := hX.upM mL u2
      obtain ⟨ts2, hd2, hn2, _⟩ := W2.lists _ _ (u2.inc _ _ hd)
      refine ⟨_, rfl, (.inl ⟨rfl, _, SqL.of hd2⟩), _, rfl, _, rfl, t, _, 1, _, rfl, rfl, SqT.of ho1, rfl, m, ow, h0.own, rfl, ho2, Nat.le_trans hok.few (by decide), fun c r H3 e3 hc hr => ?_⟩
      refine ⟨_, rfl, _, rfl, (show 4 ≤ sizeLine by decide), fun dt hdt => ?_⟩
      have s4 := same_new hdt (.tup [.str "if", .ref c, .ref b, .ref b2])
      have k4 : (upd H3 dt (.tup [.str "if", .ref c, .ref b, .ref b2])) dt = some (.tup [.str "if", .ref c, .ref b, .ref b2]) := upd_same
      generalize upd H3 dt (.tup [.str "if", .ref c, .ref b, .ref b2]) = H4 at s4 k4 ⊢
      have e4 := e3.trans s4
      have hd4 := e4 _ _ hd2
      refine ⟨d, _, _, rfl, rfl, hd4, lt_line (by rw [List.length_map]; omega), ?_⟩
      have okc : ∀ y ∈ r, Ok y := ok_fact (ok_some fun x hx => hxn x (hok.own x hx)) hr
      have W4 := (W2.same e4).put (u2.inc _ _ hd) hd4 (.cond c b b2 r k4 (s4 _ _ hc) okc i1' i2) (orph_if k4 nb ((W2.backS e4).orph o1') ((W2.backS e4).orph o2))
      have u4 := (u2.trans (.same e4)).trans (.put (o' := .lst (ts2.map V.ref ++ [.ref dt])) (.inl ⟨_, u2.inc _ _ hd⟩) hd4)
      have hs5 : (upd H4 d (.lst (ts2.map V.ref ++ [.ref dt]))) s = some (.lst (es0.map V.ref ++ [e].map V.ref)) := by rw [upd_ne hsd]; exact e4 _ _ hs2
      generalize upd H4 d (.lst (ts2.map V.ref ++ [.ref dt])) = H5 at W4 u4 hs5 ⊢
      exact ⟨_, rfl, (.inl ⟨rfl, _, SqL.of hs5⟩), _, rfl, _, rfl, (show 2 ≤ sizeLine by decide), fun te hte => ⟨s, _, _, rfl, rfl, same_new hte _ _ _ hs5, hlt, push W4 u4 i1' (.inr ⟨b2, rfl, i2⟩) hs5 hte⟩⟩
    · obtain ⟨ow, ho1, ho2, ho3⟩ := hX.upM mL u1
      obtain ⟨ts2, hd2, hn2, _⟩ := W1.lists _ _ (u1.inc _ _ hd)
      refine ⟨_, rfl, _, _, rfl, rfl, (show CDiv _ 98 from ⟨by decide, by decide⟩), _, rfl, t, _, 1, _, rfl, rfl, SqT.of ho1, rfl, _, ow, h0.own, rfl, ho2, Nat.le_trans hok.few (by decide), fun td fa pa F P' H2 N => ?_⟩
      have e2 := N.e
      have ho1' := e2 _ _ ho1
      have ho2' := e2 _ _ ho2
      refine ⟨_, rfl, (.inl ⟨rfl, _, SqL.of (e2 _ _ hd2)⟩), _, rfl, _, rfl, t, _, 1, _, rfl, rfl, SqT.of ho1', rfl, m, ow, h0.own, rfl, ho2', Nat.le_trans hok.few (by decide), fun c r H3 e3 hc hr => ?_⟩
      refine ⟨_, rfl, _, rfl, (show 4 ≤ sizeLine by decide), fun dt hdt => ?_⟩
      have s4 := same_new hdt (.tup [.str "while", .ref c, .ref td, .ref b])
      have k4 : (upd H3 dt (.tup [.str "while", .ref c, .ref td, .ref b])) dt = some (.tup [.str "while", .ref c, .ref td, .ref b]) := upd_same
      generalize upd H3 dt (.tup [.str "while", .ref c, .ref td, .ref b]) = H4 at s4 k4 ⊢
      have e34 := e3.trans s4
      have e4 := e2.trans e34
      have hd4 := e4 _ _ hd2
      refine ⟨d, _, _, rfl, rfl, hd4, lt_line (by rw [List.length_map]; omega), ?_⟩
      have oks := ok_some fun x hx => hxn x (hok.own x hx)
      have okc : ∀ y ∈ r, Ok y := ok_fact oks hr
      have nm : ∀ x, H1 x = none → ¬ Mt lv1 S x := fun x hx z => by
        obtain ⟨us, hu⟩ := W1.mt _ z
        rw [hx] at hu; cases hu
      have W4 := (W1.same e4).put (u1.inc _ _ hd) hd4 (.loop c td b fa pa r F P' k4 (s4 _ _ hc) okc (e34 _ _ N.tup) (N.facts.same e34) (N.parts.same e34) (nm _ N.nf) (nm _ N.np) (fun r hr => ok_fact oks (N.okF r hr)) (fun r hr => ok_part oks (N.okP r hr)) (Nat.le_trans N.lf (by decide)) (Nat.le_trans N.lp (by decide)) i1) (orph_while k4 ((W1.backS e4).orph o1))
      have u4 := (u1.trans (.same e4)).trans (.put (o' := .lst (ts2.map V.ref ++ [.ref dt])) (.inl ⟨_, u1.inc _ _ hd⟩) hd4)
      have hs5 : (upd H4 d (.lst (ts2.map V.ref ++ [.ref dt]))) s = some (.lst (es0.map V.ref ++ [e].map V.ref)) := by rw [upd_ne hsd]; exact e4 _ _ hs1
      generalize upd H4 d (.lst (ts2.map V.ref ++ [.ref dt])) = H5 at W4 u4 hs5 ⊢
      exact ⟨_, rfl, (.inl ⟨rfl, _, SqL.of hs5⟩), _, rfl, (show 2 ≤ sizeLine by decide), fun te hte => ⟨s, _, _, rfl, rfl, same_new hte _ _ _ hs5, hlt, push W4 u4 i1 (.inl rfl) hs5 hte⟩⟩
  · obtain ⟨ow, ho1, ho2, ho3⟩ := hX
    refine ⟨_, rfl, (.inl ⟨rfl, _, SqL.of hdl⟩), _, rfl, _, _, rfl, rfl, (show (0 : Int) < 6 by decide), _, rfl, _, rfl, _, rfl, way % 6, m, t, hl, Mt lv S, h0, hs, xs, rfl, ⟨ow, ho1, ho2, ho3⟩, hok, hH.at, hs0, hs4, hsok, hxn, fun pt p H' e1 hp hpo => ⟨d, _, _, rfl, rfl, e1 _ _ hdl, lt_line (by rw [List.length_map]; omega), ?_⟩⟩
    exact q lv _ ((Up.same e1).trans (.put (.inl ⟨_, hd⟩) (e1 _ _ hdl))) ((W.same e1).put hd (e1 _ _ hdl) (.plain p hp hpo) fun b s z => absurd z (inn_plain hp hpo))
end
end K43
namespace L2
open PySem PySem.Spec
theorem comp_feedS {G H1 : Hp} {σ : St} {ix : List Nat} {te : TE} {Q : VK} {fe : Addr} {n1 : Int} {N : Nat} (Pr : Str → Prop) (hN : N ≤ 1000) (S1 : FS G fe H1 n1)
    (he : ∀ (D : Addr) (i : Nat) H2 n2, FS G fe H2 n2 → H2 D ≠ none → ∀ Q' : VK, (∀ y n3 H3, FS (wo H2 fe) fe H3 n3 → Pr y → Q' (.str y) H3) → te (some (.int (0 + (i : Int))) :: frees σ ix) H2 Q')
    (hQ : ∀ D H' n' ys, H1 D = none → FS G fe H' n' → (wo H' fe) D = some (.lst ((ys : List Str).map V.str)) → ys.length = N → (∀ y ∈ ys, Pr y) → Q (.ref D) H') : CompGo (Itr 0 N) H1 σ ix tYes te Q := by
  intro D hD
  have hDf : D ≠ fe := FS.ne S1.fed hD
  have hGD : G D = none := by
    cases q : G D with
    | none => rfl
    | some o => have := S1.at q; rw [hD] at this; cases this
  refine ⟨fun i m H => i ≤ N ∧ m = N - i ∧ ∃ (n : Int) (ys : List Str), FS G fe H n ∧ (wo H fe) D = some (.lst (ys.map V.str)) ∧ ys.length = i ∧ ∀ y ∈ ys, Pr y, ⟨N, Nat.zero_le _, rfl, n1, [], ⟨?_, ?_⟩, ?_, rfl, (fun r hr => by cases hr)⟩, ?_⟩
  · rw [upd_ne hDf.symm]; exact S1.fed
  · rw [wo_put hDf]; exact S1.g.new hGD
  · rw [wo_put hDf, upd_same]; rfl
  rintro i m H ⟨hi, rfl, n, ys, S, hDl, hlen, hPr⟩
  by_cases hlt : i < N
  · refine .inr ⟨hlt, fun x H' hy => ?_⟩
    obtain ⟨rfl, rfl⟩ := hy
    have hDl' : H' D = some (.lst (ys.map V.str)) := wo_back _ _ hDl
    refine he D i H' n S (by rw [hDl']; simp) _ fun y n3 H3 S3 hr => ?_
    have hD3 : (wo H3 fe) D = some (.lst (ys.map V.str)) := S3.g _ _ hDl
    refine ⟨ys.map V.str, wo_back _ _ hD3, Nat.lt_of_le_of_lt (by rw [List.length_map]; omega : _ ≤ 1000) (by decide), N - (i + 1), by omega, hlt, rfl, n3, ys ++ [y], ⟨?_, ?_⟩, ?_, ?_, ?_⟩
    · rw [upd_ne hDf.symm]; exact S3.fed
    · rw [wo_put hDf]; exact (S.g.trans S3.g).new hGD
    · rw [wo_put hDf, upd_same, List.map_append]; rfl
    · rw [List.length_append, hlen]; rfl
    · intro x hx
      rcases List.mem_append.mp hx with z | z
      · exact hPr x z
      · rw [List.mem_singleton.mp z]; exact hr
  · have e : i = N := by omega
    subst e
    exact .inl ⟨Nat.le_refl _, hQ D H n ys hD S hDl hlen hPr⟩
theorem call_int_bl {X : Cx} : CallR X (.type "int") (fun xs H Q => ∃ b : Bool, xs = [.bl b] ∧ Q (.int (if b = true then 1 else 0)) H) := by
  intro pins s σ H xs us Q I r h
  obtain ⟨b, rfl, q⟩ := h
  obtain ⟨u, rfl, ru⟩ := r.one
  cases ru
  exact PySem.call_int_bool ⟨.int _, H, I.tok _, ⟨_, rfl⟩, q⟩
end L2
namespace K43
open PySem PySem.Spec L2 Mir
theorem word_at (ys : List Str) {j : Int} (h0 : 0 ≤ j) (h1 : j < (ys.length : Int)) : ∃ v : Str, atI (ys.map V.str) j = some (.str v) ∧ v ∈ ys := by
  obtain ⟨k, rfl⟩ := Int.eq_ofNat_of_zero_le h0
  have hk : k < ys.length := by omega
  exact ⟨ys[k], atI_nat (by rw [List.getElem?_map, List.getElem?_eq_getElem hk]; rfl), List.getElem_mem _⟩
noncomputable abbrev sAnyPlain : Stmt := top 19
inductive spAnyPlain (K : PySem.W.Frag) (vs : List V) (H : Hp) (Q : VK) (E : XK) : Prop
  | mk (fe t hl : Addr) (n : Int) (S : Addr → Prop) (h : Hd) (hs : List Hd) (xs : List Str) (h0 : vs = [.ref fe, .ref t, .ref hl]) (hf : H fe = some (.lst [.int n])) (h1 : HeadX S (wo H fe) t h) (h2 : HdOk xs h) (h3 : HeadsAt (wo H fe) hl hs) (h4 : 0 < hs.length) (h4' : hs.length ≤ 4) (h5 : ∀ h ∈ hs, HdOk xs h) (h6 : ∀ x ∈ xs, isName x = true)
      (q : ∀ t p n' H', FS (wo H fe) fe H' n' → PlAt (wo H' fe) t p → PlOk p → Q (.ref t) H') : spAnyPlain K vs H Q E
section
variable {P : Program} {w : World} {K : PySem.W.Frag} {mg : Str → Option Value} {base : Heap} {f gC gT gP : Addr} {fd dC dT dP : FuncData}
theorem scAnyPlain : FnScope ["_law_feed", "_law_head", "_law_heads_here", "_law_own", "_law_some", "_law_way", "_law_x", "_law_y", "_law_e", "_law_field", "_law_f", "_law_called", "_law_values"] ["_law_feed", "_law_head", "_law_heads_here"] (defScope sAnyPlain) := ⟨rfl, rfl, rfl, by decide +kernel, rfl, by decide +kernel, by decide +kernel⟩
theorem ok_anyPlain (C : Con K mg w) (F : Fun K "_law_any_plain" "_law_any_plain" sAnyPlain f fd) (GT : FnOk P w K mg base CX0 1 gT dT ["_law_feed", "_law_many"] spTake) (cT : Cal K mg "_law_take" gT dT ["_law_feed", "_law_many"]) : FnOk P w K mg base CX0 2 f fd ["_law_feed", "_law_head", "_law_heads_here"] (spAnyPlain K) := by
  refine F.okQ scAnyPlain (fun vs H Q E h => ?_) (fun cdv A outer s0 H vs Q E hr h => ?_)
  · obtain ⟨fe, t, hl, n, S, h, hs, xs, rfl, _⟩ := h; rfl
  obtain ⟨fe, t, hl, n, S, h0, hs, xs, rfl, hfe, hX, hok, hH, hs0, hs4, hsok, hxn, q⟩ := h
  have nd := scAnyPlain.nd
  refine ⟨_, qb_cons (qs_set (i := 3) nd rfl (Or.inl rfl) (qe_ix ix_tup (qv 1) qe_int (fun _ _ => rfl)))
    (qb_cons (qs_flat (qs_set (i := 4) nd rfl (Or.inr rfl) (qe_op op_cat (qv 3) (qe_lst (qa_str qa_nil)))))
    (qb_cons (qs_set (i := 5) nd rfl (Or.inl rfl) (qe_call GT hr rfl cT.name cT.keep cT.bind .nil pass0 (qa_nm (qv 0) (qa_int qa_nil))))
    (qb_cons (qs_set (i := 6) nd rfl (Or.inl rfl) (qe_ix ix_list (qv 3) (qe_op op_add (qe_ix ix_tup (qv 1) qe_int (fun _ _ => rfl)) (qe_call GT hr rfl cT.name cT.keep cT.bind .nil pass0 (qa_nm (qv 0) (qa_bop (qe_op op_sub (qe_callB call_len_seq rfl C.len PySem.boot_len (qa_nm (qv 3) qa_nil)) (qe_ix ix_tup (qv 1) qe_int (fun _ _ => rfl))) qa_nil)))) (fun _ _ => rfl)))
    (qb_cons (qs_flat (qs_set (i := 7) nd rfl (Or.inl rfl) (qe_ix ix_list (qv 3) (qe_call GT hr rfl cT.name cT.keep cT.bind .nil pass0 (qa_nm (qv 0) (qa_call (qe_callB call_len_seq rfl C.len PySem.boot_len (qa_nm (qv 3) qa_nil)) qa_nil))) (fun _ _ => rfl))))
    (qb_cons (qs_set (i := 8) nd rfl (Or.inl rfl) (qe_ix ix_list (qv 4) (qe_call GT hr rfl cT.name cT.keep cT.bind .nil pass0 (qa_nm (qv 0) (qa_call (qe_callB call_len_seq rfl C.len PySem.boot_len (qa_nm (qv 4) qa_nil)) qa_nil))) (fun _ _ => rfl)))
    (qb_cons (qs_set (i := 9) nd rfl (Or.inl rfl) (qe_ix ix_list (qe_lst (qa_str (qa_str qa_nil))) (qe_call GT hr rfl cT.name cT.keep cT.bind .nil pass0 (qa_nm (qv 0) (qa_int qa_nil))) (fun _ _ => rfl)))
    (qb_cons (qs_if (qt_cmpR op_lt (qv 5) qe_int (nomark _)) (qb_cons (qs_set (i := 10) nd rfl (Or.inl rfl) (qe_ix ix_list (qv 4) (qe_call GT hr rfl cT.name cT.keep cT.bind .nil pass0 (qa_nm (qv 0) (qa_call (qe_callB call_len_seq rfl C.len PySem.boot_len (qa_nm (qv 4) qa_nil)) qa_nil))) (fun _ _ => rfl)))
    (qb_one (qs_ret (qe_ix ix_list (qe_lst (qa_tp (qa_str (qa_nm (qv 6) (qa_nm (qv 8) qa_nil))) (qa_tp (qa_str (qa_nm (qv 6) (qa_nm (qv 7) (qa_nm (qv 9) qa_nil)))) (qa_tp (qa_str (qa_nm (qv 7) (qa_nm (qv 9) (qa_nm (qv 8) qa_nil)))) (qa_tp (qa_str (qa_nm (qv 6) (qa_nm (qv 8) (qa_nm (qv 10) qa_nil)))) (qa_tp (qa_str (qa_nm (qv 7) qa_nil)) qa_nil)))))) (qv 5) (fun _ _ => rfl))))) qb_nil)
    (qb_cons (qs_set (i := 11) nd rfl (Or.inl rfl) (qe_ix ix_list (qv 2) (qe_call GT hr rfl cT.name cT.keep cT.bind .nil pass0 (qa_nm (qv 0) (qa_call (qe_callB call_len_seq rfl C.len PySem.boot_len (qa_nm (qv 2) qa_nil)) qa_nil))) (fun _ _ => rfl)))
    (qb_cons (qs_set (i := 12) nd rfl (Or.inl rfl) (qe_callTy call_tuple_of rfl C.tuple PyProof.Rows.boot_tuple (qa_cons (qe_compG ["_law_j", "_law_some", "_law_feed"] [4, 0] (qi_range1 rfl C.range (qa_sub (qe_ix ix_tup (qv 11) qe_int (fun _ _ => rfl)) qa_nil)) (fun _ _ _ _ => qts_nil) (fun _ _ _ _ => (qe_ix (ixK (K := K) rfl) (qv 1) (qe_call GT hr rfl cT.name cT.keep cT.bind .nil pass0 (qa_nm (qv 2) (qa_call (qe_callB (lenK (K := K) rfl) rfl C.len PySem.boot_len (qa_nm (qv 1) qa_nil)) qa_nil))) (fun _ _ => rfl)))) qa_nil)))
    (qb_one (qs_ret (qe_tup (qa_str (qa_sub (qe_ix ix_list (qe_lst (qa_str (qa_nm (qv 6) qa_nil))) (qe_callTy call_int_bl rfl C.int PyProof.Rows.boot_int (qa_cons (qe_cmpR op_ne (qe_ix ix_tup (qv 11) qe_int (fun _ _ => rfl)) qe_str (nomark _)) qa_nil)) (fun _ _ => rfl)) (qa_sub (qe_ix ix_tup (qv 11) qe_int (fun _ _ => rfl)) (qa_nm (qv 12) qa_nil)))))))))))))))), ?_⟩
  obtain ⟨ow, hX1, hX2, _⟩ := hX
  obtain ⟨nm, os, pm, rs⟩ := h0
  obtain ⟨hok1, hok2, hok3, hok4, hok5, hok6⟩ := hok
  dsimp only at hX1 hX2 hok1 hok2 hok3 hok4 hok5 hok6
  have okx : ∀ x ∈ xs, Ok x := fun x hx => ok_name (hxn x hx)
  have oko : ∀ x ∈ os, Ok x := fun x hx => okx x (hok2 x hx)
  have S0 : FS (wo H fe) fe H n := ⟨hfe, Same.refl _⟩
  refine ⟨_, rfl, t, _, 1, _, rfl, rfl, SqT.of (S0.at hX1), rfl, ?_⟩
  refine ⟨_, rfl, (show 1 ≤ sizeLine by decide), fun x1 hx1 => ?_⟩
  obtain ⟨S1, e1, k1⟩ := S0.new (o := .lst [.str "nil"]) hx1
  generalize upd H x1 (.lst [.str "nil"]) = H1 at S1 e1 k1 ⊢
  refine ⟨ow, x1, _, _, rfl, rfl, S1.at (e1 _ _ hX2), S1.at k1, le_line (by rw [List.length_map]; show _ + 1 ≤ 1000; omega), fun sm hsm => ?_⟩
  obtain ⟨S2, e2', k2'⟩ := S1.new (o := .lst (os.map V.str ++ [.str "nil"])) hsm
  have e2 := e1.trans e2'
  have k2 : (wo (upd H1 sm (.lst (os.map V.str ++ [.str "nil"]))) fe) sm = some (.lst ((os ++ [("nil" : Str)]).map V.str)) := by rw [k2', List.map_append]; rfl
  clear k2' e2'
  have hyl : (os ++ [("nil" : Str)]).length = os.length + 1 := by rw [List.length_append]; rfl
  have oky : ∀ y ∈ os ++ [("nil" : Str)], Ok y := fun y hy => by
    rcases List.mem_append.mp hy with z | z
    · exact oko y z
    · rw [List.mem_singleton.mp z]; exact ok_words "nil" (by simp)
  generalize upd H1 sm (.lst (os.map V.str ++ [.str "nil"])) = H2 at S2 k2 e2 ⊢
  generalize os ++ [("nil" : Str)] = ys at k2 hyl oky
  clear k1 e1 S1 hx1 hsm
  intro τ eτ
  obtain rfl : τ = [some (.ref fe), some (.ref t), some (.ref hl), some (.ref ow), some (.ref sm), none, none, none, none, none, none, none, none] := eτ
  have gt := e2 _ _ hX1
  have go := e2 _ _ hX2
  have ly0 : (0 : Int) < (((ys.map V.str).length : Nat) : Int) := by rw [List.length_map]; omega
  have lo0 : (0 : Int) < (((os.map V.str).length : Nat) : Int) := by rw [List.length_map]; omega
  have ly1 : (((ys.map V.str).length : Nat) : Int) < 1073741824 := by rw [List.length_map]; omega
  have lo1 : (((os.map V.str).length : Nat) : Int) < 1073741824 := by rw [List.length_map]; omega
  refine ⟨_, rfl, fe, n, 6, rfl, S2.fed, by decide, by decide, ?_⟩
  have S3 := S2.take (k := n / 6)
  have w0 := Int.emod_nonneg n (show (6 : Int) ≠ 0 by decide)
  dsimp only [gName]
  generalize upd H2 fe (.lst [.int (n / 6)]) = H3 at S3 ⊢
  generalize n / 6 = n3 at S3
  generalize n % 6 = way at w0 ⊢
  have lp : (((os.map V.str).length : Nat) : Int) - (pm : Int) = ((os.length - pm : Nat) : Int) := by rw [List.length_map]; omega
  refine ⟨_, rfl, _, rfl, t, _, 2, _, rfl, rfl, SqT.of (S3.at gt), rfl, _, rfl, _, rfl, ow, _, rfl, .inl (SqL.of (S3.at go)), _, rfl, t, _, 2, _, rfl, rfl, SqT.of (S3.at gt), rfl, _, _, rfl, rfl, fe, n3, _, rfl, S3.fed, (by omega), (by omega), ?_⟩
  have S4 := S3.take (k := n3 / ((((os.map V.str).length : Nat) : Int) - (pm : Int)))
  obtain ⟨vx, hvx, hvo⟩ := word_at os (j := (pm : Int) + n3 % ((((os.map V.str).length : Nat) : Int) - (pm : Int))) (by have := Int.emod_nonneg n3 (b := (((os.map V.str).length : Nat) : Int) - (pm : Int)) (by omega); omega) (by have := Int.emod_lt_of_pos n3 (b := (((os.map V.str).length : Nat) : Int) - (pm : Int)) (by omega); omega)
  generalize upd H3 fe (.lst [.int (n3 / ((((os.map V.str).length : Nat) : Int) - (pm : Int)))]) = H4 at S4 ⊢
  generalize n3 / ((((os.map V.str).length : Nat) : Int) - (pm : Int)) = n4 at S4
  refine ⟨_, _, rfl, rfl, ow, _, _, _, rfl, rfl, SqL.of (S4.at go), hvx, ?_⟩
  obtain ⟨vy, hvy, hvym⟩ := word_len os hok3 n4
  refine ⟨_, rfl, _, rfl, _, rfl, ow, _, rfl, .inl (SqL.of (S4.at go)), fe, n4, _, rfl, S4.fed, lo0, lo1, ?_⟩
  have S5 := S4.take (k := n4 / (((os.map V.str).length : Nat) : Int))
  generalize upd H4 fe (.lst [.int (n4 / (((os.map V.str).length : Nat) : Int))]) = H5 at S5 ⊢
  generalize n4 / (((os.map V.str).length : Nat) : Int) = n5 at S5
  refine ⟨ow, _, _, _, rfl, rfl, SqL.of (S5.at go), hvy, ?_⟩
  intro τ eτ
  obtain rfl : τ = [some (.ref fe), some (.ref t), some (.ref hl), some (.ref ow), some (.ref sm), some (.int way), some (.str vx), some (.str vy), none, none, none, none, none] := eτ
  obtain ⟨ve, hve, hvem⟩ := word_len ys (by omega) n5
  refine ⟨_, rfl, _, rfl, _, rfl, sm, _, rfl, .inl (SqL.of (S5.at k2)), fe, n5, _, rfl, S5.fed, ly0, ly1, ?_⟩
  have S6 := S5.take (k := n5 / (((ys.map V.str).length : Nat) : Int))
  generalize upd H5 fe (.lst [.int (n5 / (((ys.map V.str).length : Nat) : Int))]) = H6 at S6 ⊢
  generalize n5 / (((ys.map V.str).length : Nat) : Int) = n6 at S6
  refine ⟨sm, _, _, _, rfl, rfl, SqL.of (S6.at k2), hve, ?_⟩
  obtain ⟨fi, hfi, okfi⟩ := fields_at n6
  refine ⟨(show 2 ≤ sizeLine by decide), fun x3 hx3 => ?_⟩
  obtain ⟨S7, e7', k7⟩ := S6.new (o := .lst [.str "first", .str "second"]) hx3
  generalize upd H6 x3 (.lst [.str "first", .str "second"]) = H7 at S7 e7' k7 ⊢
  refine ⟨_, rfl, fe, n6, 2, rfl, S7.fed, by decide, by decide, ?_⟩
  have S8 := S7.take (k := n6 / 2)
  generalize upd H7 fe (.lst [.int (n6 / 2)]) = H8 at S8 ⊢
  generalize n6 / 2 = n8 at S8
  refine ⟨x3, _, _, _, rfl, rfl, SqL.of (S8.at k7), hfi, ?_⟩
  have e8 := e2.trans e7'
  have gt8 := e7' _ _ gt
  have gs8 := e7' _ _ k2
  clear hve hvx hvy hfi k7 hx3 S0 S2 S3 S4 S5 S6 S7
  have okx' := oko _ hvo
  have oky' := oko _ hvym
  have oke := oky _ hvem
  refine ⟨_, rfl, _, _, rfl, rfl, _, rfl, iteB (fun c => ?_) (fun c => ?_)⟩
  · have w5 : way < 5 := of_decide_eq_true c
    obtain ⟨vf, hvf, hvfm⟩ := word_len ys (by omega) n8
    refine ⟨_, rfl, _, rfl, _, rfl, sm, _, rfl, .inl (SqL.of (S8.at gs8)), fe, n8, _, rfl, S8.fed, ly0, ly1, ?_⟩
    have S9 := S8.take (k := n8 / (((ys.map V.str).length : Nat) : Int))
    generalize upd H8 fe (.lst [.int (n8 / (((ys.map V.str).length : Nat) : Int))]) = H9 at S9 ⊢
    refine ⟨sm, _, _, _, rfl, rfl, SqL.of (S9.at gs8), hvf, ?_⟩
    have okf := oky _ hvfm
    have ok2 : ∀ {a b : Str}, Ok a → Ok b → ∀ y ∈ [a, b], Ok y := fun ha hb y hy => by
      rcases List.mem_cons.mp hy with rfl | z
      · exact ha
      · rw [List.mem_singleton.mp z]; exact hb
    have ok3 : ∀ {a b c : Str}, Ok a → Ok b → Ok c → ∀ y ∈ [a, b, c], Ok y := fun ha hb hc y hy => by
      rcases List.mem_cons.mp hy with rfl | z
      · exact ha
      · exact ok2 hb hc y z
    refine ⟨_, rfl, _, rfl, (show 3 ≤ sizeLine by decide), fun a1 ha1 => ?_⟩
    obtain ⟨T1, f1, b1⟩ := S9.new (o := .tup [.str "set", .str vx, .str ve]) ha1
    generalize upd H9 a1 (.tup [.str "set", .str vx, .str ve]) = J1 at T1 f1 b1 ⊢
    refine ⟨_, rfl, _, rfl, _, rfl, (show 4 ≤ sizeLine by decide), fun a2 ha2 => ?_⟩
    obtain ⟨T2, f2, b2⟩ := T1.new (o := .tup [.str "read", .str vx, .str vy, .str fi]) ha2
    generalize upd J1 a2 (.tup [.str "read", .str vx, .str vy, .str fi]) = J2 at T2 f2 b2 ⊢
    refine ⟨_, rfl, _, rfl, _, rfl, (show 4 ≤ sizeLine by decide), fun a3 ha3 => ?_⟩
    obtain ⟨T3, f3, b3⟩ := T2.new (o := .tup [.str "write", .str vy, .str fi, .str ve]) ha3
    generalize upd J2 a3 (.tup [.str "write", .str vy, .str fi, .str ve]) = J3 at T3 f3 b3 ⊢
    refine ⟨_, rfl, _, rfl, _, rfl, (show 4 ≤ sizeLine by decide), fun a4 ha4 => ?_⟩
    obtain ⟨T4, f4, b4⟩ := T3.new (o := .tup [.str "new", .str vx, .str ve, .str vf]) ha4
    generalize upd J3 a4 (.tup [.str "new", .str vx, .str ve, .str vf]) = J4 at T4 f4 b4 ⊢
    refine ⟨_, rfl, (show 2 ≤ sizeLine by decide), fun a5 ha5 => ?_⟩
    obtain ⟨T5, f5, b5⟩ := T4.new (o := .tup [.str "free", .str vy]) ha5
    generalize upd J4 a5 (.tup [.str "free", .str vy]) = J5 at T5 f5 b5 ⊢
    refine ⟨(show 5 ≤ sizeLine by decide), fun L hL => ?_⟩
    obtain ⟨T6, f6, b6⟩ := T5.new (o := .lst [.ref a1, .ref a2, .ref a3, .ref a4, .ref a5]) hL
    generalize upd J5 L (.lst [.ref a1, .ref a2, .ref a3, .ref a4, .ref a5]) = J6 at T6 f6 b6 ⊢
    have g5 := f6
    have g4 := f5.trans g5
    have g3 := f4.trans g4
    have g2 := f3.trans g3
    have g1 := f2.trans g2
    have FF : FS (wo H fe) fe J6 _ := ⟨T6.fed, (e8.trans f1).trans g1⟩
    have hw : way = 0 ∨ way = 1 ∨ way = 2 ∨ way = 3 ∨ way = 4 := by omega
    rcases hw with rfl | rfl | rfl | rfl | rfl
    · exact ⟨_, rfl, L, _, _, _, rfl, rfl, SqL.of (T6.at b6), rfl, q a1 (.row [("set" : Str), vx, ve]) _ _ FF (g1 _ _ b1) (row_ok (by decide +kernel) (ok2 okx' oke))⟩
    · exact ⟨_, rfl, L, _, _, _, rfl, rfl, SqL.of (T6.at b6), rfl, q a2 (.row [("read" : Str), vx, vy, fi]) _ _ FF (g2 _ _ b2) (row_ok (by decide +kernel) (ok3 okx' oky' okfi))⟩
    · exact ⟨_, rfl, L, _, _, _, rfl, rfl, SqL.of (T6.at b6), rfl, q a3 (.row [("write" : Str), vy, fi, ve]) _ _ FF (g3 _ _ b3) (row_ok (by decide +kernel) (ok3 oky' okfi oke))⟩
    · exact ⟨_, rfl, L, _, _, _, rfl, rfl, SqL.of (T6.at b6), rfl, q a4 (.row [("new" : Str), vx, ve, vf]) _ _ FF (g4 _ _ b4) (row_ok (by decide +kernel) (ok3 okx' oke okf))⟩
    · exact ⟨_, rfl, L, _, _, _, rfl, rfl, SqL.of (T6.at b6), rfl, q a5 (.row [("free" : Str), vy]) _ _ FF (g5 _ _ b5) (row_ok (by decide +kernel) (fun y hy => by rw [List.mem_singleton.mp hy]; exact oky'))⟩
  · obtain ⟨ts, hl4', hp4'⟩ := hH
    have hl4 := e8 _ _ hl4'
    have hp4 := Paired.mapP hp4' fun _ _ z => HeadX.same z e8
    have htl := Paired.length hp4
    have lt0 : (0 : Int) < (((ts.map V.ref).length : Nat) : Int) := by rw [List.length_map]; omega
    have lt1 : (((ts.map V.ref).length : Nat) : Int) < 1073741824 := by rw [List.length_map]; omega
    obtain ⟨cv, hcv, hcm⟩ := at_mod (xs := ts.map V.ref) (m := ((ts.map V.ref).length : Int)) (i := n8) rfl lt0
    obtain ⟨ct, hct, rfl⟩ := List.mem_map.mp hcm
    obtain ⟨k, hk⟩ := List.getElem?_of_mem hct
    obtain ⟨⟨cn, cos, cpm, crs⟩, hck, cow, hc1, hc2, hc3⟩ := Paired.nth hp4 hk
    have hcok := hsok _ (List.mem_of_getElem? hck)
    obtain ⟨hcok1, hcok2, hcok3, hcok4, hcok5, hcok6⟩ := hcok
    dsimp only at hc1 hc2 hcok1 hcok2 hcok3 hcok4 hcok5 hcok6
    refine ⟨_, rfl, _, rfl, _, rfl, hl, _, rfl, .inl (SqL.of (S8.at hl4)), fe, n8, _, rfl, S8.fed, lt0, lt1, ?_⟩
    have S9 := S8.take (k := n8 / (((ts.map V.ref).length : Nat) : Int))
    generalize upd H8 fe (.lst [.int (n8 / (((ts.map V.ref).length : Nat) : Int))]) = H9 at S9 ⊢
    generalize n8 / (((ts.map V.ref).length : Nat) : Int) = n9 at S9
    refine ⟨hl, _, _, _, rfl, rfl, SqL.of (S9.at hl4), hcv, ?_⟩
    refine ⟨_, rfl, ct, _, 2, _, rfl, rfl, SqT.of (S9.at hc1), rfl, _, rfl, by omega, by omega, ?_⟩
    refine comp_feedS (G := wo H7 fe) Ok (by omega) S9 (fun D i H2' n2 S2' hD Q' q' => ?_) (fun vl H' n' vs hvl Sv hvl' hlen hPr => ?_)
    · obtain ⟨v, hv, hvm⟩ := word_len ys (by omega) n2
      refine ⟨_, rfl, _, rfl, _, rfl, sm, _, rfl, .inl (SqL.of (S2'.at gs8)), fe, n2, _, rfl, S2'.fed, ly0, ly1, ?_⟩
      have S3' : FS (wo H2' fe) fe (upd H2' fe (.lst [.int (n2 / (((ys.map V.str).length : Nat) : Int))])) _ := FS.take (k := n2 / (((ys.map V.str).length : Nat) : Int)) ⟨S2'.fed, Same.refl _⟩
      exact ⟨sm, _, _, _, rfl, rfl, SqL.of (S3'.at (S2'.g _ _ gs8)), hv, q' v _ _ S3' (oky v hvm)⟩
    refine ⟨vl, _, rfl, .inl ⟨SqL.of (wo_back _ _ hvl'), fun vt hvt => ?_⟩⟩
    obtain ⟨T1, f1, b1⟩ := Sv.new (o := .tup (vs.map V.str)) hvt
    generalize upd H' vt (.tup (vs.map V.str)) = J1 at T1 f1 b1 ⊢
    refine ⟨_, rfl, (show 2 ≤ sizeLine by decide), fun L hL => ?_⟩
    obtain ⟨T2, f2, b2⟩ := T1.new (o := .lst [.str "", .str vx]) hL
    generalize upd J1 L (.lst [.str "", .str vx]) = J2 at T2 f2 b2 ⊢
    have hc2' := (f1.trans f2) _ _ hc1
    obtain ⟨v, hv, okv⟩ : ∃ v : Str, atI [V.str "", V.str vx] (if (!decide (V.str crs = V.str "")) = true then 1 else 0) = some (.str v) ∧ Ok v := by
      cases (!decide (V.str crs = V.str ""))
      · exact ⟨"", rfl, ok_words "" (by simp)⟩
      · exact ⟨vx, rfl, okx'⟩
    refine ⟨_, rfl, ct, _, 3, _, rfl, rfl, SqT.of (T2.at hc2'), rfl, rfl, _, rfl, L, _, _, _, rfl, rfl, SqL.of (T2.at b2), hv, ?_⟩
    refine ⟨_, rfl, ct, _, 0, _, rfl, rfl, SqT.of (T2.at hc2'), rfl, _, rfl, (show 4 ≤ sizeLine by decide), fun rt hrt => ?_⟩
    obtain ⟨T3, f3, b3⟩ := T2.new (o := .tup [.str "call", .str v, .str cn, .ref vt]) hrt
    exact q rt (.call v cn vs) _ _ ⟨T3.fed, ((e8.trans f1).trans f2).trans f3⟩ ⟨vt, b3, f3 _ _ (f2 _ _ b1)⟩ ⟨okv, okx _ hcok1, hPr⟩
end
end K43
namespace L2
open PySem PySem.Spec
structure At (fe : Addr) (H G : Hp) (n : Int) : Prop where
  fed : H fe = some (.lst [.int n])
  g : wo H fe = G
variable {fe : Addr} {H G : Hp} {n : Int}
theorem At.take {k : Int} (h : At fe H G n) : At fe (upd H fe (.lst [.int k])) G k := ⟨upd_same, by rw [wo_upd]; exact h.g⟩
theorem At.fre (h : At fe H G n) {p : Addr} (hp : H p = none) : G p = none := by
  rw [← h.g]; unfold wo; split
  · rfl
  · exact hp
theorem At.rd (h : At fe H G n) {b : Addr} {o : HO} (hb : G b = some o) : H b = some o := wo_back _ _ (by rw [h.g]; exact hb)
theorem At.ne (h : At fe H G n) {b : Addr} {o : HO} (hb : G b = some o) : b ≠ fe := fun z => by
  rw [← h.g, z, wo_self] at hb; cases hb
theorem At.new (h : At fe H G n) {p : Addr} (hp : H p = none) (o : HO) : At fe (upd H p o) (upd G p o) n :=
  ⟨by rw [upd_ne (FS.ne h.fed hp).symm]; exact h.fed, by rw [wo_put (FS.ne h.fed hp), h.g]⟩
theorem At.put (h : At fe H G n) {a : Addr} {o o' : HO} (ha : G a = some o) : At fe (upd H a o') (upd G a o') n :=
  ⟨by rw [upd_ne (h.ne ha).symm]; exact h.fed, by rw [wo_put (h.ne ha), h.g]⟩
theorem At.call (h : At fe H G n) {H' : Hp} {n' : Int} (f : FS (wo H fe) fe H' n') : At fe H' (wo H' fe) n' ∧ Same G (wo H' fe) := ⟨⟨f.fed, rfl⟩, by rw [← h.g]; exact f.g⟩
end L2
namespace K43
open PySem PySem.Spec L2 Mir
noncomputable abbrev sAnyPut : Stmt := top 20
inductive spAnyPut (K : PySem.W.Frag) (vs : List V) (H : Hp) (Q : VK) (E : XK) : Prop
  | mk (s fe t hl : Addr) (G : Hp) (k : Int) (lv : Lv) (S : List Addr) (n : Nat) (h : Hd) (hs : List Hd) (xs : List Str) (h0 : vs = [.ref s, .ref fe, .ref t, .ref hl]) (hA : At fe H G k) (W : Wk K G lv S n) (hsS : s ∈ S) (hn : n ≤ 100) (h1 : HeadX (Mt lv S) G t h) (h2 : HdOk xs h) (h3 : HeadsM (Mt lv S) G hl hs) (h4 : 0 < hs.length) (h4' : hs.length ≤ 4) (h5 : ∀ h ∈ hs, HdOk xs h) (h6 : ∀ x ∈ xs, isName x = true)
      (q : ∀ lv' k' G' H', At fe H' G' k' → Up S lv lv' G G' → Wk K G' lv' S (n + 1) → Q .non H') : spAnyPut K vs H Q E
section
variable {P : Program} {w : World} {K : PySem.W.Frag} {mg : Str → Option Value} {base : Heap} {f gT gR gD gP : Addr} {fd dT dR dD dP : FuncData}
theorem scAnyPut : FnScope ["_law_open_lists", "_law_feed", "_law_head", "_law_heads_here", "_law_deeds", "_law_others", "_law_way", "_law_condition_here", "_law_inner", "_law_more"] ["_law_open_lists", "_law_feed", "_law_head", "_law_heads_here"] (defScope sAnyPut) := ⟨rfl, rfl, rfl, by decide +kernel, rfl, by decide +kernel, by decide +kernel⟩
theorem ok_anyPut (C : Con K mg w) (F : Fun K "_law_any_put" "_law_any_put" sAnyPut f fd) (GT : FnOk P w K mg base CX0 1 gT dT ["_law_feed", "_law_many"] spTake) (cT : Cal K mg "_law_take" gT dT ["_law_feed", "_law_many"]) (GR : FnOk P w K mg base CX0 2 gR dR ["_law_feed", "_law_some", "_law_sort"] (spAnyRow K)) (cR : Cal K mg "_law_any_row" gR dR ["_law_feed", "_law_some", "_law_sort"])
    (GD : FnOk P w K mg base CX0 3 gD dD ["_law_feed", "_law_own", "_law_most"] (spAnyTold K)) (cD : Cal K mg "_law_any_told" gD dD ["_law_feed", "_law_own", "_law_most"]) (GP : FnOk P w K mg base CX0 2 gP dP ["_law_feed", "_law_head", "_law_heads_here"] (spAnyPlain K)) (cP : Cal K mg "_law_any_plain" gP dP ["_law_feed", "_law_head", "_law_heads_here"]) : FnOk P w K mg base CX0 4 f fd ["_law_open_lists", "_law_feed", "_law_head", "_law_heads_here"] (spAnyPut K) := by
  refine F.okQ scAnyPut (fun vs H Q E h => ?_) (fun cdv A outer s0 H vs Q E hr h => ?_)
  · obtain ⟨s, fe, t, hl, G, k, lv, S, n, h, hs, xs, rfl, _⟩ := h; rfl
  obtain ⟨s, fe, t, hl, G, k, lv, S, n, h0, hs, xs, rfl, A0, W, hsS, hn, hX, hok, hH, hs0, hs4, hsok, hxn, q⟩ := h
  have nd := scAnyPut.nd
  have hr1 := hr.mono (j := 1) (by omega)
  have hr2 := hr.mono (j := 2) (by omega)
  refine ⟨_, qb_cons (qs_asg (qe_ix ix_list (qv 0) (qe_un un_neg qe_int) (fun _ _ => rfl)) (qg_tup2 (qg_name (i := 4) nd rfl (Or.inl rfl)) (qg_name (i := 5) nd rfl (Or.inl rfl))))
    (qb_cons (qs_set (i := 6) nd rfl (Or.inl rfl) (qe_call GT hr1 rfl cT.name cT.keep cT.bind .nil pass0 (qa_nm (qv 1) (qa_int qa_nil))))
    (qb_one (qs_if (QW.qt (qw_and (qt_cmpR op_eq (qv 6) qe_int (nomark _)) (qw_and1 (qt_cmpR op_gt (qe_callB call_len_seq rfl C.len PySem.boot_len (qa_nm (qv 0) qa_nil)) qe_int (nomark _))))) (qb_cons (qs_expr (qe_bm0 PySem.F.plainAttrs_list PySem.F.slot_list_pop PySem.F.type_list_pop mt_pop (qv 0)))
    (qb_one (qs_if (QW.qt (qw_and (qt_cmpR op_notN (qv 5) qe_non (nomark _)) (qw_and1 (qt_cmpR op_eq (qe_call GT hr1 rfl cT.name cT.keep cT.bind .nil pass0 (qa_nm (qv 1) (qa_int qa_nil))) qe_int (nomark _))))) (qb_one (qs_expr (qe_bmK (K := K) rfl PySem.F.plainAttrs_list PySem.F.slot_list_append PySem.F.type_list_append mt_append (qv 0) (qa_tp (qa_nm (qv 5) (qa_cons qe_non qa_nil)) qa_nil)))) qb_nil))) (qb_one (qs_if (QW.qt (qw_and (qt_cmpR op_gt (qv 6) qe_int (nomark _)) (qw_and (qt_cmpR op_lt (qv 6) qe_int (nomark _)) (qw_and1 (qt_cmpR op_lt (qe_callB call_len_seq rfl C.len PySem.boot_len (qa_nm (qv 0) qa_nil)) qe_int (nomark _)))))) (qb_cons (qs_set (i := 7) nd rfl (Or.inl rfl) (qe_call GR hr2 rfl cR.name cR.keep cR.bind .nil pass0 (qa_nm (qv 1) (qa_bop (qe_op op_cat (qe_ix ix_tup (qv 2) qe_int (fun _ _ => rfl)) (qe_lst (qa_str qa_nil))) (qa_str qa_nil)))))
    (qb_cons (qs_set (i := 8) nd rfl (Or.inl rfl) (qe_lst qa_nil))
    (qb_cons (qs_set (i := 9) nd rfl (Or.inl rfl) qe_non)
    (qb_cons (qs_if (qt_cmpR op_eq (qv 6) qe_int (nomark _)) (qb_cons (qs_set (i := 9) nd rfl (Or.inl rfl) (qe_lst qa_nil))
    (qb_one (qs_expr (qe_bmK (K := K) rfl PySem.F.plainAttrs_list PySem.F.slot_list_append PySem.F.type_list_append mt_append (qv 4) (qa_tp (qa_str (qa_nm (qv 7) (qa_nm (qv 8) (qa_nm (qv 9) qa_nil)))) qa_nil))))) (qb_one (qs_expr (qe_bmK (K := K) rfl PySem.F.plainAttrs_list PySem.F.slot_list_append PySem.F.type_list_append mt_append (qv 4) (qa_tp (qa_str (qa_nm (qv 7) (qa_call (qe_call GD hr rfl cD.name cD.keep cD.bind .nil pass0 (qa_nm (qv 1) (qa_sub (qe_ix ix_tup (qv 2) qe_int (fun _ _ => rfl)) (qa_int qa_nil)))) (qa_nm (qv 8) qa_nil)))) qa_nil)))))
    (qb_one (qs_expr (qe_bmK (K := K) rfl PySem.F.plainAttrs_list PySem.F.slot_list_append PySem.F.type_list_append mt_append (qv 0) (qa_tp (qa_nm (qv 8) (qa_nm (qv 9) qa_nil)) qa_nil)))))))) (qb_one (qs_expr (qe_bmK (K := K) rfl PySem.F.plainAttrs_list PySem.F.slot_list_append PySem.F.type_list_append mt_append (qv 4) (qa_call (qe_call GP hr2 rfl cP.name cP.keep cP.bind .nil pass0 (qa_nm (qv 1) (qa_nm (qv 2) (qa_nm (qv 3) qa_nil)))) qa_nil))))))))), ?_⟩
  obtain ⟨es, hes, he0, he5, hEn⟩ := W.stacks s hsS
  obtain ⟨es0, e, rfl⟩ : ∃ es0 e, es = es0 ++ [e] := by
    rcases List.eq_nil_or_concat es with z | ⟨l, b, z⟩
    · rw [z] at he0; cases he0
    · exact ⟨l, b, by rw [z, List.concat_eq_append]⟩
  rw [List.map_append] at hes
  have hl5 : es0.length < 5 := by rw [List.length_append] at he5; exact he5
  have hE0 : ∀ i x, es0[i]? = some x → EntAt G lv i x := fun i x hx => hEn i x (by rw [List.getElem?_append_left (List.getElem?_eq_some_iff.mp hx).1]; exact hx)
  obtain ⟨d, o, he, hd, ho⟩ : ∃ d o, G e = some (.tup [.ref d, o]) ∧ lv d = some es0.length ∧ (o = .non ∨ ∃ b, o = .ref b ∧ lv b = some es0.length) := by
    have := hEn es0.length e (by rw [List.getElem?_append_right (Nat.le_refl _), Nat.sub_self]; rfl)
    cases this with
    | one d h hd => exact ⟨d, _, h, hd, .inl rfl⟩
    | two d o h hd ho => exact ⟨d, _, h, hd, .inr ⟨o, rfl, ho⟩⟩
  obtain ⟨ts, hdl, htn, htd⟩ := W.lists d _ hd
  have mL := W.mt
  have hlen : ((es0.map V.ref ++ [e].map V.ref).length : Int) = (es0.length : Int) + 1 := by rw [List.length_append, List.length_map]; rfl
  refine ⟨_, rfl, _, rfl, s, _, _, _, rfl, rfl, SqL.of (A0.rd hes), atI_last, e, _, rfl, SqT.of (A0.rd he), rfl, _, _, rfl, _, _, rfl, rfl, ?_⟩
  refine ⟨_, rfl, fe, k, 10, rfl, A0.fed, by decide, by decide, ?_⟩
  have A1 := A0.take (k := k / 10)
  dsimp only [gName]
  generalize upd H fe (.lst [.int (k / 10)]) = H1 at A1 ⊢
  generalize k / 10 = k1 at A1
  generalize k % 10 = way
  clear A0
  refine and_two (A := V.int way = V.int 9) (B := (1 : Int) < ((es0.map V.ref ++ [e].map V.ref).length : Int)) (fun Q' q' => ⟨_, rfl, rfl, _, rfl, q'⟩) (fun Q' q' => ⟨_, rfl, s, _, rfl, .inl (SqL.of (A1.rd hes)), _, _, rfl, rfl, _, rfl, q'⟩) (fun _ c2 => (if_pos rfl).mpr ?_) (fun _ => (if_neg Bool.false_ne_true).mpr ?_)
  · have l0 : 0 < es0.length := by omega
    have EN : EntsAt G lv es0 := ⟨l0, Nat.le_of_lt hl5, hE0⟩
    have W1 := (W.stk (es := es0) hsS hes EN).le (Nat.le_succ n)
    have u1 : Up S lv lv G (upd G s (.lst (es0.map V.ref))) := .put (.inr hsS) hes
    refine ⟨_, rfl, (.inl ⟨rfl, _, SqL.of (A1.rd hes)⟩), s, _, _, rfl, rfl, A1.rd hes, (by rw [List.length_append, List.getElem?_append_right (by simp)]; simp; rfl), ?_⟩
    rw [show (es0.map V.ref ++ [e].map V.ref).dropLast = es0.map V.ref from List.dropLast_concat]
    have hs1 : (upd G s (.lst (es0.map V.ref))) s = some (.lst (es0.map V.ref)) := upd_same
    have EN1 := EN.up mL u1
    have A2 := A1.put (o' := .lst (es0.map V.ref)) hes
    generalize upd G s (.lst (es0.map V.ref)) = G2, upd H1 s (.lst (es0.map V.ref)) = H2 at W1 u1 hs1 EN1 A2 ⊢
    rcases ho with rfl | ⟨b, rfl, hb⟩
    · exact ⟨_, rfl, rfl, _, rfl, (if_neg Bool.false_ne_true).mpr ((if_neg Bool.false_ne_true).mpr (q lv _ _ _ A2 u1 W1))⟩
    refine ⟨_, rfl, rfl, _, rfl, (if_pos rfl).mpr ⟨_, rfl, fe, k1, 2, rfl, A2.fed, by decide, by decide, ?_⟩⟩
    have A3 := A2.take (k := k1 / 2)
    generalize upd H2 fe (.lst [.int (k1 / 2)]) = H3 at A3 ⊢
    refine ⟨rfl, _, rfl, iteB (fun _ => ?_) (fun _ => q lv _ _ _ A3 u1 W1)⟩
    refine ⟨_, rfl, (.inl ⟨rfl, _, SqL.of (A3.rd hs1)⟩), _, rfl, (show 2 ≤ sizeLine by decide), fun te hte => ?_⟩
    have s2 := same_new (A3.fre hte) (.tup [.ref b, .non])
    have k2 : (upd G2 te (.tup [.ref b, .non])) te = some (.tup [.ref b, .non]) := upd_same
    have A4 := A3.new hte (.tup [.ref b, .non])
    generalize upd G2 te (.tup [.ref b, .non]) = G4, upd H3 te (.tup [.ref b, .non]) = H4 at s2 k2 A4 ⊢
    have W2 := W1.same s2
    have u2 := u1.trans (.same s2)
    have hs2 := s2 _ _ hs1
    refine ⟨s, _, _, rfl, rfl, A4.rd hs2, lt_line (by rw [List.length_map]; omega), ?_⟩
    have EN2 := EN1.up W1.mt (.same s2 (S := S))
    have W3 := W2.stk (es := es0 ++ [te]) hsS hs2 (ents_snoc EN2.2.2 (.one b k2 hb) hl5)
    rw [List.map_append] at W3
    exact q lv _ _ _ (A4.put hs2) (u2.trans (.put (.inr hsS) hs2)) W3
  refine and_three (A := (5 : Int) < way) (B := way < 8) (C := ((es0.map V.ref ++ [e].map V.ref).length : Int) < 5) (fun Q' q' => ⟨_, rfl, _, _, rfl, rfl, _, rfl, q'⟩) (fun Q' q' => ⟨_, rfl, _, _, rfl, rfl, _, rfl, q'⟩) (fun Q' q' => ⟨_, rfl, s, _, rfl, .inl (SqL.of (A1.rd hes)), _, _, rfl, rfl, _, rfl, q'⟩) (fun _ _ c3 => (if_pos rfl).mpr ?_) (fun _ => (if_neg Bool.false_ne_true).mpr ?_)
  · have hk : es0.length + 1 ≤ 4 := by omega
    have hsd : s ≠ d := fun z => by rw [← z, W.apart s hsS] at hd; cases hd
    have hlt : (es0.map V.ref ++ [e].map V.ref).length < sizeLine := lt_line (by rw [List.length_append, List.length_map]; show _ + 1 ≤ 1000; omega)
    have push : ∀ {lv' : Lv} {G' H' : Hp} {k' : Int} {b te : Addr} {oo : V}, At fe H' G' k' → Wk K G' lv' S (n + 1) → Up S lv lv' G G' → lv' b = some (es0.length + 1) → (oo = .non ∨ ∃ b2, oo = .ref b2 ∧ lv' b2 = some (es0.length + 1)) → G' s = some (.lst (es0.map V.ref ++ [e].map V.ref)) → H' te = none → Q .non (upd (upd H' te (.tup [.ref b, oo])) s (.lst ((es0.map V.ref ++ [e].map V.ref) ++ [.ref te]))) := fun {lv' G' H' k' b te oo} A' W' u' hb' ho' hs' hte' => by
      have hte := A'.fre hte'
      have s2 := same_new hte (.tup [.ref b, oo])
      have k2 : (upd G' te (.tup [.ref b, oo])) te = some (.tup [.ref b, oo]) := upd_same
      have A2 := A'.new hte' (.tup [.ref b, oo])
      generalize upd G' te (.tup [.ref b, oo]) = G2, upd H' te (.tup [.ref b, oo]) = H2 at s2 k2 A2 ⊢
      have W2 := W'.same s2
      have u2 := u'.trans (.same s2)
      have hs2 := s2 _ _ hs'
      have EN2 := EntsAt.up ⟨he0, he5, hEn⟩ mL u2
      have en : EntAt G2 lv' (es0 ++ [e]).length te := by
        rw [List.length_append]
        rcases ho' with rfl | ⟨b2, rfl, h2⟩
        · exact .one b k2 hb'
        · exact .two b b2 k2 hb' h2
      have W3 := W2.stk (es := (es0 ++ [e]) ++ [te]) hsS hs2 (ents_snoc EN2.2.2 en (by rw [List.length_append]; show es0.length + 1 < 5; omega))
      rw [List.map_append, List.map_append] at W3
      exact q lv' _ _ _ (A2.put hs2) (u2.trans (.put (.inr hsS) hs2)) W3
    obtain ⟨ow, ho1, ho2, ho3⟩ := hX
    refine ⟨_, rfl, _, rfl, t, _, 1, _, rfl, rfl, SqT.of (A1.rd ho1), rfl, (show 1 ≤ sizeLine by decide), fun x1 hx1 => ?_⟩
    have g2 := same_new (A1.fre hx1) (.lst [.str "nil"])
    have k2 : (upd G x1 (.lst [.str "nil"])) x1 = some (.lst [.str "nil"]) := upd_same
    have A2 := A1.new hx1 (.lst [.str "nil"])
    generalize upd G x1 (.lst [.str "nil"]) = G2, upd H1 x1 (.lst [.str "nil"]) = H2 at g2 k2 A2 ⊢
    refine ⟨ow, x1, _, _, rfl, rfl, A2.rd (g2 _ _ ho2), A2.rd k2, le_line (by have := hok.few; rw [List.length_map]; show _ + 1 ≤ 1000; omega), fun sm hsm => ?_⟩
    have g3' := same_new (A2.fre hsm) (.lst (h0.own.map V.str ++ [.str "nil"]))
    have k3 : (upd G2 sm (.lst (h0.own.map V.str ++ [.str "nil"]))) sm = some (.lst ((h0.own ++ [("nil" : Str)]).map V.str)) := by rw [upd_same, List.map_append]; rfl
    have A3 := A2.new hsm (.lst (h0.own.map V.str ++ [.str "nil"]))
    have g3 := g2.trans g3'
    generalize upd G2 sm (.lst (h0.own.map V.str ++ [.str "nil"])) = G3, upd H2 sm (.lst (h0.own.map V.str ++ [.str "nil"])) = H3 at g3 k3 A3 ⊢
    have hfew := hok.few
    have oks := ok_some fun x hx => hxn x (hok.own x hx)
    refine ⟨fe, sm, k1, _, "fact", rfl, A3.fed, A3.rd k3, (by rw [List.length_append]; exact Nat.succ_pos _), (by rw [List.length_append]; show _ + 1 ≤ 30; omega), fun c r k4 H4 f4 hc hr1' hr2' => ?_⟩
    obtain ⟨A4, g4'⟩ := A3.call f4
    have g4 := g3.trans g4'
    have okc : ∀ y ∈ r, Ok y := ok_fact oks (hr1' rfl)
    generalize wo H4 fe = G4 at A4 g4 hc
    have W4 := W.same g4
    have u4 : Up S lv lv G G4 := .same g4
    clear hr1' hr2' f4 g4' k3 g3' k2
    refine ⟨Nat.zero_le _, fun b hb => ?_⟩
    have hbG := A4.fre hb
    have W5 := W4.add hbG hk
    have u5' : Up S lv (lvAdd lv b (es0.length + 1)) G4 (upd G4 b (.lst [])) := .add hbG (W4.lvfree hbG)
    have u5 := u4.trans u5'
    have i5 : lvAdd lv b (es0.length + 1) b = some (es0.length + 1) := lvAdd_same
    have g5 := same_new hbG (.lst [])
    have A5 := A4.new hb (.lst [])
    have hc5 := g5 _ _ hc
    have hs5 := g5 _ _ (g4 _ _ hes)
    have o5 := (W4.backA (k := es0.length + 1) hbG).orph (W4.orph hbG)
    have b5 : (upd G4 b (.lst [])) b = some (.lst []) := upd_same
    generalize lvAdd lv b (es0.length + 1) = lv5, upd G4 b (.lst []) = G5, upd H4 b (.lst []) = H5 at W5 u5 i5 hc5 hs5 A5 o5 b5 ⊢
    clear u5' g5 hbG
    have hd5 := u5.inc _ _ hd
    obtain ⟨ow', ho1', ho2', ho3'⟩ := HeadX.upM (h := h0) ⟨ow, ho1, ho2, ho3⟩ mL u5
    dsimp only [gName]
    refine seq_hide (a := tAsg _ _) fun D0 hN0 hR0 hC0 => hN0 _ _ ?_
    refine seq_hide (a := tIfS _ _ _) fun D1 hN1 hR1 hC1 => ?_
    have rest : ∀ {lv' : Lv} {G' H' : Hp} {k' : Int} {oo : V}, At fe H' G' k' → Wk K G' lv' S (n + 1) → Up S lv lv' G G' → lv' b = some (es0.length + 1) → (oo = .non ∨ ∃ b2, oo = .ref b2 ∧ lv' b2 = some (es0.length + 1)) → G' s = some (.lst (es0.map V.ref ++ [e].map V.ref)) → D1.nx [some (.ref s), some (.ref fe), some (.ref t), some (.ref hl), some (.ref d), some o, some (.int way), some (.ref c), some (.ref b), some oo] H' := fun {lv' G' H' k' oo} A' W' u' hb' ho' hs' => by
      refine hN1 _ _ ?_
      exact ⟨_, rfl, (.inl ⟨rfl, _, SqL.of (A'.rd hs')⟩), _, rfl, _, rfl, (show 2 ≤ sizeLine by decide), fun te hte => ⟨s, _, _, rfl, rfl, same_new hte _ _ _ (A'.rd hs'), hlt, push A' W' u' hb' ho' hs' hte⟩⟩
    clear hN1 hR1 hC1
    refine ⟨_, rfl, rfl, _, rfl, iteB (fun _ => ?_) (fun _ => ?_)⟩
    · refine ⟨Nat.zero_le _, fun b2 hb2 => ?_⟩
      have hbG := A5.fre hb2
      have W6 := W5.add hbG hk
      have u6' : Up S lv5 (lvAdd lv5 b2 (es0.length + 1)) G5 (upd G5 b2 (.lst [])) := .add hbG (W5.lvfree hbG)
      have u6 := u5.trans u6'
      have i6 : lvAdd lv5 b2 (es0.length + 1) b2 = some (es0.length + 1) := lvAdd_same
      have g6 := same_new hbG (.lst [])
      have A6 := A5.new hb2 (.lst [])
      have hc6 := g6 _ _ hc5
      have hs6 := g6 _ _ hs5
      have B6 := W5.backA (k := es0.length + 1) hbG
      have o6 := B6.orph (W5.orph hbG)
      have o5' := B6.orph o5
      have nb := ne_of_none b5 hbG
      clear B6
      generalize lvAdd lv5 b2 (es0.length + 1) = lv6, upd G5 b2 (.lst []) = G6, upd H5 b2 (.lst []) = H6 at W6 u6 u6' i6 hc6 hs6 A6 o6 o5' ⊢
      have i5' := u6'.inc _ _ i5
      have hd6 := u6.inc _ _ hd
      obtain ⟨ts2, hd2, hn2, _⟩ := W6.lists _ _ hd6
      refine ⟨_, rfl, (.inl ⟨rfl, _, SqL.of (A6.rd hd2)⟩), _, rfl, _, rfl, _, rfl, (show 4 ≤ sizeLine by decide), fun dt hdt => ?_⟩
      have s7 := same_new (A6.fre hdt) (.tup [.str "if", .ref c, .ref b, .ref b2])
      have k7 : (upd G6 dt (.tup [.str "if", .ref c, .ref b, .ref b2])) dt = some (.tup [.str "if", .ref c, .ref b, .ref b2]) := upd_same
      have A7 := A6.new hdt (.tup [.str "if", .ref c, .ref b, .ref b2])
      generalize upd G6 dt (.tup [.str "if", .ref c, .ref b, .ref b2]) = G7, upd H6 dt (.tup [.str "if", .ref c, .ref b, .ref b2]) = H7 at s7 k7 A7 ⊢
      have hd7 := s7 _ _ hd2
      refine ⟨d, _, _, rfl, rfl, A7.rd hd7, lt_line (by rw [List.length_map]; omega), ?_⟩
      exact rest (A7.put hd7) ((W6.same s7).put hd6 hd7 (.cond c b b2 r k7 (s7 _ _ hc6) okc i5' i6) (orph_if k7 nb ((W6.backS s7).orph o5') ((W6.backS s7).orph o6))) ((u6.trans (.same s7)).trans (.put (.inl ⟨_, hd6⟩) hd7)) i5' (.inr ⟨b2, rfl, i6⟩) (by rw [upd_ne hsd]; exact s7 _ _ hs6)
    · obtain ⟨ts2, hd2, hn2, _⟩ := W5.lists _ _ hd5
      have ho2H := A5.rd ho2'
      refine ⟨_, rfl, (.inl ⟨rfl, _, SqL.of (A5.rd hd2)⟩), _, rfl, _, rfl, _, rfl, t, _, 1, _, rfl, rfl, SqT.of (A5.rd ho1'), rfl, fe, ow', _, h0.own, 1, rfl, A5.fed, ho2H, A5.ne ho2', Nat.le_trans hok.few (by decide), by decide, fun td fa pa F P' k6 H6 f6 N => ?_⟩
      obtain ⟨A6, g6⟩ := A5.call f6
      rw [A5.g] at N
      generalize wo H6 fe = G6 at A6 g6 N
      refine ⟨_, rfl, (show 4 ≤ sizeLine by decide), fun dt hdt => ?_⟩
      have s7 := same_new (A6.fre hdt) (.tup [.str "while", .ref c, .ref td, .ref b])
      have k7 : (upd G6 dt (.tup [.str "while", .ref c, .ref td, .ref b])) dt = some (.tup [.str "while", .ref c, .ref td, .ref b]) := upd_same
      have A7 := A6.new hdt (.tup [.str "while", .ref c, .ref td, .ref b])
      generalize upd G6 dt (.tup [.str "while", .ref c, .ref td, .ref b]) = G7, upd H6 dt (.tup [.str "while", .ref c, .ref td, .ref b]) = H7 at s7 k7 A7 ⊢
      have g7 := g6.trans s7
      have hd7 := g7 _ _ hd2
      refine ⟨d, _, _, rfl, rfl, A7.rd hd7, lt_line (by rw [List.length_map]; omega), ?_⟩
      have nm : ∀ x, G5 x = none → ¬ Mt lv5 S x := fun x hx z => by
        obtain ⟨us, hu⟩ := W5.mt _ z
        rw [hx] at hu; cases hu
      exact rest (A7.put hd7) ((W5.same g7).put hd5 hd7 (.loop c td b fa pa r F P' k7 (g7 _ _ hc5) okc (s7 _ _ N.tup) (N.facts.same s7) (N.parts.same s7) (nm _ N.nf) (nm _ N.np) (fun r hr => ok_fact oks (N.okF r hr)) (fun r hr => ok_part oks (N.okP r hr)) (Nat.le_trans N.lf (by decide)) (Nat.le_trans N.lp (by decide)) i5) (orph_while k7 ((W5.backS g7).orph o5))) ((u5.trans (.same g7)).trans (.put (.inl ⟨_, hd5⟩) hd7)) i5 (.inl rfl) (by rw [upd_ne hsd]; exact g7 _ _ hs5)
  · obtain ⟨ow, ho1, ho2, ho3⟩ := hX
    rw [← A1.g] at ho1 ho2
    refine ⟨_, rfl, (.inl ⟨rfl, _, SqL.of (A1.rd hdl)⟩), _, rfl, _, rfl, _, rfl, fe, t, hl, k1, Mt lv S, h0, hs, xs, rfl, A1.fed, ⟨ow, ho1, ho2, ho3⟩, hok, by rw [A1.g]; exact hH.at, hs0, hs4, hsok, hxn, fun pt p k2 H2 f2 hp hpo => ?_⟩
    obtain ⟨A2, g2⟩ := A1.call f2
    exact ⟨d, _, _, rfl, rfl, A2.rd (g2 _ _ hdl), lt_line (by rw [List.length_map]; omega), q lv _ _ _ (A2.put (g2 _ _ hdl)) ((Up.same g2).trans (.put (.inl ⟨_, hd⟩) (g2 _ _ hdl))) ((W.same g2).put hd (g2 _ _ hdl) (.plain p hp hpo) fun b s z => absurd z (inn_plain hp hpo))⟩
end
end K43
namespace L2
open PySem PySem.Spec
structure AtP (p : Addr) (H G : Hp) (us : List V) : Prop where
  at' : H p = some (.lst us)
  g : wo H p = G
variable {p : Addr} {H G H' : Hp} {us : List V}
theorem AtP.app {us' : List V} (h : AtP p H G us) : AtP p (upd H p (.lst us')) G us' := ⟨upd_same, by rw [wo_upd]; exact h.g⟩
theorem AtP.fre (h : AtP p H G us) {b : Addr} (hb : H b = none) : G b = none := by
  rw [← h.g]; unfold wo; split
  · rfl
  · exact hb
theorem AtP.rd (h : AtP p H G us) {b : Addr} {o : HO} (hb : G b = some o) : H b = some o := wo_back _ _ (by rw [h.g]; exact hb)
theorem AtP.ne (h : AtP p H G us) {b : Addr} {o : HO} (hb : G b = some o) : b ≠ p := fun z => by
  rw [← h.g, z, wo_self] at hb; cases hb
theorem AtP.same (h : AtP p H G us) (e : Same H H') : AtP p H' (wo H' p) us ∧ Same G (wo H' p) := ⟨⟨e _ _ h.at', rfl⟩, fun b o hb => by rw [wo_ne (h.ne hb)]; exact e _ _ (h.rd hb)⟩
theorem AtP.tup (h : AtP p H G us) {t : Addr} {vs : List V} (ht : H t = some (.tup vs)) : G t = some (.tup vs) := by
  rw [← h.g, wo_ne (fun z => by rw [z, h.at'] at ht; cases ht)]; exact ht
theorem AtP.new (h : AtP p H G us) {b : Addr} (hb : H b = none) (o : HO) : AtP p (upd H b o) (upd G b o) us :=
  ⟨by rw [upd_ne (ne_of_none h.at' hb)]; exact h.at', by rw [wo_put (ne_of_none h.at' hb).symm, h.g]⟩
theorem AtP.sqT (h : AtP p H G us) {K : PySem.W.Frag} {t : Addr} {vs : List V} (ht : SqT K H t vs) : SqT K G t vs := by
  rcases ht with (z | ⟨o, z⟩) | z
  · exact .inl (.inl (h.tup z))
  · exact .inl (.inr ⟨o, by rw [← h.g, wo_ne (fun y => by rw [y, h.at'] at z; cases z)]; exact z⟩)
  · exact .inr z
theorem AtP.rows (h : AtP p H G us) {K : PySem.W.Frag} {t : Addr} {rs : List (List Str)} (n : t ≠ p) (ht : RowsAt K H t rs) : RowsAt K G t rs := by
  obtain ⟨as, h1, h2⟩ := ht
  exact ⟨as, by rw [← h.g, wo_ne n]; exact h1, Paired.mapP h2 fun _ _ z => h.sqT z⟩
end L2
namespace K43
open PySem PySem.Spec L2 Mir
noncomputable abbrev sAnyProg : Stmt := top 21
noncomputable abbrev sProg : Stmt := top 22
theorem qg_tup4 {X : Cx} {i j l m : Nat} {x y z u : Str} {px py pz pu pos : Pos} {k : Nat} (h1 : QG X (.Name x px) (gName i)) (h2 : QG X (.Name y py) (gName j)) (h3 : QG X (.Name z pz) (gName l)) (h4 : QG X (.Name u pu) (gName m)) (hc : X.calm = true := by rfl)
    (a1 : (assignEach [.Name x px, .Name y py, .Name z pz, .Name u pu] X.env).map (·.2) = assign (.Name x px) X.env :: (assignEach [.Name y py, .Name z pz, .Name u pu] X.env).map (·.2) := by rfl)
    (a2 : (assignEach [.Name y py, .Name z pz, .Name u pu] X.env).map (·.2) = assign (.Name y py) X.env :: (assignEach [.Name z pz, .Name u pu] X.env).map (·.2) := by rfl)
    (a3 : (assignEach [.Name z pz, .Name u pu] X.env).map (·.2) = assign (.Name z pz) X.env :: (assignEach [.Name u pu] X.env).map (·.2) := by rfl)
    (a4 : (assignEach [.Name u pu] X.env).map (·.2) = assign (.Name u pu) X.env :: (assignEach [] X.env).map (·.2) := by rfl)
    (hn : (assignEach [.Name x px, .Name y py, .Name z pz, .Name u pu] X.env).length = 4 := by rfl) (hst : (assignEach [.Name x px, .Name y py, .Name z pz, .Name u pu] X.env).findIdx? (·.1) = none := by rfl) : QG X (.Tuple [.Name x px, .Name y py, .Name z pz, .Name u pu] k pos) (gTup X.K 4 (gCons (gName i) (gCons (gName j) (gCons (gName l) (gCons (gName m) gNil))))) :=
  ⟨pg_tup hc (pgs_cons h1.run (pgs_cons h2.run (pgs_cons h3.run (pgs_cons h4.run pgs_nil a4) a3) a2) a1) hn hst⟩
open Classical in
noncomputable def lv0 (bs : List Addr) : Lv := fun a => if a ∈ bs then some 0 else none
theorem lv0_in {bs : List Addr} {a : Addr} (h : a ∈ bs) : lv0 bs a = some 0 := by unfold lv0; rw [if_pos h]
theorem lv0_of {bs : List Addr} {a : Addr} {k : Nat} (h : lv0 bs a = some k) : a ∈ bs ∧ k = 0 := by
  unfold lv0 at h
  by_cases c : a ∈ bs
  · rw [if_pos c] at h; cases h; exact ⟨c, rfl⟩
  · rw [if_neg c] at h; cases h
theorem wk_start {K : PySem.W.Frag} {H : Hp} {bs ss : List Addr} (hb : ∀ b ∈ bs, H b = some (.lst [])) (hs : ∀ s ∈ ss, ∃ e b, H s = some (.lst [.ref e]) ∧ H e = some (.tup [.ref b, .non]) ∧ b ∈ bs) : Wk K H (lv0 bs) ss 0 := by
  have no : ∀ a i t, ¬ Psn H (lv0 bs) a i t := fun a i t z => by
    obtain ⟨k, ts, h1, h2, h3⟩ := z
    rw [hb a (lv0_of h1).1] at h2
    cases ts with
    | nil => cases h3
    | cons x l => cases h2
  refine ⟨fun a k z => ?_, fun a k z => ?_, fun s hs' => ?_, fun s hs' => ?_, ⟨fun _ => 0, Nat.le_refl _, fun a k ts z y => ?_⟩, fun a i t s a' i' t' s' b h => absurd h (no _ _ _), ⟨fun _ _ => 0, fun a i t h => absurd h (no _ _ _), fun a i t a' i' t' h => absurd h (no _ _ _)⟩⟩
  · obtain ⟨_, rfl⟩ := lv0_of z; exact Nat.zero_le _
  · obtain ⟨h, rfl⟩ := lv0_of z; exact ⟨[], hb a h, Nat.zero_le _, fun t ht => by cases ht⟩
  · obtain ⟨e, b, h1, h2, h3⟩ := hs s hs'
    refine ⟨[e], h1, Nat.one_pos, (show 1 ≤ 5 by decide), fun i x hx => ?_⟩
    cases i with
    | zero => cases hx; exact .one b h2 (lv0_in h3)
    | succ j => cases hx
  · obtain ⟨e, b, h1, h2, h3⟩ := hs s hs'
    cases q : lv0 bs s with
    | none => rfl
    | some k => rw [hb s (lv0_of q).1] at h1; cases h1
  · rw [hb a (lv0_of z).1] at y
    cases ts with
    | nil => exact Nat.le_refl _
    | cons x l => cases y
inductive ToldX (K : PySem.W.Frag) (H : Hp) (M : Addr → Prop) (t : Addr) : Prop
  | mk (fa pa : Addr) (F P : List (List Str)) (ht : H t = some (.tup [.ref fa, .ref pa])) (hF : RowsAt K H fa F) (hP : RowsAt K H pa P) (nF : ¬ M fa) (nP : ¬ M pa) (okF : ∀ r ∈ F, ∀ y ∈ r, Ok y) (okP : ∀ r ∈ P, ∀ y ∈ r, Ok y) (lF : F.length ≤ 10) (lP : P.length ≤ 10)
inductive ProcAt (K : PySem.W.Frag) (H : Hp) (lv : Lv) (S : List Addr) (t : Addr) : Prop
  | mk (nm rs : Str) (ps : List Str) (pt t1 t2 bd : Addr) (h : H t = some (.tup [.str nm, .ref pt, .str rs, .ref t1, .ref t2, .ref bd])) (hp : H pt = some (.tup (ps.map V.str))) (h1 : ToldX K H (Mt lv S) t1) (h2 : ToldX K H (Mt lv S) t2) (hb : lv bd = some 0) (okn : Ok nm) (okr : Ok rs) (okp : ∀ y ∈ ps, Ok y)
theorem ToldX.same {K : PySem.W.Frag} {H H' : Hp} {M : Addr → Prop} {t : Addr} (h : ToldX K H M t) (e : Same H H') : ToldX K H' M t := by
  obtain ⟨fa, pa, F, P, ht, hF, hP, h1, h2, h3, h4, h5, h6⟩ := h
  exact ⟨fa, pa, F, P, e _ _ ht, hF.same e, hP.same e, h1, h2, h3, h4, h5, h6⟩
theorem ProcAt.same {K : PySem.W.Frag} {H H' : Hp} {lv : Lv} {S : List Addr} {t : Addr} (h : ProcAt K H lv S t) (e : Same H H') : ProcAt K H' lv S t := by
  obtain ⟨nm, rs, ps, pt, t1, t2, bd, h, hp, h1, h2, hb, o1, o2, o3⟩ := h
  exact ⟨nm, rs, ps, pt, t1, t2, bd, e _ _ h, e _ _ hp, h1.same e, h2.same e, hb, o1, o2, o3⟩
structure Prog (K : PySem.W.Frag) (H H' : Hp) (pl : Addr) (ts : List Addr) (lv : Lv) (S : List Addr) : Prop where
  e : Same H H'
  list : H' pl = some (.lst (ts.map V.ref))
  wk : Wk K H' lv S 24
  procs : ∀ t ∈ ts, ProcAt K H' lv S t
  few : ts.length ≤ 4
inductive spProg (K : PySem.W.Frag) (vs : List V) (H : Hp) (Q : VK) (E : XK) : Prop
  | mk (a : Addr) (ns : List Int) (h0 : vs = [.ref a]) (h1 : SqL K H a (ns.map V.int)) (q : ∀ pl ts lv S H', Prog K H H' pl ts lv S → Q (.ref pl) H') : spProg K vs H Q E
theorem Up.sqL {S : List Addr} {lv lv' : Lv} {H H' : Hp} (u : Up S lv lv' H H') (m : MtL H lv S) {K : PySem.W.Frag} {a : Addr} {vs : List V} (n : ¬ Mt lv S a) (h : SqL K H a vs) : SqL K H' a vs := by
  rcases h with (h | ⟨o, h⟩) | h
  · exact .inl (.inl (u.keep _ _ h n))
  · exact .inl (.inr ⟨o, u.frz m h⟩)
  · exact .inr h
theorem cut_takeV (xs : List V) (n : Nat) : cutV xs none (some (n : Int)) = xs.take n := by
  unfold cutV
  rw [HT.sIx_nat, show HT.sIx xs.length 0 none = 0 from rfl, List.drop_zero, Nat.sub_zero]
  by_cases h : n ≤ xs.length
  · rw [Nat.min_eq_left h]
  · rw [Nat.min_eq_right (by omega), List.take_length, List.take_of_length_le (by omega)]
theorem paired_refs {α : Type} {R : Addr → α → Prop} : ∀ {ys : List V} {rs : List α}, Paired (fun y r => ∃ b, y = V.ref b ∧ R b r) ys rs → ∃ bs : List Addr, ys = bs.map V.ref ∧ Paired R bs rs
  | _, _, .nil => ⟨[], rfl, .nil⟩
  | _, _, .cons h t => by
    obtain ⟨b, rfl, hb⟩ := h
    obtain ⟨bs, rfl, hp⟩ := paired_refs t
    exact ⟨b :: bs, rfl, .cons hb hp⟩
theorem Paired.memL {α β : Type} {R : α → β → Prop} {l₁ : List α} {l₂ : List β} (h : Paired R l₁ l₂) {a : α} (ha : a ∈ l₁) : ∃ b ∈ l₂, R a b := by
  obtain ⟨i, hi⟩ := List.getElem?_of_mem ha
  obtain ⟨b, hb, r⟩ := Paired.nth h hi
  exact ⟨b, List.mem_of_getElem? hb, r⟩
structure Set0 (K : PySem.W.Frag) (H0 H2 : Hp) (hl bl sl : Addr) (hs : List Hd) (bs ss : List Addr) : Prop where
  e : Same H0 H2
  wk : Wk K H2 (lv0 bs) ss 0
  heads : HeadsM (Mt (lv0 bs) ss) H2 hl hs
  atB : H2 bl = some (.lst (bs.map V.ref))
  nbl : ¬ Mt (lv0 bs) ss bl
  atS : H2 sl = some (.lst (ss.map V.ref))
  nsl : ¬ Mt (lv0 bs) ss sl
  lb : bs.length = hs.length
  ls : ss.length = hs.length
  old : ∀ b o, H0 b = some o → ¬ Mt (lv0 bs) ss b
inductive PI (K : PySem.W.Frag) (H3 : Hp) (a hl bl sl : Addr) (bs ss : List Addr) (i : Nat) (σ : St) (H4 : Hp) : Prop
  | mk (lv : Lv) (z4 z5 z6 z7 : Option V) (u : Up ss (lv0 bs) lv H3 H4) (W : Wk K H4 lv ss i) (hσ : σ = [some (.ref a), some (.ref hl), some (.ref bl), some (.ref sl), z4, z5, z6, z7, none, none, none, none, none, none, none])
inductive PJ (K : PySem.W.Frag) (G5 : Hp) (a hl bl sl pl : Addr) (lv : Lv) (ss : List Addr) (z5 z6 z7 : Option V) (i : Nat) (σ : St) (H6 : Hp) : Prop
  | mk (G : Hp) (ts : List Addr) (z4 z9 z10 z11 z12 z13 z14 : Option V) (A : AtP pl H6 G (ts.map V.ref)) (e : Same G5 G) (pr : ∀ t ∈ ts, ProcAt K G lv ss t) (hi : ts.length = i) (hσ : σ = [some (.ref a), some (.ref hl), some (.ref bl), some (.ref sl), z4, z5, z6, z7, some (.ref pl), z9, z10, z11, z12, z13, z14])
theorem pick {l : List Addr} {k : Nat} (h : k < l.length) : ∃ b, l[k]? = some b ∧ atI (l.map V.ref) (k : Int) = some (.ref b) ∧ b ∈ l :=
  ⟨l[k], List.getElem?_eq_getElem h, atI_nat (by rw [List.getElem?_map, List.getElem?_eq_getElem h]; rfl), List.getElem_mem _⟩
noncomputable def RB (H1 : Hp) (D : Addr) (H : Hp) (b : Addr) (r : Addr) : Prop := H b = some (.lst []) ∧ b ≠ D ∧ H1 b = none
noncomputable def RS (H1 : Hp) (D : Addr) (H : Hp) (s : Addr) (r : Addr) : Prop := ∃ e, H s = some (.lst [.ref e]) ∧ H e = some (.tup [.ref r, .non]) ∧ s ≠ D ∧ e ≠ D ∧ H1 s = none
theorem set0 {K : PySem.W.Frag} {H0 H1 H2 H3 : Hp} {hl bl sl : Addr} {hs : List Hd} {ts bs ss : List Addr} (e1 : Same H0 H1) (e2 : Same H1 H2) (e3 : Same H2 H3) (hh : HeadsAt H1 hl hs) (hp : 0 < hs.length) (hts : ts.length = hs.length) (hb : H2 bl = some (.lst (bs.map V.ref))) (pb : Paired (RB H1 bl H2) bs ts) (hsl : H3 sl = some (.lst (ss.map V.ref))) (ps : Paired (RS H2 sl H3) ss bs) : Set0 K H0 H3 hl bl sl hs bs ss := by
  have lb : bs.length = hs.length := (Paired.length pb).trans hts
  have ls : ss.length = hs.length := (Paired.length ps).trans lb
  have hbs : ∀ b ∈ bs, H2 b = some (.lst []) ∧ H1 b = none := fun b hb' => by
    obtain ⟨r, _, h1, _, h3⟩ := Paired.memL pb hb'; exact ⟨h1, h3⟩
  have hss : ∀ s ∈ ss, ∃ e b, H3 s = some (.lst [.ref e]) ∧ H3 e = some (.tup [.ref b, .non]) ∧ b ∈ bs ∧ H2 s = none := fun s hs' => by
    obtain ⟨r, hr, e, h1, h2, _, _, h5⟩ := Paired.memL ps hs'; exact ⟨e, r, h1, h2, hr, h5⟩
  have nb : ∀ b ∈ bs, b ≠ bl := fun b hb' z => by
    have := (hbs b hb').1
    rw [z, hb] at this
    cases bs with
    | nil => cases hb'
    | cons x l => cases this
  have fre : ∀ b o, H1 b = some o → ¬ Mt (lv0 bs) ss b := fun b o h => by
    rintro (⟨k, z⟩ | z)
    · have := (hbs b (lv0_of z).1).2; rw [this] at h; cases h
    · obtain ⟨_, _, _, _, _, q⟩ := hss b z
      have := e2.free q; rw [this] at h; cases h
  have nsl : ¬ Mt (lv0 bs) ss sl := by
    rintro (⟨k, z⟩ | z)
    · have := e3 _ _ (hbs sl (lv0_of z).1).1
      rw [hsl] at this
      have hz : ss = [] := by cases ss with
        | nil => rfl
        | cons x l => cases this
      rw [hz] at ls; rw [← ls] at hp; cases hp
    · obtain ⟨e, b, h1, h2, _, _⟩ := hss sl z
      rw [hsl] at h1
      cases ss with
      | nil => cases z
      | cons x l =>
        cases l with
        | cons y l' => cases h1
        | nil =>
          injection h1 with h1; injection h1 with h1; injection h1 with h1 _; injection h1 with h1
          subst h1
          rw [List.mem_singleton.mp z] at hsl
          rw [hsl] at h2; cases h2
  refine ⟨(e1.trans e2).trans e3, wk_start (fun b hb' => e3 _ _ (hbs b hb').1) (fun s hs' => by obtain ⟨e, b, h1, h2, h3, _⟩ := hss s hs'; exact ⟨e, b, h1, h2, h3⟩), ?_, e3 _ _ hb, ?_, hsl, nsl, lb, ls, fun b o h => fre b o (e1 _ _ h)⟩
  · obtain ⟨ts', h1, h2⟩ := hh
    refine ⟨fre _ _ h1, ts', e3 _ _ (e2 _ _ h1), Paired.mapP h2 fun t h z => ?_⟩
    obtain ⟨ow, z1, z2, z3⟩ := z
    exact ⟨ow, e3 _ _ (e2 _ _ z1), e3 _ _ (e2 _ _ z2), fun y => y.elim z3 (fre _ _ z2)⟩
  · rintro (⟨k, z⟩ | z)
    · exact nb bl (lv0_of z).1 rfl
    · obtain ⟨_, _, _, _, _, q⟩ := hss bl z
      rw [hb] at q; cases q
section
variable {P : Program} {w : World} {K : PySem.W.Frag} {mg : Str → Option Value} {base : Heap} {f gA gC gH gP gT : Addr} {fd dA dC dH dP dT : FuncData}
theorem scProg : FnScope ["_law_script", "_law_heads_here", "_law_bodies", "_law_stacks", "_law_k", "_law_cell", "_law_mixed", "_law_h", "_law_program_here", "_law_name", "_law_own", "_law_params", "_law_result", "_law_before", "_law_behind"] ["_law_script"] (defScope sProg) := ⟨rfl, rfl, rfl, by decide +kernel, rfl, by decide +kernel, by decide +kernel⟩
theorem ok_prog (C : Con K mg w) (F : Fun K "_law_program" "_law_program" sProg f fd) (GA : FnOk P w K mg base CX0 5 gA dA ["_law_script"] (spProg K)) (cA : Cal K mg "_law_any_program" gA dA ["_law_script"]) (GC : FnOk P w K mg base CX0 1 gC dC ["_law_script", "_law_k"] (spCell K)) (cC : Cal K mg "_law_cell_at" gC dC ["_law_script", "_law_k"])
    (GH : FnOk P w K mg base CX0 3 gH dH ["_law_script"] (spHeads K)) (cH : Cal K mg "_law_heads" gH dH ["_law_script"]) (GP : FnOk P w K mg base CX0 2 gP dP ["_law_open_lists", "_law_cell", "_law_mixed", "_law_head", "_law_heads_here"] (spPut K)) (cP : Cal K mg "_law_put" gP dP ["_law_open_lists", "_law_cell", "_law_mixed", "_law_head", "_law_heads_here"]) (GT : FnOk P w K mg base CX0 1 gT dT ["_law_cell", "_law_names_here"] (spTold K)) (cT : Cal K mg "_law_told" gT dT ["_law_cell", "_law_names_here"]) : FnOk P w K mg base CX0 6 f fd ["_law_script"] (spProg K) := by
  refine F.okQ scProg (fun vs H Q E h => ?_) (fun cdv A outer s0 H vs Q E hr h => ?_)
  · obtain ⟨a, ns, rfl, _⟩ := h; rfl
  obtain ⟨a, ns, rfl, hS, q⟩ := h
  have nd := scProg.nd
  have hr1 := hr.mono (j := 1) (by omega)
  have hr2 := hr.mono (j := 2) (by omega)
  have hr3 := hr.mono (j := 3) (by omega)
  refine ⟨_, qb_cons (qs_if (qt_cmpR op_eq (qe_op op_mod (qe_call GC hr1 rfl cC.name cC.keep cC.bind .nil pass0 (qa_nm (qv 0) (qa_int qa_nil))) qe_int) qe_int (nomark _)) (qb_one (qs_ret (qe_call GA hr rfl cA.name cA.keep cA.bind .nil pass0 (qa_nm (qv 0) qa_nil)))) qb_nil)
    (qb_cons (qs_set (i := 1) nd rfl (Or.inl rfl) (qe_call GH hr3 rfl cH.name cH.keep cH.bind .nil pass0 (qa_nm (qv 0) qa_nil)))
    (qb_cons (qs_setCG ["_law_head"] [] (i := 2) nd rfl (Or.inl rfl) (qi_list (qv 1)) (fun _ _ _ _ => qts_nil) (fun _ _ _ _ => (qe_lst qa_nil)))
    (qb_cons (qs_setCG ["_law_body"] [] (i := 3) nd rfl (Or.inl rfl) (qi_list (qv 2)) (fun _ _ _ _ => qts_nil) (fun _ _ _ _ => (qe_lst (qa_tp (qa_nm (qv 0) (qa_cons qe_non qa_nil)) qa_nil))))
    (qb_cons (qs_for PassesOwn.never rfl (qi_range1 rfl C.range (qa_call (qe_callB (call_min2 rfl) rfl C.min PyProof.Rows.Boot.min (qa_int (qa_call (qe_callB (call_max2 rfl) rfl C.max PyProof.Rows.Boot.max (qa_int (qa_bop (qe_op op_sub (qe_callB call_len_seq rfl C.len PySem.boot_len (qa_nm (qv 0) qa_nil)) qe_int) qa_nil))) qa_nil))) qa_nil)) (qg_name (i := 4) nd rfl (Or.inl rfl)) (qb_cons (qs_set (i := 5) nd rfl (Or.inl rfl) (qe_call GC hr1 rfl cC.name cC.keep cC.bind .nil pass0 (qa_nm (qv 0) (qa_bop (qe_op op_add qe_int (qv 4)) qa_nil))))
    (qb_cons (qs_set (i := 6) nd rfl (Or.inl rfl) (qe_op op_mod (qe_op op_mul (qe_op op_add (qe_call GC hr1 rfl cC.name cC.keep cC.bind .nil pass0 (qa_nm (qv 0) (qa_bop (qe_op op_add qe_int (qv 4)) qa_nil))) (qe_op op_fdiv (qv 5) qe_int)) qe_int) qe_int))
    (qb_cons (qs_set (i := 7) nd rfl (Or.inl rfl) (qe_op op_mod (qv 5) (qe_callB call_len_seq rfl C.len PySem.boot_len (qa_nm (qv 1) qa_nil))))
    (qb_one (qs_expr (qe_call GP hr2 rfl cP.name cP.keep cP.bind .nil pass0 (qa_sub (qe_ix ix_list (qv 3) (qv 7) (fun _ _ => rfl)) (qa_nm (qv 5) (qa_nm (qv 6) (qa_sub (qe_ix ix_list (qv 1) (qv 7) (fun _ _ => rfl)) (qa_nm (qv 1) qa_nil))))))))))))
    (qb_cons (qs_set (i := 8) nd rfl (Or.inl rfl) (qe_lst qa_nil))
    (qb_cons (qs_for PassesOwn.never rfl (qi_range1 rfl C.range (qa_call (qe_callB call_len_seq rfl C.len PySem.boot_len (qa_nm (qv 1) qa_nil)) qa_nil)) (qg_name (i := 4) nd rfl (Or.inl rfl)) (qb_cons (qs_asg (qe_ix ix_list (qv 1) (qv 4) (fun _ _ => rfl)) (qg_tup4 (qg_name (i := 9) nd rfl (Or.inl rfl)) (qg_name (i := 10) nd rfl (Or.inl rfl)) (qg_name (i := 11) nd rfl (Or.inl rfl)) (qg_name (i := 12) nd rfl (Or.inl rfl))))
    (qb_cons (qs_set (i := 13) nd rfl (Or.inl rfl) (qe_call GT hr1 rfl cT.name cT.keep cT.bind .nil pass0 (qa_bop (qe_op op_fdiv (qe_call GC hr1 rfl cC.name cC.keep cC.bind .nil pass0 (qa_nm (qv 0) (qa_int qa_nil))) (qe_op op_add (qv 4) qe_int)) (qa_sub (qe_slice sl_list (qv 10) qo_none (qo_some (qv 11))) qa_nil))))
    (qb_cons (qs_set (i := 14) nd rfl (Or.inl rfl) (qe_call GT hr1 rfl cT.name cT.keep cT.bind .nil pass0 (qa_bop (qe_op op_fdiv (qe_call GC hr1 rfl cC.name cC.keep cC.bind .nil pass0 (qa_nm (qv 0) (qa_int qa_nil))) (qe_op op_add (qv 4) qe_int)) (qa_bop (qe_op op_cat (qe_slice sl_list (qv 10) qo_none (qo_some (qv 11))) (qe_comp0 (qi_list (qe_lst (qa_nm (qv 12) qa_nil))) (fun _ _ _ _ => (qts_one (qt_cmpR op_ne (qv 0) qe_str (nomark _)))) (fun _ _ _ _ => (qv 0)))) qa_nil))))
    (qb_one (qs_expr (qe_bmK (K := K) rfl PySem.F.plainAttrs_list PySem.F.slot_list_append PySem.F.type_list_append mt_append (qv 8) (qa_tp (qa_nm (qv 9) (qa_call (qe_callTy call_tuple_of rfl C.tuple PyProof.Rows.boot_tuple (qa_sub (qe_slice sl_list (qv 10) qo_none (qo_some (qv 11))) qa_nil)) (qa_nm (qv 12) (qa_nm (qv 13) (qa_nm (qv 14) (qa_sub (qe_ix ix_list (qv 2) (qv 4) (fun _ _ => rfl)) qa_nil)))))) qa_nil))))))))
    (qb_one (qs_ret (qv 8))))))))), ?_⟩
  refine ⟨_, rfl, a, ns, 1, rfl, hS, _, _, rfl, rfl, (show (0 : Int) < 2 by decide), rfl, _, rfl, iteB (fun _ => ⟨_, rfl, a, ns, rfl, hS, q⟩) (fun _ => ?_)⟩
  refine ⟨_, rfl, a, ns, rfl, hS, fun hl hs xs H1 e1 hhl hH hs0 hs4 hxn hsok => ?_⟩
  obtain ⟨ts, hts, hpp⟩ := hH
  have htl := Paired.length hpp
  refine ⟨_, rfl, hl, rfl, ⟨_, SqL.of hts⟩, ?_⟩
  refine comp_pos (ts.map V.ref) ts (fun D H y r => ∃ b, y = V.ref b ∧ RB H1 D H b r) id jseq_list (SqL.of hts) (by rw [List.length_map]; omega) (by rw [List.length_map]) (fun D G G' y r z e => ?_) (fun D i x r hx hr' H2 e2 hD Q' q' => ?_) (fun bl H2 ys hbl e2 hbl2 hp => ?_)
  · obtain ⟨b, rfl, h1, h2, h3⟩ := z
    exact ⟨b, rfl, e _ _ h1 h2, h2, h3⟩
  · exact ⟨Nat.zero_le _, fun b hb => q' (.ref b) _ (same_new hb _) ⟨b, rfl, upd_same, (fun z => hD (by rw [← z]; exact hb)), e2.free hb⟩⟩
  rw [List.map_id] at hp
  obtain ⟨bs, rfl, pb⟩ := paired_refs hp
  have hbl' := Paired.length pb
  refine ⟨_, rfl, bl, rfl, ⟨_, SqL.of hbl2⟩, ?_⟩
  refine comp_pos (bs.map V.ref) bs (fun D H y r => ∃ b, y = V.ref b ∧ RS H2 D H b r) id jseq_list (SqL.of hbl2) (by rw [List.length_map]; omega) (by rw [List.length_map]) (fun D G G' y r z e => ?_) (fun D i x r hx hr' H3 e3 hD Q' q' => ?_) (fun sl H3 ys hsl e3 hsl3 hp => ?_)
  · obtain ⟨b, rfl, e', h1, h2, h3, h4, h5⟩ := z
    exact ⟨b, rfl, e', e _ _ h1 h3, e _ _ h2 h4, h3, h4, h5⟩
  · have hx' : x = .ref r := by rw [List.getElem?_map, hr'] at hx; exact (Option.some.inj hx).symm
    subst hx'
    refine ⟨_, rfl, (show 2 ≤ sizeLine by decide), fun e' he' => ?_⟩
    have s4 := same_new he' (.tup [.ref r, .non])
    have k4 : (upd H3 e' (.tup [.ref r, .non])) e' = some (.tup [.ref r, .non]) := upd_same
    have nD : e' ≠ D := fun z => hD (by rw [← z]; exact he')
    have hD4 : (upd H3 e' (.tup [.ref r, .non])) D ≠ none := by rw [upd_ne nD.symm]; exact hD
    generalize upd H3 e' (.tup [.ref r, .non]) = H4 at s4 k4 hD4 ⊢
    exact ⟨(show 1 ≤ sizeLine by decide), fun s' hs' => q' (.ref s') _ (s4.trans (same_new hs' _)) ⟨s', rfl, e', upd_same, same_new hs' _ _ _ k4, (fun z => hD4 (by rw [← z]; exact hs')), nD, e3.free (s4.free hs')⟩⟩
  rw [List.map_id] at hp
  obtain ⟨ss, rfl, pss⟩ := paired_refs hp
  have Z := set0 (K := K) e1 e2 e3 ⟨ts, hts, hpp⟩ hs0 htl hbl2 pb hsl3 pss
  clear hp hpp pb pss hbl2 hsl3 hbl hsl hts htl hbl' e2 e3 hhl e1
  dsimp only [gName]
  have mL := Z.wk.mt
  have hSn : ¬ Mt (lv0 bs) ss a ∨ ∀ H', SqL K H' a (ns.map V.int) := by
    rcases hS with (h | ⟨o, h⟩) | h
    · exact .inl (Z.old _ _ h)
    · exact .inl (Z.old _ _ h)
    · exact .inr fun H' => .inr h
  have hS3 : SqL K H3 a (ns.map V.int) := Z.e.seq hS
  have scr : ∀ {lv : Lv} {H4 : Hp}, Up ss (lv0 bs) lv H3 H4 → SqL K H4 a (ns.map V.int) := fun u => hSn.elim (fun n => u.sqL mL n hS3) (fun h => h _)
  refine seq_hide (a := tFor _ _ _) fun D1 hN1 hR1 hC1 => ?_
  refine ⟨_, rfl, a, _, rfl, .inl hS3, _, _, rfl, rfl, _, _, rfl, _, _, rfl, _, rfl, ?_⟩
  obtain ⟨N, hN, hN22⟩ : ∃ N : Nat, (if (if (((ns.map V.int).length : Nat) : Int) - 4 > 0 then (((ns.map V.int).length : Nat) : Int) - 4 else 0) < 22 then (if (((ns.map V.int).length : Nat) : Int) - 4 > 0 then (((ns.map V.int).length : Nat) : Int) - 4 else 0) else 22) = (N : Int) ∧ N ≤ 22 := by
    generalize (((ns.map V.int).length : Nat) : Int) = L
    by_cases c1 : L - 4 > 0
    · rw [if_pos c1]
      by_cases c2 : L - 4 < 22
      · rw [if_pos c2]; exact ⟨(L - 4).toNat, by omega, by omega⟩
      · rw [if_neg c2]; exact ⟨22, rfl, Nat.le_refl _⟩
    · rw [if_neg c1]
      exact ⟨0, rfl, by decide⟩
  rw [hN]
  refine ⟨by omega, by omega, ?_⟩
  show ∃ W : Nat → Nat → St → Hp → Prop, _
  refine for_range (lo := 0) (n := N) (PI K H3 a hl bl sl bs ss) ⟨_, none, none, none, none, .refl, Z.wk, rfl⟩ ?_ ?_
  · rintro i σ H4 hi ⟨lv, z4, z5, z6, z7, u, W, rfl⟩
    rw [Int.zero_add]
    have hS4 := scr u
    obtain ⟨nhl, tsH, hhl4, hpp4⟩ := Z.heads.up mL u
    have hsl4 := u.keep _ _ Z.atS Z.nsl
    have htl := Paired.length hpp4
    refine ⟨_, rfl, _, rfl, _, _, rfl, rfl, a, ns, 4 + i, (by rw [show ((4 + i : Nat) : Int) = 4 + (i : Int) by omega]; rfl), hS4, ?_⟩
    generalize cellAt ns (4 + i) = cell
    refine ⟨_, rfl, _, rfl, _, _, rfl, rfl, a, ns, 26 + i, (by rw [show ((26 + i : Nat) : Int) = 26 + (i : Int) by omega]; rfl), hS4, _, rfl, _, _, rfl, rfl, (show CDiv _ 40 from ⟨by decide, by decide⟩), _, _, rfl, rfl, _, _, rfl, rfl, .inr ⟨by decide, by decide⟩, _, _, rfl, rfl, (show (0 : Int) < 2147483647 by decide), ?_⟩
    dsimp only [gName]
    generalize (cellAt ns (26 + i) + cell / 40) * 48271 % 2147483647 = mixed
    have l0 : (0 : Int) < (((tsH.map V.ref).length : Nat) : Int) := by rw [List.length_map]; omega
    refine ⟨_, rfl, _, rfl, hl, _, rfl, .inl (SqL.of hhl4), _, _, rfl, rfl, l0, ?_⟩
    obtain ⟨j, hj, hjl⟩ : ∃ j : Nat, cell % (((tsH.map V.ref).length : Nat) : Int) = (j : Int) ∧ j < hs.length := by
      have h1 := Int.emod_nonneg cell (Int.ne_of_gt l0)
      have h2 := Int.emod_lt_of_pos cell l0
      rw [List.length_map] at h1 h2 ⊢
      exact ⟨(cell % (tsH.length : Int)).toNat, by omega, by omega⟩
    show gName _ (V.int (cell % (((tsH.map V.ref).length : Nat) : Int))) _ _ _
    rw [hj]
    obtain ⟨s, hs1, hs2, hs3⟩ := pick (l := ss) (k := j) (by rw [Z.ls]; exact hjl)
    obtain ⟨t, ht1, ht2, ht3⟩ := pick (l := tsH) (k := j) (by rw [htl]; exact hjl)
    obtain ⟨h, hh1, hX⟩ := Paired.nth hpp4 ht1
    refine ⟨_, rfl, _, rfl, sl, _, _, _, rfl, rfl, SqL.of hsl4, hs2, _, rfl, _, rfl, _, rfl, _, rfl, hl, _, _, _, rfl, rfl, SqL.of hhl4, ht2, _, rfl, s, cell, mixed, t, hl, lv, ss, i, h, hs, xs, rfl, W, hs3, (by omega), hX.less fun _ y => .inr y, hsok h (List.mem_of_getElem? hh1), ⟨nhl, tsH, hhl4, hpp4⟩, hs0, hs4, hsok, hxn, fun lv' H5 u' W' => ?_⟩
    exact ⟨lv', _, _, _, _, u.trans u', W', rfl⟩
  rintro σ H4 ⟨lv, z4, z5, z6, z7, u, W, rfl⟩
  refine hN1 _ _ ?_
  clear hN1 hR1 hC1
  have W4 : Wk K H4 lv ss 24 := W.le (by omega)
  have hS4 := scr u
  have hH4 := Z.heads.up mL u
  have hbl4 := u.keep _ _ Z.atB Z.nbl
  have hb0 : ∀ b ∈ bs, lv b = some 0 := fun b hb => u.inc _ _ (lv0_in hb)
  have E4 : Same H H4 := fun b o h => u.keep _ _ (Z.e _ _ h) (Z.old _ _ h)
  have lbs := Z.lb
  clear scr hSn hS3 mL
  clear u W Z
  refine ⟨Nat.zero_le _, fun pl hpl => ?_⟩
  have A5 : AtP pl (upd H4 pl (.lst [])) H4 [] := ⟨upd_same, by
    funext c
    by_cases z : c = pl
    · rw [z, wo_self, hpl]
    · rw [wo_ne z, upd_ne z]⟩
  generalize upd H4 pl (.lst []) = H5 at A5 ⊢
  dsimp only [gName]
  refine seq_hide (a := tFor _ _ _) fun D2 hN2 hR2 hC2 => ?_
  obtain ⟨nhl, tsH, hhl4, hpp4⟩ := hH4
  have htl := Paired.length hpp4
  refine ⟨_, rfl, hl, _, rfl, .inl (SqL.of (A5.rd hhl4)), _, rfl, by rw [List.length_map]; omega, by rw [List.length_map]; omega, ?_⟩
  show ∃ W : Nat → Nat → St → Hp → Prop, _
  refine for_range (lo := 0) (n := (((tsH.map V.ref).length : Nat) : Int).toNat) (PJ K H4 a hl bl sl pl lv ss z5 z6 z7) ⟨H4, [], _, _, _, _, _, _, _, A5, Same.refl _, (fun t ht => by cases ht), rfl, rfl⟩ ?_ ?_
  · rintro i σ H6 hi ⟨G, ts', z4, z9, z10, z11, z12, z13, z14, A6, e6, pr, hlen, rfl⟩
    rw [Int.zero_add]
    have hi' : i < hs.length := by rw [Int.toNat_natCast, List.length_map] at hi; omega
    obtain ⟨t, ht1, ht2, ht3⟩ := pick (l := tsH) (k := i) (by rw [htl]; exact hi')
    obtain ⟨b, hb1, hb2, hb3⟩ := pick (l := bs) (k := i) (by rw [lbs]; exact hi')
    obtain ⟨⟨nm, os, pm, rs⟩, hh1, ow, hX1', hX2', hX3⟩ := Paired.nth hpp4 ht1
    have hok := hsok _ (List.mem_of_getElem? hh1)
    obtain ⟨hok1, hok2, hok3, hok4, hok5, hok6⟩ := hok
    dsimp only at hX1' hX2' hok1 hok2 hok3 hok4 hok5 hok6
    have hX1 := e6 _ _ hX1'
    have hX2 := e6 _ _ hX2'
    have okx : ∀ x ∈ xs, Ok x := fun x hx => ok_name (hxn x hx)
    have hSG : ∀ {G' H' : Hp} {us : List V}, AtP pl H' G' us → Same H4 G' → SqL K H' a (ns.map V.int) := fun A' e' => by
      rcases hS4 with (h | ⟨o, h⟩) | h
      · exact .inl (.inl (A'.rd (e' _ _ h)))
      · exact .inl (.inr ⟨o, A'.rd (e' _ _ h)⟩)
      · exact .inr h
    refine ⟨_, rfl, _, rfl, hl, _, _, _, rfl, rfl, SqL.of (A6.rd (e6 _ _ hhl4)), ht2, t, _, rfl, SqT.of (A6.rd hX1), rfl, _, _, rfl, _, _, rfl, _, _, rfl, _, _, rfl, rfl, ?_⟩
    refine ⟨_, rfl, a, ns, 2, rfl, hSG A6 e6, _, rfl, _, _, rfl, rfl, _, _, rfl, rfl, (show CDiv _ _ from ⟨by omega, by omega⟩), _, rfl, _, rfl, _, rfl, ow, _, rfl, SqL.of (A6.rd hX2), fun p1 hp1 => ?_⟩
    rw [cut_takeV, ← List.map_take]
    have hpl6 : (os.take pm).length ≤ 6 := by rw [List.length_take]; omega
    have hpx : ∀ y ∈ os.take pm, y ∈ xs := fun y hy => hok2 y (List.mem_of_mem_take hy)
    have k7 : (upd H6 p1 (.lst ((os.take pm).map V.str))) p1 = some (.lst ((os.take pm).map V.str)) := upd_same
    have A7 := A6.new hp1 (.lst ((os.take pm).map V.str))
    have d7 := same_new (A6.fre hp1) (.lst ((os.take pm).map V.str))
    generalize upd H6 p1 (.lst ((os.take pm).map V.str)) = H7, upd G p1 (.lst ((os.take pm).map V.str)) = G7 at A7 d7 k7 ⊢
    have e7 := e6.trans d7
    refine ⟨_, p1, os.take pm, rfl, k7, Nat.le_trans hpl6 (by decide), fun t1 fa pa F1 P1 H8 N1 => ?_⟩
    obtain ⟨A8, g8⟩ := A7.same N1.e
    generalize wo H8 pl = G8 at A8 g8
    have e8 := e7.trans g8
    have nmt : ∀ {G' H' : Hp} {us : List V}, AtP pl H' G' us → Same H4 G' → ∀ x, H' x = none → ¬ Mt lv ss x := fun A' e' x hx z => by
      obtain ⟨us, hu⟩ := W4.mt _ z
      rw [A'.rd (e' _ _ hu)] at hx; cases hx
    have oks := ok_some (xs := os.take pm) fun x hx => hxn x (hpx x hx)
    have T1 : ToldX K G8 (Mt lv ss) t1 := ⟨fa, pa, F1, P1, A8.tup N1.tup, A8.rows (ne_of_none A7.at' N1.nf).symm N1.facts, A8.rows (ne_of_none A7.at' N1.np).symm N1.parts, nmt A7 e7 _ N1.nf, nmt A7 e7 _ N1.np, fun r hr => ok_fact oks (N1.okF r hr), fun r hr => ok_part oks (N1.okP r hr), Nat.le_trans N1.lf (by decide), Nat.le_trans N1.lp (by decide)⟩
    have d8 := d7.trans g8
    refine ⟨_, rfl, a, ns, 3, rfl, hSG A8 e8, _, rfl, _, _, rfl, rfl, _, _, rfl, rfl, (show CDiv _ _ from ⟨by omega, by omega⟩), _, rfl, _, rfl, _, rfl, ow, _, rfl, SqL.of (A8.rd (d8 _ _ hX2)), fun p2 hp2 => ?_⟩
    rw [cut_takeV, ← List.map_take]
    have k9 : (upd H8 p2 (.lst ((os.take pm).map V.str))) p2 = some (.lst ((os.take pm).map V.str)) := upd_same
    have A9 := A8.new hp2 (.lst ((os.take pm).map V.str))
    have g9 := same_new (A8.fre hp2) (.lst ((os.take pm).map V.str))
    generalize upd H8 p2 (.lst ((os.take pm).map V.str)) = H9, upd G8 p2 (.lst ((os.take pm).map V.str)) = G9 at A9 g9 k9 ⊢
    refine ⟨_, rfl, (show 1 ≤ sizeLine by decide), fun x3 hx3 => ?_⟩
    have k10 : (upd H9 x3 (.lst ([rs].map V.str))) x3 = some (.lst ([rs].map V.str)) := upd_same
    have s10 := same_new hx3 (.lst ([rs].map V.str))
    have A10 := A9.new hx3 (.lst ([rs].map V.str))
    have g10 := g9.trans (same_new (A9.fre hx3) (.lst ([rs].map V.str)))
    change ∃ a, _
    generalize upd G9 x3 (.lst ([rs].map V.str)) = G10 at A10 g10
    refine ⟨x3, rfl, ⟨_, SqL.of k10⟩, ?_⟩
    refine comp_words [rs] (fun w => !decide (V.str w = V.str "")) jseq_list (SqL.of k10) (by simp) (fun n hn H2 e Q' q' => ⟨_, rfl, rfl, _, rfl, q' H2 (Same.refl _)⟩) (fun n H2 Q' q' => ⟨_, rfl, q'⟩) (fun p3 H11 hp3 s11 k11 => ?_)
    have k9' := s11 _ _ (s10 _ _ k9)
    obtain ⟨A11, g11'⟩ := A10.same s11
    generalize wo H11 pl = G11 at A11 g11'
    have g11 := g10.trans g11'
    have hqx : ∀ y ∈ os.take pm ++ [rs].filter (fun w => !decide (V.str w = V.str "")), y ∈ xs := fun y hy => by
      rcases List.mem_append.mp hy with z | z
      · exact hpx y z
      · obtain ⟨z1, z2⟩ := List.mem_filter.mp z
        rw [List.mem_singleton.mp z1] at z2 ⊢
        rcases hok6 with y' | y'
        · rw [y'] at z2; cases z2
        · exact hok2 _ y'
    have hfl : ([rs].filter (fun w => !decide (V.str w = V.str ""))).length ≤ 1 := List.length_filter_le _ _
    generalize [rs].filter (fun w => !decide (V.str w = V.str "")) = fr at k11 hqx hfl
    refine ⟨p2, p3, _, _, rfl, rfl, k9', k11, le_line (by rw [List.length_map, List.length_map]; omega), fun p4 hp4 => ?_⟩
    have k12 : (upd H11 p4 (.lst ((os.take pm).map V.str ++ fr.map V.str))) p4 = some (.lst ((os.take pm ++ fr).map V.str)) := by rw [upd_same, List.map_append]
    have A12 := A11.new hp4 (.lst ((os.take pm).map V.str ++ fr.map V.str))
    have g12 := g11.trans (same_new (A11.fre hp4) (.lst ((os.take pm).map V.str ++ fr.map V.str)))
    generalize upd H11 p4 (.lst ((os.take pm).map V.str ++ fr.map V.str)) = H12, upd G11 p4 (.lst ((os.take pm).map V.str ++ fr.map V.str)) = G12 at A12 g12 k12 ⊢
    have hql : (os.take pm ++ fr).length ≤ 20 := by rw [List.length_append]; omega
    generalize os.take pm ++ fr = qs at k12 hqx hql
    have e12 := e8.trans g12
    refine ⟨_, p4, qs, rfl, k12, hql, fun t2 fa2 pa2 F2 P2 H13 N2 => ?_⟩
    obtain ⟨A13, g13'⟩ := A12.same N2.e
    generalize wo H13 pl = G13 at A13 g13'
    have oks2 := ok_some (xs := qs) fun x hx => hxn x (hqx x hx)
    have T2 : ToldX K G13 (Mt lv ss) t2 := ⟨fa2, pa2, F2, P2, A13.tup N2.tup, A13.rows (ne_of_none A12.at' N2.nf).symm N2.facts, A13.rows (ne_of_none A12.at' N2.np).symm N2.parts, nmt A12 e12 _ N2.nf, nmt A12 e12 _ N2.np, fun r hr => ok_fact oks2 (N2.okF r hr), fun r hr => ok_part oks2 (N2.okP r hr), Nat.le_trans N2.lf (by decide), Nat.le_trans N2.lp (by decide)⟩
    have g13 := g12.trans g13'
    have d13 := d8.trans g13
    have e13 := e6.trans d13
    have T1' := T1.same g13
    clear N1 N2 T1 k12 k11 k9' k10 k9 k7 A12 A11 A10 A9 A8 A7 s10 s11 hp3 hp4 hx3 hp1 hp2
    refine ⟨_, rfl, (.inl ⟨rfl, _, SqL.of A13.at'⟩), _, rfl, _, rfl, _, rfl, _, rfl, ow, _, rfl, SqL.of (A13.rd (d13 _ _ hX2)), fun p5 hp5 => ?_⟩
    rw [cut_takeV, ← List.map_take]
    have k14 : (upd H13 p5 (.lst ((os.take pm).map V.str))) p5 = some (.lst ((os.take pm).map V.str)) := upd_same
    have A14 := A13.new hp5 (.lst ((os.take pm).map V.str))
    have g14 := same_new (A13.fre hp5) (.lst ((os.take pm).map V.str))
    generalize upd H13 p5 (.lst ((os.take pm).map V.str)) = H14, upd G13 p5 (.lst ((os.take pm).map V.str)) = G14 at A14 g14 k14 ⊢
    refine ⟨p5, _, rfl, .inl ⟨SqL.of k14, fun pt hpt => ?_⟩⟩
    have k15 : (upd G14 pt (.tup ((os.take pm).map V.str))) pt = some (.tup ((os.take pm).map V.str)) := upd_same
    have A15 := A14.new hpt (.tup ((os.take pm).map V.str))
    have g15 := g14.trans (same_new (A14.fre hpt) (.tup ((os.take pm).map V.str)))
    generalize upd H14 pt (.tup ((os.take pm).map V.str)) = H15, upd G14 pt (.tup ((os.take pm).map V.str)) = G15 at A15 g15 k15 ⊢
    have e15 := e13.trans g15
    refine ⟨_, rfl, _, rfl, _, rfl, _, rfl, _, rfl, bl, _, _, _, rfl, rfl, SqL.of (A15.rd (e15 _ _ hbl4)), hb2, (show 6 ≤ sizeLine by decide), fun nt hnt => ?_⟩
    have k16 : (upd G15 nt (.tup [.str nm, .ref pt, .str rs, .ref t1, .ref t2, .ref b])) nt = some (.tup [.str nm, .ref pt, .str rs, .ref t1, .ref t2, .ref b]) := upd_same
    have A16 := A15.new hnt (.tup [.str nm, .ref pt, .str rs, .ref t1, .ref t2, .ref b])
    have g16' := same_new (A15.fre hnt) (.tup [.str nm, .ref pt, .str rs, .ref t1, .ref t2, .ref b])
    generalize upd H15 nt (.tup [.str nm, .ref pt, .str rs, .ref t1, .ref t2, .ref b]) = H16, upd G15 nt (.tup [.str nm, .ref pt, .str rs, .ref t1, .ref t2, .ref b]) = G16 at A16 g16' k16 ⊢
    have g16 := g15.trans g16'
    refine ⟨pl, _, _, rfl, rfl, A16.at', lt_line (by rw [List.length_map]; omega), ?_⟩
    have np : ProcAt K G16 lv ss nt := ⟨nm, rs, os.take pm, pt, t1, t2, b, k16, g16' _ _ k15, T1'.same g16, T2.same g16, hb0 b hb3, okx _ hok1, (by
      rcases hok6 with y' | y'
      · rw [y']; exact ok_words "" (by simp)
      · exact okx _ (hok2 _ y')), fun y hy => okx y (hpx y hy)⟩
    have A17 := A16.app (us' := (ts' ++ [nt]).map V.ref)
    rw [List.map_append] at A17
    refine ⟨G16, ts' ++ [nt], _, _, _, _, _, _, _, by rw [List.map_append]; exact A17, e13.trans g16, fun t ht => ?_, by rw [List.length_append, hlen]; rfl, rfl⟩
    rcases List.mem_append.mp ht with z | z
    · exact (pr t z).same (d13.trans g16)
    · rw [List.mem_singleton.mp z]; exact np
  rintro σ H6 ⟨G, ts', z4, z9, z10, z11, z12, z13, z14, A6, e6, pr, hlen, rfl⟩
  refine hN2 _ _ ⟨_, rfl, ?_⟩
  have gb : Same G H6 := fun c o h => A6.rd h
  refine q pl ts' lv ss H6 ⟨(E4.trans e6).trans gb, A6.at', (W4.same e6).same gb, fun t ht => (pr t ht).same gb, ?_⟩
  rw [Int.toNat_natCast, List.length_map] at hlen
  omega
end
end K43
namespace L2
open PySem PySem.Spec
structure At3 (p f0 f1 : Addr) (H G : Hp) (us : List V) (n0 n1 : Int) : Prop where
  at' : H p = some (.lst us)
  a0 : H f0 = some (.lst [.int n0])
  a1 : H f1 = some (.lst [.int n1])
  g : ∀ c, G c = if c = p ∨ c = f0 ∨ c = f1 then none else H c
  d0 : p ≠ f0
  d1 : p ≠ f1
  d01 : f0 ≠ f1
variable {p f0 f1 : Addr} {H G H' : Hp} {us : List V} {n0 n1 : Int}
theorem At3.swap (h : At3 p f0 f1 H G us n0 n1) : At3 p f1 f0 H G us n1 n0 := ⟨h.at', h.a1, h.a0, fun c => by
  rw [h.g c]
  by_cases z : c = p ∨ c = f0 ∨ c = f1
  · rw [if_pos z, if_pos (z.imp_right Or.symm)]
  · rw [if_neg z, if_neg (fun y => z (y.imp_right Or.symm))], h.d1, h.d0, h.d01.symm⟩
theorem At3.rd (h : At3 p f0 f1 H G us n0 n1) {b : Addr} {o : HO} (hb : G b = some o) : H b = some o := by
  rw [h.g] at hb
  split at hb
  · cases hb
  · exact hb
theorem At3.ne (h : At3 p f0 f1 H G us n0 n1) {b : Addr} {o : HO} (hb : G b = some o) : ¬ (b = p ∨ b = f0 ∨ b = f1) := fun z => by
  rw [h.g, if_pos z] at hb; cases hb
theorem At3.fre (h : At3 p f0 f1 H G us n0 n1) {b : Addr} (hb : H b = none) : G b = none := by
  rw [h.g]; split
  · rfl
  · exact hb
theorem At3.nofre (h : At3 p f0 f1 H G us n0 n1) {b : Addr} (hb : H b = none) : ¬ (b = p ∨ b = f0 ∨ b = f1) := by
  rintro (z | z | z)
  · rw [z, h.at'] at hb; cases hb
  · rw [z, h.a0] at hb; cases hb
  · rw [z, h.a1] at hb; cases hb
theorem At3.new (h : At3 p f0 f1 H G us n0 n1) {b : Addr} (hb : H b = none) (o : HO) : At3 p f0 f1 (upd H b o) (upd G b o) us n0 n1 := by
  have nb := h.nofre hb
  refine ⟨by rw [upd_ne (fun z => nb (.inl z.symm))]; exact h.at', by rw [upd_ne (fun z => nb (.inr (.inl z.symm)))]; exact h.a0, by rw [upd_ne (fun z => nb (.inr (.inr z.symm)))]; exact h.a1, fun c => ?_, h.d0, h.d1, h.d01⟩
  by_cases z : c = b
  · rw [z, upd_same, upd_same, if_neg nb]
  · rw [upd_ne z, upd_ne z]; exact h.g c
theorem At3.app {us' : List V} (h : At3 p f0 f1 H G us n0 n1) : At3 p f0 f1 (upd H p (.lst us')) G us' n0 n1 := by
  refine ⟨upd_same, by rw [upd_ne h.d0.symm]; exact h.a0, by rw [upd_ne h.d1.symm]; exact h.a1, fun c => ?_, h.d0, h.d1, h.d01⟩
  rw [h.g c]
  by_cases z : c = p ∨ c = f0 ∨ c = f1
  · rw [if_pos z, if_pos z]
  · rw [if_neg z, if_neg z, upd_ne (fun y => z (.inl y))]
theorem At3.same (h : At3 p f0 f1 H G us n0 n1) (e : Same H H') : ∃ G', At3 p f0 f1 H' G' us n0 n1 ∧ Same G G' :=
  ⟨fun c => if c = p ∨ c = f0 ∨ c = f1 then none else H' c, ⟨e _ _ h.at', e _ _ h.a0, e _ _ h.a1, fun c => rfl, h.d0, h.d1, h.d01⟩, fun b o hb => by
    show (if b = p ∨ b = f0 ∨ b = f1 then none else H' b) = _
    rw [if_neg (h.ne hb)]; exact e _ _ (h.rd hb)⟩
theorem At3.draw (h : At3 p f0 f1 H G us n0 n1) {n' : Int} (f : FS (wo H f0) f0 H' n') : ∃ G', At3 p f0 f1 H' G' us n' n1 ∧ Same G G' ∧ (∀ t vs, (wo H' f0) t = some (.tup vs) → G' t = some (.tup vs)) ∧ ∀ (K : PySem.W.Frag) t rs, (wo H f0) t = none → RowsAt K (wo H' f0) t rs → RowsAt K G' t rs := by
  have wp : (wo H f0) p = some (.lst us) := by rw [wo_ne h.d0]; exact h.at'
  have w1 : (wo H f0) f1 = some (.lst [.int n1]) := by rw [wo_ne h.d01.symm]; exact h.a1
  have wp' := f.g _ _ wp
  have w1' := f.g _ _ w1
  have tp : ∀ t o, (wo H' f0) t = some o → (∀ zs, o ≠ .lst zs) → (fun c => if c = p ∨ c = f0 ∨ c = f1 then none else H' c) t = some o := fun t o ht n => by
    show (if t = p ∨ t = f0 ∨ t = f1 then none else H' t) = _
    rw [if_neg]
    · exact wo_back _ _ ht
    · rintro (z | z | z)
      · rw [z, wp'] at ht; cases ht; exact n _ rfl
      · rw [z, wo_self] at ht; cases ht
      · rw [z, w1'] at ht; cases ht; exact n _ rfl
  refine ⟨fun c => if c = p ∨ c = f0 ∨ c = f1 then none else H' c, ⟨wo_back _ _ wp', f.fed, wo_back _ _ w1', fun c => rfl, h.d0, h.d1, h.d01⟩, fun b o hb => ?_, fun t vs ht => tp t _ ht (fun zs z => by cases z), fun K t rs hn ht => ?_⟩
  · show (if b = p ∨ b = f0 ∨ b = f1 then none else H' b) = _
    have nb := h.ne hb
    rw [if_neg nb]
    exact wo_back _ _ (f.g b o (by rw [wo_ne (fun y => nb (.inr (.inl y)))]; exact h.rd hb))
  · obtain ⟨as, h1, h2⟩ := ht
    refine ⟨as, ?_, Paired.mapP h2 fun x y z => ?_⟩
    · show (if t = p ∨ t = f0 ∨ t = f1 then none else H' t) = _
      rw [if_neg]
      · exact wo_back _ _ h1
      · rintro (z | z | z)
        · rw [z, wp] at hn; cases hn
        · rw [z, wo_self] at h1; cases h1
        · rw [z, w1] at hn; cases hn
    · rcases z with (z | ⟨o, z⟩) | z
      · exact .inl (.inl (tp _ _ z (fun zs y => by cases y)))
      · exact .inl (.inr ⟨o, tp _ _ z (fun zs y => by cases y)⟩)
      · exact .inr z
end L2
namespace K43
open PySem PySem.Spec L2 Mir
theorem cut_few (xs : List V) (a b : Nat) : (cutV xs (some (a : Int)) (some (b : Int))).length ≤ b - a := by
  unfold cutV
  rw [HT.sIx_nat, HT.sIx_nat, List.length_take]
  omega
theorem Set0.same {K : PySem.W.Frag} {H0 H2 H3 : Hp} {hl bl sl : Addr} {hs : List Hd} {bs ss : List Addr} (Z : Set0 K H0 H2 hl bl sl hs bs ss) (e : Same H2 H3) : Set0 K H0 H3 hl bl sl hs bs ss :=
  ⟨Z.e.trans e, Z.wk.same e, Z.heads.up Z.wk.mt (.same e), e _ _ Z.atB, Z.nbl, e _ _ Z.atS, Z.nsl, Z.lb, Z.ls, Z.old⟩
inductive PK (K : PySem.W.Frag) (H3 : Hp) (a hl bl sl : Addr) (bs ss : List Addr) (i : Nat) (σ : St) (H4 : Hp) : Prop
  | mk (lv : Lv) (z4 z5 z6 : Option V) (u : Up ss (lv0 bs) lv H3 H4) (W : Wk K H4 lv ss i) (hσ : σ = [some (.ref a), some (.ref hl), some (.ref bl), some (.ref sl), z4, z5, z6, none, none, none, none, none, none, none, none, none])
inductive PL (K : PySem.W.Frag) (G5 : Hp) (a hl bl sl pl fl f0 f1 : Addr) (lv : Lv) (ss : List Addr) (z4 z5 z6 : Option V) (i : Nat) (σ : St) (H6 : Hp) : Prop
  | mk (G : Hp) (ts : List Addr) (n0 n1 : Int) (z9 z10 z11 z12 z13 z14 z15 : Option V) (A : At3 pl f0 f1 H6 G (ts.map V.ref) n0 n1) (e : Same G5 G) (pr : ∀ t ∈ ts, ProcAt K G lv ss t) (hi : ts.length = i) (hσ : σ = [some (.ref a), some (.ref hl), some (.ref bl), some (.ref sl), z4, z5, z6, some (.ref pl), some (.ref fl), z9, z10, z11, z12, z13, z14, z15])
section
variable {P : Program} {w : World} {K : PySem.W.Frag} {mg : Str → Option Value} {base : Heap} {f gC gH gP gT gK : Addr} {fd dC dH dP dT dK : FuncData}
theorem scAnyProg : FnScope ["_law_script", "_law_heads_here", "_law_bodies", "_law_stacks", "_law_cell", "_law_feed", "_law_h", "_law_program_here", "_law_feeds", "_law_k", "_law_name", "_law_own", "_law_params", "_law_result", "_law_before", "_law_behind"] ["_law_script"] (defScope sAnyProg) := ⟨rfl, rfl, rfl, by decide +kernel, rfl, by decide +kernel, by decide +kernel⟩
theorem ok_anyProg (C : Con K mg w) (F : Fun K "_law_any_program" "_law_any_program" sAnyProg f fd) (GC : FnOk P w K mg base CX0 1 gC dC ["_law_script", "_law_k"] (spCell K)) (cC : Cal K mg "_law_cell_at" gC dC ["_law_script", "_law_k"])
    (GH : FnOk P w K mg base CX0 3 gH dH ["_law_script"] (spHeads K)) (cH : Cal K mg "_law_heads" gH dH ["_law_script"]) (GP : FnOk P w K mg base CX0 4 gP dP ["_law_open_lists", "_law_feed", "_law_head", "_law_heads_here"] (spAnyPut K)) (cP : Cal K mg "_law_any_put" gP dP ["_law_open_lists", "_law_feed", "_law_head", "_law_heads_here"]) (GT : FnOk P w K mg base CX0 3 gT dT ["_law_feed", "_law_own", "_law_most"] (spAnyTold K)) (cT : Cal K mg "_law_any_told" gT dT ["_law_feed", "_law_own", "_law_most"]) (GK : FnOk P w K mg base CX0 1 gK dK ["_law_feed", "_law_many"] spTake) (cK : Cal K mg "_law_take" gK dK ["_law_feed", "_law_many"]) : FnOk P w K mg base CX0 5 f fd ["_law_script"] (spProg K) := by
  refine F.okQ scAnyProg (fun vs H Q E h => ?_) (fun cdv A outer s0 H vs Q E hr h => ?_)
  · obtain ⟨a, ns, rfl, _⟩ := h; rfl
  obtain ⟨a, ns, rfl, hS, q⟩ := h
  have nd := scAnyProg.nd
  have hr1 := hr.mono (j := 1) (by omega)
  have hr3 := hr.mono (j := 3) (by omega)
  refine ⟨_, qb_cons (qs_set (i := 1) nd rfl (Or.inl rfl) (qe_call GH hr3 rfl cH.name cH.keep cH.bind .nil pass0 (qa_nm (qv 0) qa_nil)))
    (qb_cons (qs_setCG ["_law_head"] [] (i := 2) nd rfl (Or.inl rfl) (qi_list (qv 1)) (fun _ _ _ _ => qts_nil) (fun _ _ _ _ => (qe_lst qa_nil)))
    (qb_cons (qs_setCG ["_law_body"] [] (i := 3) nd rfl (Or.inl rfl) (qi_list (qv 2)) (fun _ _ _ _ => qts_nil) (fun _ _ _ _ => (qe_lst (qa_tp (qa_nm (qv 0) (qa_cons qe_non qa_nil)) qa_nil))))
    (qb_cons (qs_for PassesOwn.never rfl (qi_list (qe_slice sl_list (qv 0) (qo_some qe_int) (qo_some qe_int))) (qg_name (i := 4) nd rfl (Or.inl rfl)) (qb_cons (qs_set (i := 5) nd rfl (Or.inl rfl) (qe_lst (qa_nm (qv 4) qa_nil)))
    (qb_cons (qs_set (i := 6) nd rfl (Or.inl rfl) (qe_call GK hr1 rfl cK.name cK.keep cK.bind .nil pass0 (qa_nm (qv 5) (qa_call (qe_callB call_len_seq rfl C.len PySem.boot_len (qa_nm (qv 1) qa_nil)) qa_nil))))
    (qb_one (qs_expr (qe_call GP hr rfl cP.name cP.keep cP.bind .nil pass0 (qa_sub (qe_ix ix_list (qv 3) (qv 6) (fun _ _ => rfl)) (qa_nm (qv 5) (qa_sub (qe_ix ix_list (qv 1) (qv 6) (fun _ _ => rfl)) (qa_nm (qv 1) qa_nil))))))))))
    (qb_cons (qs_set (i := 7) nd rfl (Or.inl rfl) (qe_lst qa_nil))
    (qb_cons (qs_set (i := 8) nd rfl (Or.inl rfl) (qe_lst (qa_ls (qa_call (qe_call GC hr1 rfl cC.name cC.keep cC.bind .nil pass0 (qa_nm (qv 0) (qa_int qa_nil))) qa_nil) (qa_ls (qa_call (qe_call GC hr1 rfl cC.name cC.keep cC.bind .nil pass0 (qa_nm (qv 0) (qa_int qa_nil))) qa_nil) qa_nil))))
    (qb_cons (qs_for PassesOwn.never rfl (qi_range1 rfl C.range (qa_call (qe_callB call_len_seq rfl C.len PySem.boot_len (qa_nm (qv 1) qa_nil)) qa_nil)) (qg_name (i := 9) nd rfl (Or.inl rfl)) (qb_cons (qs_asg (qe_ix ix_list (qv 1) (qv 9) (fun _ _ => rfl)) (qg_tup4 (qg_name (i := 10) nd rfl (Or.inl rfl)) (qg_name (i := 11) nd rfl (Or.inl rfl)) (qg_name (i := 12) nd rfl (Or.inl rfl)) (qg_name (i := 13) nd rfl (Or.inl rfl))))
    (qb_cons (qs_set (i := 14) nd rfl (Or.inl rfl) (qe_call GT hr3 rfl cT.name cT.keep cT.bind .nil pass0 (qa_sub (qe_ix ix_list (qv 8) qe_int (fun _ _ => rfl)) (qa_sub (qe_slice sl_list (qv 11) qo_none (qo_some (qv 12))) (qa_int qa_nil)))))
    (qb_cons (qs_set (i := 15) nd rfl (Or.inl rfl) (qe_call GT hr3 rfl cT.name cT.keep cT.bind .nil pass0 (qa_sub (qe_ix ix_list (qv 8) qe_int (fun _ _ => rfl)) (qa_bop (qe_op op_cat (qe_slice sl_list (qv 11) qo_none (qo_some (qv 12))) (qe_comp0 (qi_list (qe_lst (qa_nm (qv 13) qa_nil))) (fun _ _ _ _ => (qts_one (qt_cmpR op_ne (qv 0) qe_str (nomark _)))) (fun _ _ _ _ => (qv 0)))) (qa_int qa_nil)))))
    (qb_one (qs_expr (qe_bmK (K := K) rfl PySem.F.plainAttrs_list PySem.F.slot_list_append PySem.F.type_list_append mt_append (qv 7) (qa_tp (qa_nm (qv 10) (qa_call (qe_callTy call_tuple_of rfl C.tuple PyProof.Rows.boot_tuple (qa_sub (qe_slice sl_list (qv 11) qo_none (qo_some (qv 12))) qa_nil)) (qa_nm (qv 13) (qa_nm (qv 14) (qa_nm (qv 15) (qa_sub (qe_ix ix_list (qv 2) (qv 9) (fun _ _ => rfl)) qa_nil)))))) qa_nil))))))))
    (qb_one (qs_ret (qv 7))))))))), ?_⟩
  refine ⟨_, rfl, a, ns, rfl, hS, fun hl hs xs H1 e1 hhl hH hs0 hs4 hxn hsok => ?_⟩
  obtain ⟨ts, hts, hpp⟩ := hH
  have htl := Paired.length hpp
  refine ⟨_, rfl, hl, rfl, ⟨_, SqL.of hts⟩, ?_⟩
  refine comp_pos (ts.map V.ref) ts (fun D H y r => ∃ b, y = V.ref b ∧ RB H1 D H b r) id jseq_list (SqL.of hts) (by rw [List.length_map]; omega) (by rw [List.length_map]) (fun D G G' y r z e => ?_) (fun D i x r hx hr' H2 e2 hD Q' q' => ?_) (fun bl H2 ys hbl e2 hbl2 hp => ?_)
  · obtain ⟨b, rfl, h1, h2, h3⟩ := z
    exact ⟨b, rfl, e _ _ h1 h2, h2, h3⟩
  · exact ⟨Nat.zero_le _, fun b hb => q' (.ref b) _ (same_new hb _) ⟨b, rfl, upd_same, (fun z => hD (by rw [← z]; exact hb)), e2.free hb⟩⟩
  rw [List.map_id] at hp
  obtain ⟨bs, rfl, pb⟩ := paired_refs hp
  have hbl' := Paired.length pb
  refine ⟨_, rfl, bl, rfl, ⟨_, SqL.of hbl2⟩, ?_⟩
  refine comp_pos (bs.map V.ref) bs (fun D H y r => ∃ b, y = V.ref b ∧ RS H2 D H b r) id jseq_list (SqL.of hbl2) (by rw [List.length_map]; omega) (by rw [List.length_map]) (fun D G G' y r z e => ?_) (fun D i x r hx hr' H3 e3 hD Q' q' => ?_) (fun sl H3 ys hsl e3 hsl3 hp => ?_)
  · obtain ⟨b, rfl, e', h1, h2, h3, h4, h5⟩ := z
    exact ⟨b, rfl, e', e _ _ h1 h3, e _ _ h2 h4, h3, h4, h5⟩
  · have hx' : x = .ref r := by rw [List.getElem?_map, hr'] at hx; exact (Option.some.inj hx).symm
    subst hx'
    refine ⟨_, rfl, (show 2 ≤ sizeLine by decide), fun e' he' => ?_⟩
    have s4 := same_new he' (.tup [.ref r, .non])
    have k4 : (upd H3 e' (.tup [.ref r, .non])) e' = some (.tup [.ref r, .non]) := upd_same
    have nD : e' ≠ D := fun z => hD (by rw [← z]; exact he')
    have hD4 : (upd H3 e' (.tup [.ref r, .non])) D ≠ none := by rw [upd_ne nD.symm]; exact hD
    generalize upd H3 e' (.tup [.ref r, .non]) = H4 at s4 k4 hD4 ⊢
    exact ⟨(show 1 ≤ sizeLine by decide), fun s' hs' => q' (.ref s') _ (s4.trans (same_new hs' _)) ⟨s', rfl, e', upd_same, same_new hs' _ _ _ k4, (fun z => hD4 (by rw [← z]; exact hs')), nD, e3.free (s4.free hs')⟩⟩
  rw [List.map_id] at hp
  obtain ⟨ss, rfl, pss⟩ := paired_refs hp
  have Z := set0 (K := K) e1 e2 e3 ⟨ts, hts, hpp⟩ hs0 htl hbl2 pb hsl3 pss
  clear hp hpp pb pss hbl2 hsl3 hbl hsl hts htl hbl' e2 e3 hhl e1
  dsimp only [gName]
  have hSn : ¬ Mt (lv0 bs) ss a ∨ ∀ H', SqL K H' a (ns.map V.int) := by
    rcases hS with (h | ⟨o, h⟩) | h
    · exact .inl (Z.old _ _ h)
    · exact .inl (Z.old _ _ h)
    · exact .inr fun H' => .inr h
  have hS3 : SqL K H3 a (ns.map V.int) := Z.e.seq hS
  refine seq_hide (a := tFor _ _ _) fun D1 hN1 hR1 hC1 => ?_
  refine ⟨_, rfl, _, rfl, _, rfl, a, _, rfl, hS3, fun p1 hp1 => ?_⟩
  obtain ⟨ms, hms⟩ := cut_ints ns (some 4) (some 28)
  have hml : ms.length ≤ 24 := by
    have h : (cutV (ns.map V.int) (some 4) (some 28)).length ≤ 24 := cut_few (ns.map V.int) 4 28
    rw [hms, List.length_map] at h; exact h
  rw [hms]
  have k1 : (upd H3 p1 (.lst (ms.map V.int))) p1 = some (.lst (ms.map V.int)) := upd_same
  have n1 : ¬ Mt (lv0 bs) ss p1 := fun z => by
    obtain ⟨us, hu⟩ := Z.wk.mt _ z
    rw [hp1] at hu; cases hu
  have Z1 := Z.same (same_new hp1 (.lst (ms.map V.int)))
  clear Z hms hS3
  generalize upd H3 p1 (.lst (ms.map V.int)) = H4 at k1 Z1 ⊢
  have mL := Z1.wk.mt
  have hS4 : SqL K H4 a (ns.map V.int) := Z1.e.seq hS
  have scr : ∀ {lv : Lv} {H5 : Hp}, Up ss (lv0 bs) lv H4 H5 → SqL K H5 a (ns.map V.int) := fun u => hSn.elim (fun n => u.sqL mL n hS4) (fun h => h _)
  refine ⟨p1, rfl, ⟨_, SqL.of k1⟩, ?_⟩
  refine for_list (xs := ms.map V.int) (PK K H4 a hl bl sl bs ss) ⟨_, none, none, none, .refl, Z1.wk, rfl⟩ (fun i σ H' _ h => by obtain ⟨lv, _, _, _, u, _, _⟩ := h; exact SqL.of (u.keep _ _ k1 n1)) ?_ ?_
  · rintro i x σ H5 hx ⟨lv, z4, z5, z6, u, W, rfl⟩
    rw [List.getElem?_map] at hx
    obtain ⟨cell, hc, rfl⟩ := Option.map_eq_some_iff.mp hx
    have hi : i < 24 := Nat.lt_of_lt_of_le (List.getElem?_eq_some_iff.mp hc).1 hml
    obtain ⟨nhl, tsH, hhl5, hpp5⟩ := Z1.heads.up mL u
    have hsl5 := u.keep _ _ Z1.atS Z1.nsl
    have htl := Paired.length hpp5
    refine ⟨_, rfl, (show 1 ≤ sizeLine by decide), fun fe hfe => ?_⟩
    have A6 : At fe (upd H5 fe (.lst [.int cell])) H5 cell := ⟨upd_same, by
      funext c
      by_cases z : c = fe
      · rw [z, wo_self, hfe]
      · rw [wo_ne z, upd_ne z]⟩
    generalize upd H5 fe (.lst [.int cell]) = H6 at A6 ⊢
    have l0 : (0 : Int) < (((tsH.map V.ref).length : Nat) : Int) := by rw [List.length_map]; omega
    have l1 : (((tsH.map V.ref).length : Nat) : Int) < 1073741824 := by rw [List.length_map]; omega
    refine ⟨_, rfl, _, rfl, hl, _, rfl, .inl (SqL.of (A6.rd hhl5)), fe, cell, _, rfl, A6.fed, l0, l1, ?_⟩
    have A7 := A6.take (k := cell / (((tsH.map V.ref).length : Nat) : Int))
    obtain ⟨j, hj, hjl⟩ : ∃ j : Nat, cell % (((tsH.map V.ref).length : Nat) : Int) = (j : Int) ∧ j < hs.length := by
      have h1 := Int.emod_nonneg cell (Int.ne_of_gt l0)
      have h2 := Int.emod_lt_of_pos cell l0
      rw [List.length_map] at h1 h2 ⊢
      exact ⟨(cell % (tsH.length : Int)).toNat, by omega, by omega⟩
    rw [hj]
    generalize upd H6 fe (.lst [.int (cell / (((tsH.map V.ref).length : Nat) : Int))]) = H7 at A7 ⊢
    obtain ⟨s, hs1, hs2, hs3⟩ := pick (l := ss) (k := j) (by rw [Z1.ls]; exact hjl)
    obtain ⟨t, ht1, ht2, ht3⟩ := pick (l := tsH) (k := j) (by rw [htl]; exact hjl)
    obtain ⟨h, hh1, hX⟩ := Paired.nth hpp5 ht1
    refine ⟨_, rfl, _, rfl, sl, _, _, _, rfl, rfl, SqL.of (A7.rd hsl5), hs2, _, rfl, _, rfl, _, rfl, hl, _, _, _, rfl, rfl, SqL.of (A7.rd hhl5), ht2, _, rfl, s, fe, t, hl, H5, _, lv, ss, i, h, hs, xs, rfl, A7, W, hs3, (by omega), hX.less fun _ y => .inr y, hsok h (List.mem_of_getElem? hh1), ⟨nhl, tsH, hhl5, hpp5⟩, hs0, hs4, hsok, hxn, fun lv' k' G' H8 A8 u' W' => ?_⟩
    have gb : Same G' H8 := fun c o z => A8.rd z
    exact ⟨lv', _, _, _, (u.trans u').trans (.same gb), W'.same gb, rfl⟩
  rintro σ H5 ⟨lv, z4, z5, z6, u, W, rfl⟩
  refine hN1 _ _ ?_
  clear hN1 hR1 hC1
  have W4 : Wk K H5 lv ss 24 := W.le (by rw [List.length_map]; omega)
  have hS5 := scr u
  have hH5 := Z1.heads.up mL u
  have hbl5 := u.keep _ _ Z1.atB Z1.nbl
  have hb0 : ∀ b ∈ bs, lv b = some 0 := fun b hb => u.inc _ _ (lv0_in hb)
  have E5 : Same H H5 := fun b o h => u.keep _ _ (Z1.e _ _ h) (Z1.old _ _ h)
  have lbs := Z1.lb
  clear scr hSn hS4 mL k1 n1
  clear u W Z1
  refine ⟨Nat.zero_le _, fun pl hpl => ?_⟩
  have s6 := same_new hpl (.lst [])
  have k6 : (upd H5 pl (.lst [])) pl = some (.lst []) := upd_same
  have j6 : ∀ c, c ≠ pl → (upd H5 pl (.lst [])) c = H5 c := fun c z => upd_ne z
  generalize upd H5 pl (.lst []) = H6 at s6 k6 j6 ⊢
  refine ⟨_, rfl, a, ns, 2, rfl, s6.seq hS5, (show 1 ≤ sizeLine by decide), fun f0 hf0 => ?_⟩
  have s7 := same_new hf0 (.lst [.int (cellAt ns 2)])
  have k7 : (upd H6 f0 (.lst [.int (cellAt ns 2)])) f0 = some (.lst [.int (cellAt ns 2)]) := upd_same
  have j7 : ∀ c, c ≠ f0 → (upd H6 f0 (.lst [.int (cellAt ns 2)])) c = H6 c := fun c z => upd_ne z
  have d0 : pl ≠ f0 := ne_of_none k6 hf0
  generalize upd H6 f0 (.lst [.int (cellAt ns 2)]) = H7 at s7 k7 j7 ⊢
  refine ⟨_, rfl, a, ns, 3, rfl, s7.seq (s6.seq hS5), (show 1 ≤ sizeLine by decide), fun f1 hf1 => ?_⟩
  have s8 := same_new hf1 (.lst [.int (cellAt ns 3)])
  have k8 : (upd H7 f1 (.lst [.int (cellAt ns 3)])) f1 = some (.lst [.int (cellAt ns 3)]) := upd_same
  have j8 : ∀ c, c ≠ f1 → (upd H7 f1 (.lst [.int (cellAt ns 3)])) c = H7 c := fun c z => upd_ne z
  have d1 : pl ≠ f1 := ne_of_none (s7 _ _ k6) hf1
  have d01 : f0 ≠ f1 := ne_of_none k7 hf1
  generalize upd H7 f1 (.lst [.int (cellAt ns 3)]) = H8 at s8 k8 j8 ⊢
  have A8 : At3 pl f0 f1 H8 H5 [] (cellAt ns 2) (cellAt ns 3) := ⟨s8 _ _ (s7 _ _ k6), s8 _ _ k7, k8, fun c => by
    split
    · rename_i z
      rcases z with rfl | rfl | rfl
      · exact hpl
      · exact s6.free hf0
      · exact s6.free (s7.free hf1)
    · rename_i z
      rw [j8 c (fun y => z (.inr (.inr y))), j7 c (fun y => z (.inr (.inl y))), j6 c (fun y => z (.inl y))], d0, d1, d01⟩
  generalize cellAt ns 2 = c2 at A8
  generalize cellAt ns 3 = c3 at A8
  clear s6 s7 s8 k6 k7 k8 j6 j7 j8 hf0 hf1
  refine ⟨(show 2 ≤ sizeLine by decide), fun fl hfl => ?_⟩
  have A9 := A8.new hfl (.lst [.ref f0, .ref f1])
  have g9 := same_new (A8.fre hfl) (.lst [.ref f0, .ref f1])
  have k9 : (upd H5 fl (.lst [.ref f0, .ref f1])) fl = some (.lst [.ref f0, .ref f1]) := upd_same
  generalize upd H8 fl (.lst [.ref f0, .ref f1]) = H9, upd H5 fl (.lst [.ref f0, .ref f1]) = G9 at A9 g9 k9 ⊢
  clear A8
  dsimp only [gName]
  refine seq_hide (a := tFor _ _ _) fun D2 hN2 hR2 hC2 => ?_
  obtain ⟨nhl, tsH, hhl5, hpp5⟩ := hH5
  have htl := Paired.length hpp5
  refine ⟨_, rfl, hl, _, rfl, .inl (SqL.of (A9.rd (g9 _ _ hhl5))), _, rfl, by rw [List.length_map]; omega, by rw [List.length_map]; omega, ?_⟩
  show ∃ W : Nat → Nat → St → Hp → Prop, _
  refine for_range (lo := 0) (n := (((tsH.map V.ref).length : Nat) : Int).toNat) (PL K G9 a hl bl sl pl fl f0 f1 lv ss z4 z5 z6) ⟨G9, [], c2, c3, _, _, _, _, _, _, _, A9, Same.refl _, (fun t ht => by cases ht), rfl, rfl⟩ ?_ ?_
  · rintro i σ H6 hi ⟨G, ts', n0, n1, z9, z10, z11, z12, z13, z14, z15, A6, e6', pr, hlen, rfl⟩
    rw [Int.zero_add]
    have e6 := g9.trans e6'
    have kf := e6' _ _ k9
    have hi' : i < hs.length := by rw [Int.toNat_natCast, List.length_map] at hi; omega
    obtain ⟨t, ht1, ht2, ht3⟩ := pick (l := tsH) (k := i) (by rw [htl]; exact hi')
    obtain ⟨b, hb1, hb2, hb3⟩ := pick (l := bs) (k := i) (by rw [lbs]; exact hi')
    obtain ⟨⟨nm, os, pm, rs⟩, hh1, ow, hX1', hX2', hX3⟩ := Paired.nth hpp5 ht1
    have hok := hsok _ (List.mem_of_getElem? hh1)
    obtain ⟨hok1, hok2, hok3, hok4, hok5, hok6⟩ := hok
    dsimp only at hX1' hX2' hok1 hok2 hok3 hok4 hok5 hok6
    have hX1 := e6 _ _ hX1'
    have hX2 := e6 _ _ hX2'
    have okx : ∀ x ∈ xs, Ok x := fun x hx => ok_name (hxn x hx)
    refine ⟨_, rfl, _, rfl, hl, _, _, _, rfl, rfl, SqL.of (A6.rd (e6 _ _ hhl5)), ht2, t, _, rfl, SqT.of (A6.rd hX1), rfl, _, _, rfl, _, _, rfl, _, _, rfl, _, _, rfl, rfl, ?_⟩
    refine ⟨_, rfl, fl, _, _, _, rfl, rfl, SqL.of (A6.rd kf), rfl, _, rfl, _, rfl, _, rfl, ow, _, rfl, SqL.of (A6.rd hX2), fun p1 hp1 => ?_⟩
    rw [cut_takeV, ← List.map_take]
    have hpl6 : (os.take pm).length ≤ 6 := by rw [List.length_take]; omega
    have hpx : ∀ y ∈ os.take pm, y ∈ xs := fun y hy => hok2 y (List.mem_of_mem_take hy)
    have k7 : (upd H6 p1 (.lst ((os.take pm).map V.str))) p1 = some (.lst ((os.take pm).map V.str)) := upd_same
    have np1 : p1 ≠ f0 := fun z => (A6.nofre hp1) (.inr (.inl z))
    have A7 := A6.new hp1 (.lst ((os.take pm).map V.str))
    have d7 := same_new (A6.fre hp1) (.lst ((os.take pm).map V.str))
    generalize upd H6 p1 (.lst ((os.take pm).map V.str)) = H7, upd G p1 (.lst ((os.take pm).map V.str)) = G7 at A7 d7 k7 ⊢
    have e7 := e6.trans d7
    refine ⟨f0, p1, _, os.take pm, 2, rfl, A7.a0, k7, np1, Nat.le_trans hpl6 (by decide), by decide, fun t1 fa pa F1 P1 n0' H8 f8 N1 => ?_⟩
    obtain ⟨G8, A8, g8, tp8, rw8⟩ := A7.draw f8
    have e8 := e7.trans g8
    have nmt : ∀ {G' H' : Hp} {us : List V} {g0 g1 : Addr} {m0 m1 : Int}, At3 pl g0 g1 H' G' us m0 m1 → Same H5 G' → ∀ x, (wo H' g0) x = none → ¬ Mt lv ss x := fun A' e' x hx z => by
      obtain ⟨us, hu⟩ := W4.mt _ z
      have hg := e' _ _ hu
      rw [wo_ne (fun y => (A'.ne hg) (.inr (.inl y))), A'.rd hg] at hx; cases hx
    have oks := ok_some (xs := os.take pm) fun x hx => hxn x (hpx x hx)
    have T1 : ToldX K G8 (Mt lv ss) t1 := ⟨fa, pa, F1, P1, tp8 _ _ N1.tup, rw8 K _ _ N1.nf N1.facts, rw8 K _ _ N1.np N1.parts, nmt A7 e7 _ N1.nf, nmt A7 e7 _ N1.np, fun r hr => ok_fact oks (N1.okF r hr), fun r hr => ok_part oks (N1.okP r hr), Nat.le_trans N1.lf (by decide), Nat.le_trans N1.lp (by decide)⟩
    have d8 := d7.trans g8
    refine ⟨_, rfl, fl, _, _, _, rfl, rfl, SqL.of (A8.rd (d8 _ _ kf)), rfl, _, rfl, _, rfl, _, rfl, ow, _, rfl, SqL.of (A8.rd (d8 _ _ hX2)), fun p2 hp2 => ?_⟩
    rw [cut_takeV, ← List.map_take]
    have k9 : (upd H8 p2 (.lst ((os.take pm).map V.str))) p2 = some (.lst ((os.take pm).map V.str)) := upd_same
    have A9 := A8.new hp2 (.lst ((os.take pm).map V.str))
    have g9 := same_new (A8.fre hp2) (.lst ((os.take pm).map V.str))
    generalize upd H8 p2 (.lst ((os.take pm).map V.str)) = H9, upd G8 p2 (.lst ((os.take pm).map V.str)) = G9 at A9 g9 k9 ⊢
    refine ⟨_, rfl, (show 1 ≤ sizeLine by decide), fun x3 hx3 => ?_⟩
    have k10 : (upd H9 x3 (.lst ([rs].map V.str))) x3 = some (.lst ([rs].map V.str)) := upd_same
    have s10 := same_new hx3 (.lst ([rs].map V.str))
    have A10 := A9.new hx3 (.lst ([rs].map V.str))
    have g10 := g9.trans (same_new (A9.fre hx3) (.lst ([rs].map V.str)))
    change ∃ a, _
    generalize upd G9 x3 (.lst ([rs].map V.str)) = G10 at A10 g10
    refine ⟨x3, rfl, ⟨_, SqL.of k10⟩, ?_⟩
    refine comp_words [rs] (fun w => !decide (V.str w = V.str "")) jseq_list (SqL.of k10) (by simp) (fun n hn H2 e Q' q' => ⟨_, rfl, rfl, _, rfl, q' H2 (Same.refl _)⟩) (fun n H2 Q' q' => ⟨_, rfl, q'⟩) (fun p3 H11 hp3 s11 k11 => ?_)
    have k9' := s11 _ _ (s10 _ _ k9)
    obtain ⟨G11, A11, g11'⟩ := A10.same s11
    have g11 := g10.trans g11'
    have hqx : ∀ y ∈ os.take pm ++ [rs].filter (fun w => !decide (V.str w = V.str "")), y ∈ xs := fun y hy => by
      rcases List.mem_append.mp hy with z | z
      · exact hpx y z
      · obtain ⟨z1, z2⟩ := List.mem_filter.mp z
        rw [List.mem_singleton.mp z1] at z2 ⊢
        rcases hok6 with y' | y'
        · rw [y'] at z2; cases z2
        · exact hok2 _ y'
    have hfl' : ([rs].filter (fun w => !decide (V.str w = V.str ""))).length ≤ 1 := List.length_filter_le _ _
    generalize [rs].filter (fun w => !decide (V.str w = V.str "")) = fr at k11 hqx hfl'
    refine ⟨p2, p3, _, _, rfl, rfl, k9', k11, le_line (by rw [List.length_map, List.length_map]; omega), fun p4 hp4 => ?_⟩
    have k12 : (upd H11 p4 (.lst ((os.take pm).map V.str ++ fr.map V.str))) p4 = some (.lst ((os.take pm ++ fr).map V.str)) := by rw [upd_same, List.map_append]
    have np4 : p4 ≠ f1 := fun z => (A11.nofre hp4) (.inr (.inr z))
    have A12 := A11.new hp4 (.lst ((os.take pm).map V.str ++ fr.map V.str))
    have g12 := g11.trans (same_new (A11.fre hp4) (.lst ((os.take pm).map V.str ++ fr.map V.str)))
    generalize upd H11 p4 (.lst ((os.take pm).map V.str ++ fr.map V.str)) = H12, upd G11 p4 (.lst ((os.take pm).map V.str ++ fr.map V.str)) = G12 at A12 g12 k12 ⊢
    have hql : (os.take pm ++ fr).length ≤ 20 := by rw [List.length_append]; omega
    generalize os.take pm ++ fr = qs at k12 hqx hql
    have e12 := e8.trans g12
    refine ⟨f1, p4, _, qs, 2, rfl, A12.a1, k12, np4, hql, by decide, fun t2 fa2 pa2 F2 P2 n1' H13 f13 N2 => ?_⟩
    obtain ⟨G13, A13', g13', tp13, rw13⟩ := A12.swap.draw f13
    have A13 := A13'.swap
    have oks2 := ok_some (xs := qs) fun x hx => hxn x (hqx x hx)
    have T2 : ToldX K G13 (Mt lv ss) t2 := ⟨fa2, pa2, F2, P2, tp13 _ _ N2.tup, rw13 K _ _ N2.nf N2.facts, rw13 K _ _ N2.np N2.parts, nmt A12.swap e12 _ N2.nf, nmt A12.swap e12 _ N2.np, fun r hr => ok_fact oks2 (N2.okF r hr), fun r hr => ok_part oks2 (N2.okP r hr), Nat.le_trans N2.lf (by decide), Nat.le_trans N2.lp (by decide)⟩
    have g13 := g12.trans g13'
    have d13 := d8.trans g13
    have e13 := e6.trans d13
    have T1' := T1.same g13
    clear N1 N2 T1 k12 k11 k9' k10 k9 k7 A12 A11 A10 A9 A8 A7 s10 s11 hp3 hp4 hx3 hp1 hp2
    refine ⟨_, rfl, (.inl ⟨rfl, _, SqL.of A13.at'⟩), _, rfl, _, rfl, _, rfl, _, rfl, ow, _, rfl, SqL.of (A13.rd (d13 _ _ hX2)), fun p5 hp5 => ?_⟩
    rw [cut_takeV, ← List.map_take]
    have k14 : (upd H13 p5 (.lst ((os.take pm).map V.str))) p5 = some (.lst ((os.take pm).map V.str)) := upd_same
    have A14 := A13.new hp5 (.lst ((os.take pm).map V.str))
    have g14 := same_new (A13.fre hp5) (.lst ((os.take pm).map V.str))
    generalize upd H13 p5 (.lst ((os.take pm).map V.str)) = H14, upd G13 p5 (.lst ((os.take pm).map V.str)) = G14 at A14 g14 k14 ⊢
    refine ⟨p5, _, rfl, .inl ⟨SqL.of k14, fun pt hpt => ?_⟩⟩
    have k15 : (upd G14 pt (.tup ((os.take pm).map V.str))) pt = some (.tup ((os.take pm).map V.str)) := upd_same
    have A15 := A14.new hpt (.tup ((os.take pm).map V.str))
    have g15 := g14.trans (same_new (A14.fre hpt) (.tup ((os.take pm).map V.str)))
    generalize upd H14 pt (.tup ((os.take pm).map V.str)) = H15, upd G14 pt (.tup ((os.take pm).map V.str)) = G15 at A15 g15 k15 ⊢
    have e15 := e13.trans g15
    refine ⟨_, rfl, _, rfl, _, rfl, _, rfl, _, rfl, bl, _, _, _, rfl, rfl, SqL.of (A15.rd (e15 _ _ hbl5)), hb2, (show 6 ≤ sizeLine by decide), fun nt hnt => ?_⟩
    have k16 : (upd G15 nt (.tup [.str nm, .ref pt, .str rs, .ref t1, .ref t2, .ref b])) nt = some (.tup [.str nm, .ref pt, .str rs, .ref t1, .ref t2, .ref b]) := upd_same
    have A16 := A15.new hnt (.tup [.str nm, .ref pt, .str rs, .ref t1, .ref t2, .ref b])
    have g16' := same_new (A15.fre hnt) (.tup [.str nm, .ref pt, .str rs, .ref t1, .ref t2, .ref b])
    generalize upd H15 nt (.tup [.str nm, .ref pt, .str rs, .ref t1, .ref t2, .ref b]) = H16, upd G15 nt (.tup [.str nm, .ref pt, .str rs, .ref t1, .ref t2, .ref b]) = G16 at A16 g16' k16 ⊢
    have g16 := g15.trans g16'
    refine ⟨pl, _, _, rfl, rfl, A16.at', lt_line (by rw [List.length_map]; omega), ?_⟩
    have np : ProcAt K G16 lv ss nt := ⟨nm, rs, os.take pm, pt, t1, t2, b, k16, g16' _ _ k15, T1'.same g16, T2.same g16, hb0 b hb3, okx _ hok1, (by
      rcases hok6 with y' | y'
      · rw [y']; exact ok_words "" (by simp)
      · exact okx _ (hok2 _ y')), fun y hy => okx y (hpx y hy)⟩
    have A17 := A16.app (us' := (ts' ++ [nt]).map V.ref)
    rw [List.map_append] at A17
    refine ⟨G16, ts' ++ [nt], _, _, _, _, _, _, _, _, _, by rw [List.map_append]; exact A17, (e6'.trans d13).trans g16, fun t ht => ?_, by rw [List.length_append, hlen]; rfl, rfl⟩
    rcases List.mem_append.mp ht with z | z
    · exact (pr t z).same (d13.trans g16)
    · rw [List.mem_singleton.mp z]; exact np
  rintro σ H6 ⟨G, ts', n0, n1, z9, z10, z11, z12, z13, z14, z15, A6, e6', pr, hlen, rfl⟩
  refine hN2 _ _ ⟨_, rfl, ?_⟩
  have e6 := g9.trans e6'
  have gb : Same G H6 := fun c o h => A6.rd h
  refine q pl ts' lv ss H6 ⟨(E5.trans e6).trans gb, A6.at', (W4.same e6).same gb, fun t ht => (pr t ht).same gb, ?_⟩
  rw [Int.toNat_natCast, List.length_map] at hlen
  omega
end
end K43
namespace K43
open PySem PySem.Spec L2 Mir
structure Dn (n : Nat) (d : PyData) : Prop where
  lay : d.canLay0 = true
  dep : d.depth ≤ n
theorem Dn.ok {n : Nat} {d : PyData} (h : Dn n d) (hn : n ≤ 16) : EqOk d := ⟨h.lay, Nat.le_trans h.dep hn⟩
theorem Dn.mono {m n : Nat} {d : PyData} (h : Dn m d) (hn : m ≤ n) : Dn n d := ⟨h.lay, Nat.le_trans h.dep hn⟩
theorem dn_all {n : Nat} : ∀ {ds : List PyData}, (∀ d ∈ ds, Dn n d) → PyData.canLayAll0 ds = true ∧ PyData.depthAll ds ≤ n
  | [], _ => ⟨by simp only [PyData.canLayAll0], by simp only [PyData.depthAll]; omega⟩
  | d :: ds, h => by
    obtain ⟨h1, h2⟩ := dn_all (ds := ds) fun x hx => h x (List.mem_cons_of_mem _ hx)
    have h3 := h d (List.mem_cons_self ..)
    refine ⟨?_, ?_⟩
    · simp only [PyData.canLayAll0, Bool.and_eq_true]
      exact ⟨h3.lay, h1⟩
    · simp only [PyData.depthAll]
      exact Nat.max_le.mpr ⟨h3.dep, h2⟩
theorem Dn.lst {n : Nat} {ds : List PyData} (h : ∀ d ∈ ds, Dn n d) : Dn (n + 1) (.list ds) := by
  obtain ⟨h1, h2⟩ := dn_all h
  refine ⟨?_, ?_⟩
  · simp only [PyData.canLay0]; exact h1
  · simp only [PyData.depth]; omega
theorem Dn.tup {n : Nat} {ds : List PyData} (h : ∀ d ∈ ds, Dn n d) : Dn (n + 1) (.tuple ds) := by
  obtain ⟨h1, h2⟩ := dn_all h
  refine ⟨?_, ?_⟩
  · simp only [PyData.canLay0]; exact h1
  · simp only [PyData.depth]; omega
theorem Dn.str {n : Nat} {x : Str} (h : Ok x) : Dn n (.str x) := ⟨h, by simp only [PyData.depth]; exact Nat.zero_le _⟩
theorem dn_row {r : List Str} (h : ∀ y ∈ r, Ok y) : Dn 1 (dRow r) := by
  refine Dn.tup fun e he => ?_
  obtain ⟨y, hy, rfl⟩ := List.mem_map.mp he
  exact Dn.str (h y hy)
theorem dn_rows {rs : List (List Str)} (h : ∀ r ∈ rs, ∀ y ∈ r, Ok y) : Dn 2 (.list (rs.map dRow)) := by
  refine Dn.lst fun d hd => ?_
  obtain ⟨r, hr, rfl⟩ := List.mem_map.mp hd
  exact dn_row (h r hr)
inductive Deed
  | plain (p : Pl)
  | cond (r : List Str) (a b : List Deed)
  | loop (r : List Str) (F P : List (List Str)) (a : List Deed)
noncomputable def plD : Pl → PyData
  | .row r => dRow r
  | .call x c vs => .tuple [.str "call", .str x, .str c, dRow vs]
noncomputable def toldD (F P : List (List Str)) : PyData := .tuple [.list (F.map dRow), .list (P.map dRow)]
noncomputable def deedD (f : List Deed → PyData) : Deed → PyData
  | .plain p => plD p
  | .cond r a b => .tuple [.str "if", dRow r, f a, f b]
  | .loop r F P a => .tuple [.str "while", dRow r, toldD F P, f a]
noncomputable def listD : List Nat → List Deed → PyData
  | [], _ => .none
  | _ :: bs, ds => .list (ds.map (deedD (listD bs)))
inductive DeedX (K : PySem.W.Frag) (H : Hp) (L : Addr → List Deed → Prop) (t : Addr) : Deed → Prop
  | plain (p : Pl) (h1 : PlAt H t p) (h2 : PlOk p) : DeedX K H L t (.plain p)
  | cond (c i o : Addr) (r : List Str) (a b : List Deed) (h : H t = some (.tup [.str "if", .ref c, .ref i, .ref o])) (hc : H c = some (.tup (r.map V.str))) (okr : ∀ y ∈ r, Ok y) (hi : L i a) (ho : L o b) : DeedX K H L t (.cond r a b)
  | loop (c td i fa pa : Addr) (r : List Str) (F P : List (List Str)) (a : List Deed) (h : H t = some (.tup [.str "while", .ref c, .ref td, .ref i])) (hc : H c = some (.tup (r.map V.str))) (okr : ∀ y ∈ r, Ok y) (htd : H td = some (.tup [.ref fa, .ref pa])) (hF : RowsAt K H fa F) (hP : RowsAt K H pa P) (okF : ∀ r ∈ F, ∀ y ∈ r, Ok y) (okP : ∀ r ∈ P, ∀ y ∈ r, Ok y) (lF : F.length ≤ 10) (lP : P.length ≤ 10) (hi : L i a) : DeedX K H L t (.loop r F P a)
noncomputable def ListX (K : PySem.W.Frag) (H : Hp) : List Nat → Addr → List Deed → Prop
  | [], _, _ => False
  | b :: bs, l, ds => ∃ ts : List Addr, H l = some (.lst (ts.map V.ref)) ∧ Paired (DeedX K H (ListX K H bs)) ts ds ∧ ts.length ≤ b
section
variable {K : PySem.W.Frag} {H H' : Hp}
theorem DeedX.same {L L' : Addr → List Deed → Prop} {t : Addr} {d : Deed} (h : DeedX K H L t d) (e : Same H H') (hL : ∀ l ds, L l ds → L' l ds) : DeedX K H' L' t d := by
  cases h with
  | plain p h1 h2 => exact .plain p (h1.same e) h2
  | cond c i o r a b h hc okr hi ho => exact .cond c i o r a b (e _ _ h) (e _ _ hc) okr (hL _ _ hi) (hL _ _ ho)
  | loop c td i fa pa r F P a h hc okr htd hF hP okF okP lF lP hi => exact .loop c td i fa pa r F P a (e _ _ h) (e _ _ hc) okr (e _ _ htd) (hF.same e) (hP.same e) okF okP lF lP (hL _ _ hi)
theorem ListX.same : ∀ {bs : List Nat} {l : Addr} {ds : List Deed}, ListX K H bs l ds → Same H H' → ListX K H' bs l ds
  | [], _, _, h, _ => h.elim
  | b :: bs, l, ds, h, e => by
    obtain ⟨ts, h1, h2, h3⟩ := h
    exact ⟨ts, e _ _ h1, Paired.mapP h2 fun _ _ z => z.same e fun _ _ y => ListX.same y e, h3⟩
theorem PlAt.dp {t : Addr} {p : Pl} (h : PlAt H t p) : Dp K H (.ref t) (plD p) := by
  cases p with
  | row r => exact RowAt.dp (SqT.of h)
  | call x c vs =>
    obtain ⟨v, h1, h2⟩ := h
    exact .tup (SqT.of h1) (.cons (.str _) (.cons (.str _) (.cons (.str _) (.cons (RowAt.dp (SqT.of h2)) .nil))))
theorem DeedX.dp {L : Addr → List Deed → Prop} {f : List Deed → PyData} {t : Addr} {d : Deed} (h : DeedX K H L t d) (hL : ∀ l ds, L l ds → Dp K H (.ref l) (f ds)) : Dp K H (.ref t) (deedD f d) := by
  cases h with
  | plain p h1 h2 => exact h1.dp
  | cond c i o r a b h hc okr hi ho => exact .tup (SqT.of h) (.cons (.str _) (.cons (RowAt.dp (SqT.of hc)) (.cons (hL _ _ hi) (.cons (hL _ _ ho) .nil))))
  | loop c td i fa pa r F P a h hc okr htd hF hP okF okP lF lP hi => exact .tup (SqT.of h) (.cons (.str _) (.cons (RowAt.dp (SqT.of hc)) (.cons (.tup (SqT.of htd) (.cons hF.dp (.cons hP.dp .nil))) (.cons (hL _ _ hi) .nil))))
theorem PlOk.dn {p : Pl} (h : PlOk p) : Dn 2 (plD p) := by
  cases p with
  | row r => exact (dn_row h.2).mono (by decide)
  | call x c vs =>
    obtain ⟨h1, h2, h3⟩ := h
    refine Dn.tup fun d hd => ?_
    simp only [List.mem_cons, List.not_mem_nil, or_false] at hd
    rcases hd with rfl | rfl | rfl | rfl
    · exact Dn.str (ok_words "call" (by simp))
    · exact Dn.str h1
    · exact Dn.str h2
    · exact dn_row h3
theorem DeedX.dn {L : Addr → List Deed → Prop} {f : List Deed → PyData} {t : Addr} {d : Deed} {n : Nat} (h : DeedX K H L t d) (hL : ∀ l ds, L l ds → Dn n (f ds)) (hn : 3 ≤ n) : Dn (n + 1) (deedD f d) := by
  cases h with
  | plain p h1 h2 => exact h2.dn.mono (by omega)
  | cond c i o r a b h hc okr hi ho =>
    refine Dn.tup fun d hd => ?_
    simp only [List.mem_cons, List.not_mem_nil, or_false] at hd
    rcases hd with rfl | rfl | rfl | rfl
    · exact Dn.str (ok_words "if" (by simp))
    · exact (dn_row okr).mono (by omega)
    · exact hL _ _ hi
    · exact hL _ _ ho
  | loop c td i fa pa r F P a h hc okr htd hF hP okF okP lF lP hi =>
    refine Dn.tup fun d hd => ?_
    simp only [List.mem_cons, List.not_mem_nil, or_false] at hd
    rcases hd with rfl | rfl | rfl | rfl
    · exact Dn.str (ok_words "while" (by simp))
    · exact (dn_row okr).mono (by omega)
    · refine (Dn.tup (n := 2) fun d hd => ?_).mono hn
      simp only [List.mem_cons, List.not_mem_nil, or_false] at hd
      rcases hd with rfl | rfl
      · exact dn_rows okF
      · exact dn_rows okP
    · exact hL _ _ hi
theorem dp_pair {α : Type} {R : Addr → α → Prop} {g : α → PyData} : ∀ {ts : List Addr} {ds : List α}, Paired R ts ds → (∀ t d, R t d → Dp K H (.ref t) (g d)) → DpAll K H (ts.map V.ref) (ds.map g)
  | _, _, .nil, _ => .nil
  | _, _, .cons h1 h2, f => .cons (f _ _ h1) (dp_pair h2 f)
theorem ListX.dp : ∀ {bs : List Nat} {l : Addr} {ds : List Deed}, ListX K H bs l ds → Dp K H (.ref l) (listD bs ds)
  | [], _, _, h => h.elim
  | b :: bs, l, ds, h => by
    obtain ⟨ts, h1, h2, h3⟩ := h
    exact .lst (SqL.of h1) (dp_pair h2 fun t d z => z.dp fun _ _ y => ListX.dp y)
theorem ListX.dn : ∀ {bs : List Nat} {l : Addr} {ds : List Deed}, ListX K H bs l ds → Dn (3 + 2 * bs.length) (listD bs ds)
  | [], _, _, h => h.elim
  | b :: bs, l, ds, h => by
    obtain ⟨ts, h1, h2, h3⟩ := h
    have : 3 + 2 * (b :: bs).length = (3 + 2 * bs.length + 1) + 1 := by rw [List.length_cons]; omega
    rw [this]
    refine Dn.lst fun x hx => ?_
    obtain ⟨d, hd, rfl⟩ := List.mem_map.mp hx
    obtain ⟨i, hi⟩ := List.getElem?_of_mem hd
    have hlt : i < ts.length := by rw [Paired.length h2]; exact (List.getElem?_eq_some_iff.mp hi).1
    obtain ⟨d', hd', hx'⟩ := Paired.nth h2 (List.getElem?_eq_getElem hlt)
    rw [hi] at hd'; cases hd'
    exact hx'.dn (fun _ _ y => ListX.dn y) (by omega)
noncomputable def bnds (d : Nat → Nat) (k : Nat) : Nat → List Nat
  | 0 => []
  | m + 1 => d k :: bnds d (k + 1) m
theorem paired_ex {α : Type} {R : Addr → α → Prop} : ∀ {ts : List Addr}, (∀ t ∈ ts, ∃ d, R t d) → ∃ ds, Paired R ts ds
  | [], _ => ⟨[], .nil⟩
  | t :: ts, h => by
    obtain ⟨d, hd⟩ := h t (List.mem_cons_self ..)
    obtain ⟨ds, hds⟩ := paired_ex (ts := ts) fun x hx => h x (List.mem_cons_of_mem _ hx)
    exact ⟨d :: ds, .cons hd hds⟩
theorem Wk.list {lv : Lv} {S : List Addr} {n : Nat} {d : Nat → Nat} (W : Wk K H lv S n) (hd : ∀ a k (ts : List Addr), lv a = some k → H a = some (.lst (ts.map V.ref)) → ts.length ≤ d k) : ∀ (m k : Nat) (a : Addr), k + m = 5 → lv a = some k → ∃ ds, ListX K H (bnds d k m) a ds
  | 0, k, a, hk, ha => by
    have := W.low a k ha
    omega
  | m + 1, k, a, hk, ha => by
    obtain ⟨ts, h1, h2, h3⟩ := W.lists a k ha
    obtain ⟨ds, hds⟩ : ∃ ds, Paired (DeedX K H (ListX K H (bnds d (k + 1) m))) ts ds := paired_ex fun t ht => by
      cases h3 t ht with
      | plain p h1 h2 => exact ⟨_, .plain p h1 h2⟩
      | cond c i o r h hc okr hi ho =>
        obtain ⟨a', ha'⟩ := Wk.list W hd m (k + 1) i (by omega) hi
        obtain ⟨b', hb'⟩ := Wk.list W hd m (k + 1) o (by omega) ho
        exact ⟨_, .cond c i o r a' b' h hc okr ha' hb'⟩
      | loop c td i fa pa r F P h hc okr htd hF hP nF nP okF okP lF lP hi =>
        obtain ⟨a', ha'⟩ := Wk.list W hd m (k + 1) i (by omega) hi
        exact ⟨_, .loop c td i fa pa r F P a' h hc okr htd hF hP okF okP lF lP ha'⟩
    exact ⟨ds, ts, h1, hds, hd a k ts ha h1⟩
noncomputable def dcD (f : List Deed → Nat) : Deed → Nat
  | .plain _ => 1
  | .cond _ a b => 1 + (f a + f b)
  | .loop _ _ _ a => 1 + f a
noncomputable def dcL : List Nat → List Deed → Nat
  | [], _ => 0
  | _ :: bs, ds => (ds.map (dcD (dcL bs))).sum
inductive Rch (H : Hp) (lv : Lv) (x : Addr) : Addr → Prop
  | refl : Rch H lv x x
  | step (b : Addr) (i : Nat) (t c : Addr) (s : Nat) (h : Rch H lv x b) (hp : Psn H lv b i t) (hi : Inn H t c s) : Rch H lv x c
section
variable {lv : Lv} {S : List Addr} {n : Nat}
theorem Wk.innL (W : Wk K H lv S n) {b : Addr} {i : Nat} {t c : Addr} {s k : Nat} (hp : Psn H lv b i t) (hi : Inn H t c s) (hk : lv b = some k) : lv c = some (k + 1) := by
  obtain ⟨k', h1, h2⟩ := W.psn hp
  rw [hk] at h1; cases h1
  exact h2.inn hi
theorem Wk.lvR (W : Wk K H lv S n) {x b : Addr} {k : Nat} (h : Rch H lv x b) (hk : lv x = some k) : b = x ∨ ∃ m, lv b = some (k + 1 + m) := by
  induction h with
  | refl => exact .inl rfl
  | step b i t c s h hp hi ih =>
    rcases ih with rfl | ⟨m, hm⟩
    · exact .inr ⟨0, W.innL hp hi hk⟩
    · exact .inr ⟨m + 1, W.innL hp hi hm⟩
theorem Wk.rch1 (W : Wk K H lv S n) {x y b : Addr} {k : Nat} (h : Rch H lv x b) (h' : Rch H lv y b) (hx : lv x = some k) (hy : lv y = some k) : x = y := by
  induction h with
  | refl =>
    rcases W.lvR h' hy with e | ⟨m, hm⟩
    · exact e
    · rw [hx] at hm; have := Option.some.inj hm; omega
  | step b i t c s h hp hi ih =>
    cases h' with
    | refl =>
      rcases W.lvR h hx with rfl | ⟨m, hm⟩
      · have := W.innL hp hi hx
        rw [hy] at this; have := Option.some.inj this; omega
      · have := W.innL hp hi hm
        rw [hy] at this; have := Option.some.inj this; omega
    | step b' i' t' _ s' h2 hp2 hi2 =>
      obtain ⟨rfl, _, _⟩ := W.one _ _ _ _ _ _ _ _ _ hp hi hp2 hi2
      exact ih h2
noncomputable def InD (H : Hp) (lv : Lv) (t : Addr) (q : Addr × Nat) : Prop := (∃ u, Psn H lv q.1 q.2 u) ∧ ∃ c s, Inn H t c s ∧ Rch H lv c q.1
theorem Wk.inD (W : Wk K H lv S n) {L : Addr → List Deed → Prop} {f : List Deed → Nat} (hL : ∀ l ds k, L l ds → lv l = some k → ∃ qs : List (Addr × Nat), qs.length = f ds ∧ qs.Nodup ∧ ∀ q ∈ qs, Rch H lv l q.1 ∧ ∃ u, Psn H lv q.1 q.2 u) {l t : Addr} {j k : Nat} {d : Deed} (hk : lv l = some k) (hp : Psn H lv l j t) (h : DeedX K H L t d) : ∃ qs : List (Addr × Nat), 1 + qs.length = dcD f d ∧ qs.Nodup ∧ ∀ q ∈ qs, InD H lv t q := by
  cases h with
  | plain p h1 h2 => exact ⟨[], rfl, .nil, fun q hq => by cases hq⟩
  | cond c i o r a b h hc okr hi ho =>
    have i0 : Inn H t i 0 := .i0 _ _ h
    have i1 : Inn H t o 1 := .i1 _ _ h
    have l0 := W.innL hp i0 hk
    have l1 := W.innL hp i1 hk
    obtain ⟨qa, a1, a2, a3⟩ := hL _ _ _ hi l0
    obtain ⟨qb, b1, b2, b3⟩ := hL _ _ _ ho l1
    refine ⟨qa ++ qb, by rw [List.length_append, a1, b1]; rfl, List.nodup_append.mpr ⟨a2, b2, fun x hx y hy e => ?_⟩, fun q hq => ?_⟩
    · subst e
      have e := W.rch1 (a3 _ hx).1 (b3 _ hy).1 l0 l1
      subst e
      have := (W.one _ _ _ _ _ _ _ _ _ hp i0 hp i1).2.2
      omega
    · rcases List.mem_append.mp hq with z | z
      · exact ⟨(a3 q z).2, _, _, i0, (a3 q z).1⟩
      · exact ⟨(b3 q z).2, _, _, i1, (b3 q z).1⟩
  | loop c td i fa pa r F P a h hc okr htd hF hP okF okP lF lP hi =>
    have i0 : Inn H t i 0 := .w0 _ _ h
    obtain ⟨qa, a1, a2, a3⟩ := hL _ _ _ hi (W.innL hp i0 hk)
    exact ⟨qa, by rw [a1]; rfl, a2, fun q z => ⟨(a3 q z).2, _, _, i0, (a3 q z).1⟩⟩
theorem Wk.seg (W : Wk K H lv S n) {L : Addr → List Deed → Prop} {f : List Deed → Nat} (hL : ∀ l ds k, L l ds → lv l = some k → ∃ qs : List (Addr × Nat), qs.length = f ds ∧ qs.Nodup ∧ ∀ q ∈ qs, Rch H lv l q.1 ∧ ∃ u, Psn H lv q.1 q.2 u) {l : Addr} {k : Nat} (hk : lv l = some k) :
    ∀ {ts : List Addr} {ds : List Deed} (j : Nat), Paired (DeedX K H L) ts ds → (∀ i t, ts[i]? = some t → Psn H lv l (j + i) t) → ∃ qs : List (Addr × Nat), qs.length = (ds.map (dcD f)).sum ∧ qs.Nodup ∧ ∀ q ∈ qs, (q.1 = l ∧ j ≤ q.2 ∧ ∃ u, Psn H lv q.1 q.2 u) ∨ ∃ i t, j ≤ i ∧ Psn H lv l i t ∧ InD H lv t q
  | _, _, j, .nil, _ => ⟨[], rfl, .nil, fun q hq => by cases hq⟩
  | t :: ts, d :: ds, j, .cons h r, hp => by
    have p0 := hp 0 t rfl
    rw [Nat.add_zero] at p0
    obtain ⟨qi, i1, i2, i3⟩ := W.inD hL hk p0 h
    obtain ⟨qs, r1, r2, r3⟩ := W.seg hL hk (j + 1) r fun i u hu => by
      have := hp (i + 1) u (by simpa using hu)
      rw [show j + 1 + i = j + (i + 1) by omega]; exact this
    have far : ∀ {u : Addr} {m : Nat} {q : Addr × Nat}, Psn H lv l m u → InD H lv u q → q.1 ≠ l := fun {u m q} hu ⟨_, c, s, hc, hr⟩ e => by
      have lc := W.innL hu hc hk
      rcases W.lvR hr lc with z | ⟨m, hm⟩
      · rw [← z, e, hk] at lc; have := Option.some.inj lc; omega
      · rw [e, hk] at hm; have := Option.some.inj hm; omega
    refine ⟨(l, j) :: (qi ++ qs), ?_, List.nodup_cons.mpr ⟨fun z => ?_, List.nodup_append.mpr ⟨i2, r2, fun x hx y hy e => ?_⟩⟩, fun q hq => ?_⟩
    · rw [List.length_cons, List.length_append, List.map_cons, List.sum_cons, ← i1, r1]; omega
    · rcases List.mem_append.mp z with z | z
      · exact far p0 (i3 _ z) rfl
      · rcases r3 _ z with ⟨_, g, _⟩ | ⟨i, u, g, hu, hI⟩
        · have : j + 1 ≤ j := g
          omega
        · exact far hu hI rfl
    · subst e
      rcases r3 _ hy with ⟨g, _⟩ | ⟨i, u, g, hu, hI⟩
      · exact far p0 (i3 _ hx) g
      · obtain ⟨_, c, s, hc, hr⟩ := i3 _ hx
        obtain ⟨_, c', s', hc', hr'⟩ := hI
        have e := W.rch1 hr hr' (W.innL p0 hc hk) (W.innL hu hc' hk)
        subst e
        have := (W.one _ _ _ _ _ _ _ _ _ p0 hc hu hc').2.1
        omega
    · rcases List.mem_cons.mp hq with rfl | hq
      · exact .inl ⟨rfl, Nat.le_refl _, _, p0⟩
      rcases List.mem_append.mp hq with z | z
      · exact .inr ⟨j, t, Nat.le_refl _, p0, i3 _ z⟩
      · rcases r3 _ z with ⟨g1, g2, g3⟩ | ⟨i, u, g, hu, hI⟩
        · exact .inl ⟨g1, Nat.le_of_succ_le g2, g3⟩
        · exact .inr ⟨i, u, Nat.le_of_succ_le g, hu, hI⟩
theorem Rch.front {x b c : Addr} {i s : Nat} {t : Addr} (hp : Psn H lv x i t) (hi : Inn H t b s) (h : Rch H lv b c) : Rch H lv x c := by
  induction h with
  | refl => exact .step x i t b s .refl hp hi
  | step b' i' t' c' s' h hp' hi' ih => exact .step b' i' t' c' s' ih hp' hi'
theorem Wk.pos (W : Wk K H lv S n) : ∀ (bs : List Nat) (l : Addr) (ds : List Deed) (k : Nat), ListX K H bs l ds → lv l = some k → ∃ qs : List (Addr × Nat), qs.length = dcL bs ds ∧ qs.Nodup ∧ ∀ q ∈ qs, Rch H lv l q.1 ∧ ∃ u, Psn H lv q.1 q.2 u
  | [], _, _, _, h, _ => h.elim
  | b :: bs, l, ds, k, h, hk => by
    obtain ⟨ts, h1, h2, h3⟩ := h
    obtain ⟨qs, q1, q2, q3⟩ := W.seg (fun l ds k h hk => Wk.pos W bs l ds k h hk) hk 0 h2 fun i t ht => ⟨k, ts, hk, h1, by rw [Nat.zero_add]; exact ht⟩
    refine ⟨qs, q1, q2, fun q hq => ?_⟩
    rcases q3 q hq with ⟨rfl, _, g⟩ | ⟨i, t, _, hu, g, c, s, hc, hr⟩
    · exact ⟨.refl, g⟩
    · exact ⟨hr.front hu hc, g⟩
theorem Wk.few (W : Wk K H lv S n) {bs : List Nat} {l : Addr} {ds : List Deed} {k : Nat} (h : ListX K H bs l ds) (hk : lv l = some k) : dcL bs ds ≤ n := by
  obtain ⟨qs, q1, q2, q3⟩ := W.pos bs l ds k h hk
  obtain ⟨nm, n1, n2⟩ := W.num
  have hd : (qs.map fun q => nm q.1 q.2).Nodup := by
    refine List.pairwise_map.mpr (List.Pairwise.imp_of_mem (fun {x y} hx hy ne e => ?_) q2)
    obtain ⟨_, u, hu⟩ := q3 x hx
    obtain ⟨_, v, hv⟩ := q3 y hy
    obtain ⟨e1, e2⟩ := n2 _ _ _ _ _ _ hu hv e
    exact ne (Prod.ext e1 e2)
  have := List.Nodup.length_le_of_subset hd (l₂ := List.range n) fun x hx => by
    obtain ⟨q, hq, rfl⟩ := List.mem_map.mp hx
    obtain ⟨_, u, hu⟩ := q3 q hq
    exact List.mem_range.mpr (n1 _ _ _ hu)
  rw [List.length_map, List.length_range, q1] at this
  exact this
end
structure Prc where
  name : Str
  res : Str
  ps : List Str
  F1 : List (List Str)
  P1 : List (List Str)
  F2 : List (List Str)
  P2 : List (List Str)
  body : List Deed
noncomputable def prcD (bs : List Nat) (p : Prc) : PyData := .tuple [.str p.name, dRow p.ps, .str p.res, toldD p.F1 p.P1, toldD p.F2 p.P2, listD bs p.body]
structure PrcX (K : PySem.W.Frag) (H : Hp) (bs : List Nat) (t pt t1 t2 f1 p1 f2 p2 bd : Addr) (p : Prc) : Prop where
  tup : H t = some (.tup [.str p.name, .ref pt, .str p.res, .ref t1, .ref t2, .ref bd])
  pt : H pt = some (.tup (p.ps.map V.str))
  t1 : H t1 = some (.tup [.ref f1, .ref p1])
  t2 : H t2 = some (.tup [.ref f2, .ref p2])
  f1 : RowsAt K H f1 p.F1
  p1 : RowsAt K H p1 p.P1
  f2 : RowsAt K H f2 p.F2
  p2 : RowsAt K H p2 p.P2
  body : ListX K H bs bd p.body
  okn : Ok p.name
  okr : Ok p.res
  okp : ∀ y ∈ p.ps, Ok y
  ok1 : (∀ r ∈ p.F1, ∀ y ∈ r, Ok y) ∧ ∀ r ∈ p.P1, ∀ y ∈ r, Ok y
  ok2 : (∀ r ∈ p.F2, ∀ y ∈ r, Ok y) ∧ ∀ r ∈ p.P2, ∀ y ∈ r, Ok y
  l1 : p.F1.length ≤ 10 ∧ p.P1.length ≤ 10
  l2 : p.F2.length ≤ 10 ∧ p.P2.length ≤ 10
noncomputable def PrcAt (K : PySem.W.Frag) (H : Hp) (bs : List Nat) (t : Addr) (p : Prc) : Prop := ∃ pt t1 t2 f1 p1 f2 p2 bd, PrcX K H bs t pt t1 t2 f1 p1 f2 p2 bd p
theorem PrcAt.same {bs : List Nat} {t : Addr} {p : Prc} (h : PrcAt K H bs t p) (e : Same H H') : PrcAt K H' bs t p := by
  obtain ⟨pt, t1, t2, f1, p1, f2, p2, bd, x⟩ := h
  exact ⟨pt, t1, t2, f1, p1, f2, p2, bd, e _ _ x.tup, e _ _ x.pt, e _ _ x.t1, e _ _ x.t2, x.f1.same e, x.p1.same e, x.f2.same e, x.p2.same e, x.body.same e, x.okn, x.okr, x.okp, x.ok1, x.ok2, x.l1, x.l2⟩
theorem told_dp {t f1 p1 : Addr} {F P : List (List Str)} (h : H t = some (.tup [.ref f1, .ref p1])) (hF : RowsAt K H f1 F) (hP : RowsAt K H p1 P) : Dp K H (.ref t) (toldD F P) := .tup (SqT.of h) (.cons hF.dp (.cons hP.dp .nil))
theorem told_dn {F P : List (List Str)} (h : (∀ r ∈ F, ∀ y ∈ r, Ok y) ∧ ∀ r ∈ P, ∀ y ∈ r, Ok y) : Dn 3 (toldD F P) := by
  refine Dn.tup fun d hd => ?_
  simp only [List.mem_cons, List.not_mem_nil, or_false] at hd
  rcases hd with rfl | rfl
  · exact dn_rows h.1
  · exact dn_rows h.2
theorem PrcAt.dp {bs : List Nat} {t : Addr} {p : Prc} (h : PrcAt K H bs t p) : Dp K H (.ref t) (prcD bs p) := by
  obtain ⟨pt, t1, t2, f1, p1, f2, p2, bd, x⟩ := h
  exact .tup (SqT.of x.tup) (.cons (.str _) (.cons (RowAt.dp (SqT.of x.pt)) (.cons (.str _) (.cons (told_dp x.t1 x.f1 x.p1) (.cons (told_dp x.t2 x.f2 x.p2) (.cons x.body.dp .nil))))))
theorem PrcAt.dn {bs : List Nat} {t : Addr} {p : Prc} (h : PrcAt K H bs t p) : Dn (3 + 2 * bs.length + 1) (prcD bs p) := by
  obtain ⟨pt, t1, t2, f1, p1, f2, p2, bd, x⟩ := h
  refine Dn.tup fun d hd => ?_
  simp only [List.mem_cons, List.not_mem_nil, or_false] at hd
  rcases hd with rfl | rfl | rfl | rfl | rfl | rfl
  · exact Dn.str x.okn
  · exact (dn_row x.okp).mono (by omega)
  · exact Dn.str x.okr
  · exact (told_dn x.ok1).mono (by omega)
  · exact (told_dn x.ok2).mono (by omega)
  · exact x.body.dn
theorem Prog.data {pl : Addr} {ts : List Addr} {lv : Lv} {S : List Addr} (h : Prog K H H' pl ts lv S) : ∃ (b0 b1 b2 b3 b4 : Nat) (ps : List Prc), b0 + b1 + b2 + b3 + b4 ≤ 24 ∧ Paired (fun t p => PrcAt K H' [b0, b1, b2, b3, b4] t p ∧ dcL [b0, b1, b2, b3, b4] p.body ≤ 24) ts ps := by
  obtain ⟨d, h1, h2⟩ := h.wk.sz
  obtain ⟨ps, hps⟩ : ∃ ps, Paired (fun t p => PrcAt K H' (bnds d 0 5) t p ∧ dcL (bnds d 0 5) p.body ≤ 24) ts ps := paired_ex fun t ht => by
    obtain ⟨nm, rs, pp, pt, t1, t2, bd, z, hp, z1, z2, hb, o1, o2, o3⟩ := h.procs t ht
    obtain ⟨f1, p1, F1, P1, a1, a2, a3, _, _, a6, a7, a8, a9⟩ := z1
    obtain ⟨f2, p2, F2, P2, c1, c2, c3, _, _, c6, c7, c8, c9⟩ := z2
    obtain ⟨ds, hds⟩ := h.wk.list h2 5 0 bd rfl hb
    exact ⟨⟨nm, rs, pp, F1, P1, F2, P2, ds⟩, ⟨pt, t1, t2, f1, p1, f2, p2, bd, z, hp, a1, c1, a2, a3, c2, c3, hds, o1, o2, o3, ⟨a6, a7⟩, ⟨c6, c7⟩, ⟨a8, a9⟩, ⟨c8, c9⟩⟩, h.wk.few hds hb⟩
  exact ⟨d 0, d 1, d 2, d 3, d 4, ps, h1, hps⟩
end
end K43
namespace L2
open PySem PySem.Spec
open Classical in
noncomputable def rm (X : Addr → Prop) (H : Hp) : Hp := fun c => if X c then none else H c
variable {X X' : Addr → Prop} {H H' : Hp}
theorem rm_at {c : Addr} (h : ¬ X c) : rm X H c = H c := by unfold rm; rw [if_neg h]
theorem rm_some {c : Addr} {o : HO} (h : rm X H c = some o) : ¬ X c ∧ H c = some o := by
  unfold rm at h
  by_cases z : X c
  · rw [if_pos z] at h; cases h
  · rw [if_neg z] at h; exact ⟨z, h⟩
theorem rm_back : Same (rm X H) H := fun _ _ h => (rm_some h).2
theorem rm_same (e : Same H H') : Same (rm X H) (rm X H') := fun b o h => by
  obtain ⟨h1, h2⟩ := rm_some h
  rw [rm_at h1]; exact e _ _ h2
theorem rm_sub (h : ∀ c, X c → X' c) : Same (rm X' H) (rm X H) := fun b o z => by
  obtain ⟨h1, h2⟩ := rm_some z
  rw [rm_at (fun y => h1 (h _ y))]; exact h2
theorem rm_upd {a : Addr} {o : HO} (h : X a) : rm X (upd H a o) = rm X H := by
  funext c
  by_cases z : X c
  · unfold rm; rw [if_pos z, if_pos z]
  · rw [rm_at z, rm_at z, upd_ne (fun y => z (by rw [y]; exact h))]
theorem rm_add {p : Addr} {o : HO} (hp : H p = none) : Same (rm X H) (rm (fun c => X c ∨ c = p) (upd H p o)) := fun b u h => by
  obtain ⟨h1, h2⟩ := rm_some h
  have nb := ne_of_none h2 hp
  rw [rm_at (fun z => z.elim h1 nb), upd_ne nb]; exact h2
end L2
namespace K43
open PySem PySem.Spec L2 Mir
noncomputable abbrev sCopy : Stmt := top 23
inductive spCopy (K : PySem.W.Frag) (bs : List Nat) (vs : List V) (H : Hp) (Q : VK) (E : XK) : Prop
  | mk (X : Addr → Prop) (l : Addr) (ds : List Deed) (h0 : vs = [.ref l]) (hX : ∀ c, X c → H c ≠ none) (h1 : ListX K (rm X H) bs l ds) (q : ∀ l' H', Same H H' → ListX K (rm X H') bs l' ds → Q (.ref l') H') : spCopy K bs vs H Q E
theorem at0 {α : Type} {x : α} {xs : List α} : atI (x :: xs) 0 = some x := atI_nat (xs := x :: xs) (v := x) (j := 0) rfl
inductive CI (K : PySem.W.Frag) (bs : List Nat) (X : Addr → Prop) (H H1 : Hp) (l fo : Addr) (ds : List Deed) (i : Nat) (σ : St) (H2 : Hp) : Prop
  | mk (us : List Addr) (z2 : Option V) (e : Same (rm X H1) (rm X H2)) (hf : H2 fo = some (.lst (us.map V.ref))) (hp : Paired (DeedX K (rm X H2) (ListX K (rm X H2) bs)) us (ds.take i)) (e0 : Same H H2) (hi : i ≤ ds.length) (hσ : σ = [some (.ref l), some (.ref fo), z2])
theorem CI.put {K : PySem.W.Frag} {bs : List Nat} {X : Addr → Prop} {H H1 H2 H3 : Hp} {l fo t : Addr} {ds : List Deed} {i : Nat} {us : List Addr} {d : Deed} {z : V} (hX : X fo) (hfo : H fo = none) (e : Same (rm X H1) (rm X H2)) (hp : Paired (DeedX K (rm X H2) (ListX K (rm X H2) bs)) us (ds.take i)) (e0 : Same H H2) (hd : ds[i]? = some d) (e3 : Same H2 H3) (ht : DeedX K (rm X H3) (ListX K (rm X H3) bs) t d) : CI K bs X H H1 l fo ds (i + 1) [some (.ref l), some (.ref fo), some z] (upd H3 fo (.lst (us.map V.ref ++ [.ref t]))) := by
  have r := rm_upd (H := H3) (o := .lst (us.map V.ref ++ [.ref t])) hX
  refine ⟨us ++ [t], some z, by rw [r]; exact e.trans (rm_same e3), by rw [upd_same, List.map_append]; rfl, ?_, fun b o h => ?_, (List.getElem?_eq_some_iff.mp hd).1, rfl⟩
  · rw [r, List.take_add_one, hd]
    exact Paired.snocP (Paired.mapP hp fun _ _ z => z.same (rm_same e3) fun _ _ y => y.same (rm_same e3)) ht
  · rw [upd_ne (ne_of_none h hfo)]; exact e3 _ _ (e0 _ _ h)
section
variable {P : Program} {w : World} {K : PySem.W.Frag} {mg : Str → Option Value} {base : Heap} {f : Addr} {fd : FuncData}
theorem scCopy : FnScope ["_law_deeds", "_law_found", "_law_deed"] ["_law_deeds"] (defScope sCopy) := ⟨rfl, rfl, rfl, by decide +kernel, rfl, by decide +kernel, by decide +kernel⟩
theorem ok_copy0 : FnOk P w K mg base CX0 1 f fd ["_law_deeds"] (spCopy K []) :=
  ⟨fun vs H Q E h => by obtain ⟨X, l, ds, _, _, h1, _⟩ := h; exact h1.elim, fun A outer s H args us vs Q E _ _ _ _ h => by obtain ⟨X, l, ds, _, _, h1, _⟩ := h; exact h1.elim⟩
theorem ok_copyS {n b : Nat} {bs : List Nat} (hb : b ≤ 24) (C : Con K mg w) (F : Fun K "_law_copy" "_law_copy" sCopy f fd) (GR : FnOk P w K mg base CX0 (n + 1) f fd ["_law_deeds"] (spCopy K bs)) (cR : Cal K mg "_law_copy" f fd ["_law_deeds"]) : FnOk P w K mg base CX0 (n + 1 + 1) f fd ["_law_deeds"] (spCopy K (b :: bs)) := by
  refine F.okQ scCopy (fun vs H Q E h => ?_) (fun cdv A outer s0 H vs Q E hr h => ?_)
  · obtain ⟨X, l, ds, rfl, _⟩ := h; rfl
  obtain ⟨X, l, ds, rfl, hX, ⟨ts, hl, hp, hlen⟩, q⟩ := h
  have nd := scCopy.nd
  refine ⟨_, qb_cons (qs_set (i := 1) nd rfl (Or.inl rfl) (qe_lst qa_nil))
    (qb_cons (qs_for PassesOwn.never rfl (qi_list (qv 0)) (qg_name (i := 2) nd rfl (Or.inl rfl)) (qb_one (qs_if (qt_cmpR op_eq (qe_ix ix_tup (qv 2) qe_int (fun _ _ => rfl)) qe_str (nomark _)) (qb_one (qs_expr (qe_bmK (K := K) rfl PySem.F.plainAttrs_list PySem.F.slot_list_append PySem.F.type_list_append mt_append (qv 1) (qa_tp (qa_str (qa_sub (qe_ix ix_tup (qv 2) qe_int (fun _ _ => rfl)) (qa_call (qe_call GR hr rfl cR.name cR.keep cR.bind .nil pass0 (qa_sub (qe_ix ix_tup (qv 2) qe_int (fun _ _ => rfl)) qa_nil)) (qa_call (qe_call GR hr rfl cR.name cR.keep cR.bind .nil pass0 (qa_sub (qe_ix ix_tup (qv 2) qe_int (fun _ _ => rfl)) qa_nil)) qa_nil)))) qa_nil)))) (qb_one (qs_if (qt_cmpR op_eq (qe_ix ix_tup (qv 2) qe_int (fun _ _ => rfl)) qe_str (nomark _)) (qb_one (qs_expr (qe_bmK (K := K) rfl PySem.F.plainAttrs_list PySem.F.slot_list_append PySem.F.type_list_append mt_append (qv 1) (qa_tp (qa_str (qa_sub (qe_ix ix_tup (qv 2) qe_int (fun _ _ => rfl)) (qa_tp (qa_call (qe_callTy call_list_of rfl C.list PyProof.Rows.boot_list (qa_sub (qe_ix ix_tup (qe_ix ix_tup (qv 2) qe_int (fun _ _ => rfl)) qe_int (fun _ _ => rfl)) qa_nil)) (qa_call (qe_callTy call_list_of rfl C.list PyProof.Rows.boot_list (qa_sub (qe_ix ix_tup (qe_ix ix_tup (qv 2) qe_int (fun _ _ => rfl)) qe_int (fun _ _ => rfl)) qa_nil)) qa_nil)) (qa_call (qe_call GR hr rfl cR.name cR.keep cR.bind .nil pass0 (qa_sub (qe_ix ix_tup (qv 2) qe_int (fun _ _ => rfl)) qa_nil)) qa_nil)))) qa_nil)))) (qb_one (qs_expr (qe_bmK (K := K) rfl PySem.F.plainAttrs_list PySem.F.slot_list_append PySem.F.type_list_append mt_append (qv 1) (qa_nm (qv 2) qa_nil)))))))))
    (qb_one (qs_ret (qv 1)))), ?_⟩
  have hpl := Paired.length hp
  refine ⟨Nat.zero_le _, fun fo hfo => ?_⟩
  have nX : ¬ X fo := fun z => hX fo z hfo
  have g1 := rm_add (X := X) (o := .lst []) hfo
  have k1 : (upd H fo (.lst [])) fo = some (.lst []) := upd_same
  have s1 := same_new hfo (.lst [])
  generalize upd H fo (.lst []) = H1 at g1 k1 s1 ⊢
  have hl1 := g1 _ _ hl
  have hp1 := Paired.mapP hp fun _ _ z => z.same g1 fun _ _ y => y.same g1
  dsimp only [gName]
  refine seq_hide (a := tFor _ _ _) fun D1 hN1 hR1 hC1 => ?_
  refine ⟨_, rfl, l, rfl, ⟨_, SqL.of (rm_back _ _ hl1)⟩, ?_⟩
  refine for_list (xs := ts.map V.ref) (CI K bs (fun c => X c ∨ c = fo) H H1 l fo ds) ⟨[], none, Same.refl _, k1, .nil, s1, Nat.zero_le _, rfl⟩ (fun i σ H' _ h => by obtain ⟨_, _, e, _⟩ := h; exact SqL.of (rm_back _ _ (e _ _ hl1))) ?_ ?_
  · rintro i x σ H2 hx ⟨us, z2, e, hf, hpp, e0, hi, rfl⟩
    rw [List.getElem?_map] at hx
    obtain ⟨t, ht, rfl⟩ := Option.map_eq_some_iff.mp hx
    obtain ⟨d, hd, hX2⟩ := Paired.nth hp1 ht
    have hi24 : i < 24 := Nat.lt_of_lt_of_le (List.getElem?_eq_some_iff.mp ht).1 (Nat.le_trans hlen hb)
    have hul : us.length ≤ 24 := by rw [Paired.length hpp, List.length_take]; omega
    have hX2' := hX2.same e fun _ _ y => y.same e
    have hXX : ∀ {H' : Hp}, Same H2 H' → ∀ c, (X c ∨ c = fo) → H' c ≠ none := fun {H'} e' c z y => by
      rcases z with z | z
      · have := hX c z
        cases q : H c with
        | none => exact this q
        | some o => rw [e' _ _ (e0 _ _ q)] at y; cases y
      · rw [z, e' _ _ hf] at y; cases y
    have hlt : (us.map V.ref).length < sizeLine := lt_line (by rw [List.length_map]; omega)
    have done : ∀ {H3 : Hp} {t' : Addr}, Same H2 H3 → DeedX K (rm (fun c => X c ∨ c = fo) H3) (ListX K (rm (fun c => X c ∨ c = fo) H3) bs) t' d → CI K bs (fun c => X c ∨ c = fo) H H1 l fo ds (i + 1) [some (.ref l), some (.ref fo), some (.ref t)] (upd H3 fo (.lst (us.map V.ref ++ [.ref t']))) := fun e3 h3 => CI.put (.inr rfl) hfo e hpp e0 hd e3 h3
    clear hX2 hp1 hp
    cases hX2' with
    | plain p h1 h2 =>
      obtain ⟨w, vs, hw, n1, n2⟩ := pl_word h1 h2
      have hw' := rm_back _ _ hw
      refine ⟨_, rfl, t, _, 0, _, rfl, rfl, SqT.of hw', at0, rfl, _, rfl, iteB (fun c => absurd (V.str.inj (of_decide_eq_true c)) n1) (fun _ => ?_)⟩
      refine ⟨_, rfl, t, _, 0, _, rfl, rfl, SqT.of hw', at0, rfl, _, rfl, iteB (fun c => absurd (V.str.inj (of_decide_eq_true c)) n2) (fun _ => ?_)⟩
      exact ⟨_, rfl, (.inl ⟨rfl, _, SqL.of hf⟩), _, rfl, fo, _, _, rfl, rfl, hf, hlt, done (Same.refl _) (.plain p h1 h2)⟩
    | cond c i' o r a b' h hc okr hi' ho =>
      have h' := rm_back _ _ h
      refine ⟨_, rfl, t, _, 0, _, rfl, rfl, SqT.of h', rfl, rfl, _, rfl, iteB (fun _ => ?_) (fun c => absurd c (by decide +kernel))⟩
      refine ⟨_, rfl, (.inl ⟨rfl, _, SqL.of hf⟩), _, rfl, t, _, 1, _, rfl, rfl, SqT.of h', rfl, _, rfl, t, _, 2, _, rfl, rfl, SqT.of h', rfl, (fun c => X c ∨ c = fo), i', a, rfl, hXX (Same.refl _), hi', fun l1 H3 e3 hl3 => ?_⟩
      refine ⟨_, rfl, t, _, 3, _, rfl, rfl, SqT.of (e3 _ _ h'), rfl, (fun c => X c ∨ c = fo), o, b', rfl, hXX e3, ho.same (rm_same e3), fun l2 H4 e4 hl4 => ?_⟩
      have e34 := e3.trans e4
      refine ⟨(show 4 ≤ sizeLine by decide), fun nt hnt => ?_⟩
      have s5 := same_new hnt (.tup [.str "if", .ref c, .ref l1, .ref l2])
      have k5 : (upd H4 nt (.tup [.str "if", .ref c, .ref l1, .ref l2])) nt = some (.tup [.str "if", .ref c, .ref l1, .ref l2]) := upd_same
      have nn : ¬ (X nt ∨ nt = fo) := fun z => hXX e34 nt z hnt
      generalize upd H4 nt (.tup [.str "if", .ref c, .ref l1, .ref l2]) = H5 at s5 k5 ⊢
      have e5 := e34.trans s5
      exact ⟨fo, _, _, rfl, rfl, e5 _ _ hf, hlt, done e5 (.cond c l1 l2 r a b' (by rw [rm_at nn]; exact k5) (rm_same e5 _ _ hc) okr (hl3.same (rm_same (e4.trans s5))) (hl4.same (rm_same s5)))⟩
    | loop c td i' fa pa r F' P' a h hc okr htd hF hP okF okP lF lP hi' =>
      have h' := rm_back _ _ h
      have htd' := rm_back _ _ htd
      refine ⟨_, rfl, t, _, 0, _, rfl, rfl, SqT.of h', rfl, rfl, _, rfl, iteB (fun c => absurd c (by decide +kernel)) (fun _ => ?_)⟩
      refine ⟨_, rfl, t, _, 0, _, rfl, rfl, SqT.of h', rfl, rfl, _, rfl, iteB (fun _ => ?_) (fun c => absurd c (by decide +kernel))⟩
      obtain ⟨as1, hF1, hF2⟩ := hF
      obtain ⟨as2, hP1, hP2⟩ := hP
      refine ⟨_, rfl, (.inl ⟨rfl, _, SqL.of hf⟩), _, rfl, t, _, 1, _, rfl, rfl, SqT.of h', rfl, _, rfl, t, _, 2, _, rfl, rfl, SqT.of h', rfl, td, _, 0, _, rfl, rfl, SqT.of htd', rfl, fa, _, rfl, .inl (SqL.of (rm_back _ _ hF1)), fun n1 hn1 => ?_⟩
      have s3 := same_new hn1 (.lst (as1.map V.ref))
      have k3 : (upd H2 n1 (.lst (as1.map V.ref))) n1 = some (.lst (as1.map V.ref)) := upd_same
      have nn1 : ¬ (X n1 ∨ n1 = fo) := fun z => hXX (Same.refl _) n1 z hn1
      generalize upd H2 n1 (.lst (as1.map V.ref)) = H3 at s3 k3 ⊢
      refine ⟨_, rfl, t, _, 2, _, rfl, rfl, SqT.of (s3 _ _ h'), rfl, td, _, 1, _, rfl, rfl, SqT.of (s3 _ _ htd'), rfl, pa, _, rfl, .inl (SqL.of (s3 _ _ (rm_back _ _ hP1))), fun n2 hn2 => ?_⟩
      have s4' := same_new hn2 (.lst (as2.map V.ref))
      have k4 : (upd H3 n2 (.lst (as2.map V.ref))) n2 = some (.lst (as2.map V.ref)) := upd_same
      have nn2 : ¬ (X n2 ∨ n2 = fo) := fun z => hXX s3 n2 z hn2
      generalize upd H3 n2 (.lst (as2.map V.ref)) = H4 at s4' k4 ⊢
      have s4 := s3.trans s4'
      refine ⟨(show 2 ≤ sizeLine by decide), fun tt htt => ?_⟩
      have s5' := same_new htt (.tup [.ref n1, .ref n2])
      have k5 : (upd H4 tt (.tup [.ref n1, .ref n2])) tt = some (.tup [.ref n1, .ref n2]) := upd_same
      have nn3 : ¬ (X tt ∨ tt = fo) := fun z => hXX s4 tt z htt
      generalize upd H4 tt (.tup [.ref n1, .ref n2]) = H5 at s5' k5 ⊢
      have s5 := s4.trans s5'
      refine ⟨_, rfl, t, _, 3, _, rfl, rfl, SqT.of (s5 _ _ h'), rfl, (fun c => X c ∨ c = fo), i', a, rfl, hXX s5, hi'.same (rm_same s5), fun l1 H6 e6' hl6 => ?_⟩
      have e6 := s5.trans e6'
      refine ⟨(show 4 ≤ sizeLine by decide), fun nt hnt => ?_⟩
      have s7 := same_new hnt (.tup [.str "while", .ref c, .ref tt, .ref l1])
      have k7 : (upd H6 nt (.tup [.str "while", .ref c, .ref tt, .ref l1])) nt = some (.tup [.str "while", .ref c, .ref tt, .ref l1]) := upd_same
      have nn : ¬ (X nt ∨ nt = fo) := fun z => hXX e6 nt z hnt
      generalize upd H6 nt (.tup [.str "while", .ref c, .ref tt, .ref l1]) = H7 at s7 k7 ⊢
      have e7 := e6.trans s7
      have e57 := e6'.trans s7
      have e47 := s5'.trans e57
      have e37 := s4'.trans e47
      exact ⟨fo, _, _, rfl, rfl, e7 _ _ hf, hlt, done e7 (.loop c tt l1 n1 n2 r F' P' a (by rw [rm_at nn]; exact k7) (rm_same e7 _ _ hc) okr (by rw [rm_at nn3]; exact e57 _ _ k5) ⟨as1, by rw [rm_at nn1]; exact e37 _ _ k3, Paired.mapP hF2 fun _ _ z => RowAt.same z (rm_same e7)⟩ ⟨as2, by rw [rm_at nn2]; exact e47 _ _ k4, Paired.mapP hP2 fun _ _ z => RowAt.same z (rm_same e7)⟩ okF okP lF lP (hl6.same (rm_same s7)))⟩
  rintro σ H2 ⟨us, z2, e, hf, hpp, e0, hi, rfl⟩
  refine hN1 _ _ ⟨_, rfl, ?_⟩
  have hsub : Same (rm (fun c => X c ∨ c = fo) H2) (rm X H2) := rm_sub fun c z => .inl z
  have htk : ds.take ((ts.map V.ref).length) = ds := by rw [List.length_map, hpl, List.take_length]
  rw [htk] at hpp
  exact q fo H2 e0 ⟨us, by rw [rm_at nX]; exact hf, Paired.mapP hpp fun _ _ z => z.same hsub fun _ _ y => y.same hsub, by rw [Paired.length hpp, ← hpl]; exact hlen⟩
end
end K43
namespace K43
open PySem PySem.Spec L2 Mir
theorem qg_tup6 {X : Cx} {ix1 ix2 ix3 ix4 ix5 ix6 : Nat} {x1 x2 x3 x4 x5 x6 : Str} {px1 px2 px3 px4 px5 px6 pos : Pos} {k : Nat} (hx1 : QG X (.Name x1 px1) (gName ix1)) (hx2 : QG X (.Name x2 px2) (gName ix2)) (hx3 : QG X (.Name x3 px3) (gName ix3)) (hx4 : QG X (.Name x4 px4) (gName ix4)) (hx5 : QG X (.Name x5 px5) (gName ix5)) (hx6 : QG X (.Name x6 px6) (gName ix6)) (hc : X.calm = true := by rfl)
    (a1 : (assignEach [.Name x1 px1, .Name x2 px2, .Name x3 px3, .Name x4 px4, .Name x5 px5, .Name x6 px6] X.env).map (·.2) = assign (.Name x1 px1) X.env :: (assignEach [.Name x2 px2, .Name x3 px3, .Name x4 px4, .Name x5 px5, .Name x6 px6] X.env).map (·.2) := by rfl)
    (a2 : (assignEach [.Name x2 px2, .Name x3 px3, .Name x4 px4, .Name x5 px5, .Name x6 px6] X.env).map (·.2) = assign (.Name x2 px2) X.env :: (assignEach [.Name x3 px3, .Name x4 px4, .Name x5 px5, .Name x6 px6] X.env).map (·.2) := by rfl)
    (a3 : (assignEach [.Name x3 px3, .Name x4 px4, .Name x5 px5, .Name x6 px6] X.env).map (·.2) = assign (.Name x3 px3) X.env :: (assignEach [.Name x4 px4, .Name x5 px5, .Name x6 px6] X.env).map (·.2) := by rfl)
    (a4 : (assignEach [.Name x4 px4, .Name x5 px5, .Name x6 px6] X.env).map (·.2) = assign (.Name x4 px4) X.env :: (assignEach [.Name x5 px5, .Name x6 px6] X.env).map (·.2) := by rfl)
    (a5 : (assignEach [.Name x5 px5, .Name x6 px6] X.env).map (·.2) = assign (.Name x5 px5) X.env :: (assignEach [.Name x6 px6] X.env).map (·.2) := by rfl)
    (a6 : (assignEach [.Name x6 px6] X.env).map (·.2) = assign (.Name x6 px6) X.env :: (assignEach [] X.env).map (·.2) := by rfl)
    (hn : (assignEach [.Name x1 px1, .Name x2 px2, .Name x3 px3, .Name x4 px4, .Name x5 px5, .Name x6 px6] X.env).length = 6 := by rfl) (hst : (assignEach [.Name x1 px1, .Name x2 px2, .Name x3 px3, .Name x4 px4, .Name x5 px5, .Name x6 px6] X.env).findIdx? (·.1) = none := by rfl) : QG X (.Tuple [.Name x1 px1, .Name x2 px2, .Name x3 px3, .Name x4 px4, .Name x5 px5, .Name x6 px6] k pos) (gTup X.K 6 (gCons (gName ix1) (gCons (gName ix2) (gCons (gName ix3) (gCons (gName ix4) (gCons (gName ix5) (gCons (gName ix6) gNil))))))) :=
  ⟨pg_tup hc (pgs_cons hx1.run (pgs_cons hx2.run (pgs_cons hx3.run (pgs_cons hx4.run (pgs_cons hx5.run (pgs_cons hx6.run pgs_nil a6) a5) a4) a3) a2) a1) hn hst⟩
theorem ixTK {X : Cx} {K : PySem.W.Frag} (h : X.K = K) : IxR X (rIxT K) := by subst h; exact ix_tup
theorem listK {X : Cx} {K : PySem.W.Frag} (h : X.K = K) : CallR X (.type "list") (fun xs H Q => ∃ p ys, xs = [.ref p] ∧ (SqL K H p ys ∨ SqT K H p ys) ∧ ∀ l, H l = none → Q (.ref l) (upd H l (.lst ys))) := by subst h; exact call_list_of
noncomputable abbrev sCopied : Stmt := top 24
inductive spCopied (K : PySem.W.Frag) (bs : List Nat) (vs : List V) (H : Hp) (Q : VK) (E : XK) : Prop
  | mk (pl : Addr) (ts : List Addr) (ps : List Prc) (h0 : vs = [.ref pl]) (h1 : H pl = some (.lst (ts.map V.ref))) (h2 : Paired (PrcAt K H bs) ts ps) (h4 : ts.length ≤ 4) (q : ∀ cl us H', Same H H' → H' cl = some (.lst (us.map V.ref)) → Paired (PrcAt K H' bs) us ps → Q (.ref cl) H') : spCopied K bs vs H Q E
noncomputable def RT (H3 : Hp) (D : Addr) (H : Hp) (tt : Addr) (r : List Addr × List Addr) : Prop := ∃ n1 n2, H tt = some (.tup [.ref n1, .ref n2]) ∧ H n1 = some (.lst (r.1.map V.ref)) ∧ H n2 = some (.lst (r.2.map V.ref)) ∧ tt ≠ D ∧ n1 ≠ D ∧ n2 ≠ D ∧ H3 tt = none ∧ H3 n1 = none ∧ H3 n2 = none
inductive CJ (K : PySem.W.Frag) (bs : List Nat) (H H1 : Hp) (pl fo : Addr) (ps : List Prc) (i : Nat) (σ : St) (H2 : Hp) : Prop
  | mk (us : List Addr) (z2 z3 z4 z5 z6 z7 z8 : Option V) (e : Same (rm (· = fo) H1) (rm (· = fo) H2)) (hf : H2 fo = some (.lst (us.map V.ref))) (hp : Paired (PrcAt K (rm (· = fo) H2) bs) us (ps.take i)) (e0 : Same H H2) (hi : i ≤ ps.length) (hσ : σ = [some (.ref pl), some (.ref fo), z2, z3, z4, z5, z6, z7, z8])
section
variable {P : Program} {w : World} {K : PySem.W.Frag} {mg : Str → Option Value} {base : Heap} {f gC : Addr} {fd dC : FuncData}
theorem scCopied : FnScope ["_law_program_here", "_law_found", "_law_name", "_law_params", "_law_result", "_law_before", "_law_behind", "_law_body", "_law_told_here"] ["_law_program_here"] (defScope sCopied) := ⟨rfl, rfl, rfl, by decide +kernel, rfl, by decide +kernel, by decide +kernel⟩
theorem ok_copied {bs : List Nat} (C : Con K mg w) (F : Fun K "_law_copied" "_law_copied" sCopied f fd) (GC : FnOk P w K mg base CX0 6 gC dC ["_law_deeds"] (spCopy K bs)) (cC : Cal K mg "_law_copy" gC dC ["_law_deeds"]) : FnOk P w K mg base CX0 7 f fd ["_law_program_here"] (spCopied K bs) := by
  refine F.okQ scCopied (fun vs H Q E h => ?_) (fun cdv A outer s0 H vs Q E hr h => ?_)
  · obtain ⟨pl, ts, ps, rfl, _⟩ := h; rfl
  obtain ⟨pl, ts, ps, rfl, hl, hp, h4, q⟩ := h
  have nd := scCopied.nd
  refine ⟨_, qb_cons (qs_set (i := 1) nd rfl (Or.inl rfl) (qe_lst qa_nil))
    (qb_cons (qs_for PassesOwn.never rfl (qi_list (qv 0)) (qg_tup6 (qg_name (i := 2) nd rfl (Or.inl rfl)) (qg_name (i := 3) nd rfl (Or.inl rfl)) (qg_name (i := 4) nd rfl (Or.inl rfl)) (qg_name (i := 5) nd rfl (Or.inl rfl)) (qg_name (i := 6) nd rfl (Or.inl rfl)) (qg_name (i := 7) nd rfl (Or.inl rfl))) (qb_cons (qs_setCG ["_law_one"] [] (i := 8) nd rfl (Or.inl rfl) (qi_list (qe_lst (qa_nm (qv 5) (qa_nm (qv 6) qa_nil)))) (fun _ _ _ _ => qts_nil) (fun _ _ _ _ => (qe_tup (qa_call (qe_callTy (listK (K := K) rfl) rfl C.list PyProof.Rows.boot_list (qa_sub (qe_ix (ixTK (K := K) rfl) (qv 0) qe_int (fun _ _ => rfl)) qa_nil)) (qa_call (qe_callTy (listK (K := K) rfl) rfl C.list PyProof.Rows.boot_list (qa_sub (qe_ix (ixTK (K := K) rfl) (qv 0) qe_int (fun _ _ => rfl)) qa_nil)) qa_nil)))))
    (qb_one (qs_expr (qe_bmK (K := K) rfl PySem.F.plainAttrs_list PySem.F.slot_list_append PySem.F.type_list_append mt_append (qv 1) (qa_tp (qa_nm (qv 2) (qa_nm (qv 3) (qa_nm (qv 4) (qa_sub (qe_ix ix_list (qv 8) qe_int (fun _ _ => rfl)) (qa_sub (qe_ix ix_list (qv 8) qe_int (fun _ _ => rfl)) (qa_call (qe_call GC hr rfl cC.name cC.keep cC.bind .nil pass0 (qa_nm (qv 7) qa_nil)) qa_nil)))))) qa_nil))))))
    (qb_one (qs_ret (qv 1)))), ?_⟩
  have hpl := Paired.length hp
  refine ⟨Nat.zero_le _, fun fo hfo => ?_⟩
  have g1 : Same H (rm (· = fo) (upd H fo (.lst []))) := fun b o h => by
    have nb := ne_of_none h hfo
    rw [rm_at (X := (· = fo)) nb, upd_ne nb]; exact h
  have k1 : (upd H fo (.lst [])) fo = some (.lst []) := upd_same
  have s1 := same_new hfo (.lst [])
  generalize upd H fo (.lst []) = H1 at g1 k1 s1 ⊢
  have hl1 := g1 _ _ hl
  have hp1 := Paired.mapP hp fun _ _ z => z.same g1
  dsimp only [gName]
  refine seq_hide (a := tFor _ _ _) fun D1 hN1 hR1 hC1 => ?_
  refine ⟨_, rfl, pl, rfl, ⟨_, SqL.of (rm_back _ _ hl1)⟩, ?_⟩
  refine for_list (xs := ts.map V.ref) (CJ K bs H H1 pl fo ps) ⟨[], none, none, none, none, none, none, none, Same.refl _, k1, .nil, s1, Nat.zero_le _, rfl⟩ (fun i σ H' _ h => by obtain ⟨_, _, _, _, _, _, _, _, e, _⟩ := h; exact SqL.of (rm_back _ _ (e _ _ hl1))) ?_ ?_
  · rintro i x σ H2 hx ⟨us, z2, z3, z4, z5, z6, z7, z8, e, hf, hpp, e0, hi, rfl⟩
    rw [List.getElem?_map] at hx
    obtain ⟨t, ht, rfl⟩ := Option.map_eq_some_iff.mp hx
    obtain ⟨p, hd, hP⟩ := Paired.nth hp1 ht
    have hi4 : i < 4 := Nat.lt_of_lt_of_le (List.getElem?_eq_some_iff.mp ht).1 h4
    have hul : us.length ≤ 4 := by rw [Paired.length hpp, List.length_take]; omega
    obtain ⟨pt, t1, t2, f1, p1, f2, p2, bd, x⟩ := hP.same e
    have hlt : (us.map V.ref).length < sizeLine := lt_line (by rw [List.length_map]; omega)
    refine ⟨t, _, rfl, SqT.of (rm_back _ _ x.tup), rfl, _, _, rfl, _, _, rfl, _, _, rfl, _, _, rfl, _, _, rfl, _, _, rfl, rfl, ?_⟩
    obtain ⟨A1, hA1, hA1'⟩ := x.f1
    obtain ⟨B1, hB1, hB1'⟩ := x.p1
    obtain ⟨A2, hA2, hA2'⟩ := x.f2
    obtain ⟨B2, hB2, hB2'⟩ := x.p2
    refine ⟨_, rfl, _, rfl, (show 2 ≤ sizeLine by decide), fun x0 hx0 => ?_⟩
    have k3 : (upd H2 x0 (.lst [.ref t1, .ref t2])) x0 = some (.lst [.ref t1, .ref t2]) := upd_same
    have s3 := same_new hx0 (.lst [.ref t1, .ref t2])
    generalize upd H2 x0 (.lst [.ref t1, .ref t2]) = H3 at k3 s3 ⊢
    have b3 : Same (rm (· = fo) H2) H3 := rm_back.trans s3
    refine ⟨x0, rfl, ⟨_, SqL.of k3⟩, ?_⟩
    refine comp_pos [.ref t1, .ref t2] [(A1, B1), (A2, B2)] (fun D H y r => ∃ tt, y = V.ref tt ∧ RT H3 D H tt r) id jseq_list (SqL.of k3) (show 2 ≤ 1000 by decide) rfl (fun D G G' y r z e' => ?_) (fun D j x' r hx' hr' H4 e4 hD Q' q' => ?_) (fun th H4 ys hth e4 hth4 hpt => ?_)
    · obtain ⟨tt, rfl, n1, n2, h1, h2, h3, h4', h5, h6, h7⟩ := z
      exact ⟨tt, rfl, n1, n2, e' _ _ h1 h4', e' _ _ h2 h5, e' _ _ h3 h6, h4', h5, h6, h7⟩
    · obtain ⟨tl, fa, pa, Aa, Bb, ht1, ht2, ht3, rfl, rfl⟩ : ∃ (tl fa pa : Addr) (Aa Bb : List Addr), H3 tl = some (.tup [.ref fa, .ref pa]) ∧ H3 fa = some (.lst (Aa.map V.ref)) ∧ H3 pa = some (.lst (Bb.map V.ref)) ∧ x' = .ref tl ∧ r = (Aa, Bb) := by
        match j, hx', hr' with
        | 0, hx', hr' => exact ⟨_, _, _, _, _, b3 _ _ x.t1, b3 _ _ hA1, b3 _ _ hB1, (Option.some.inj hx').symm, (Option.some.inj hr').symm⟩
        | 1, hx', hr' => exact ⟨_, _, _, _, _, b3 _ _ x.t2, b3 _ _ hA2, b3 _ _ hB2, (Option.some.inj hx').symm, (Option.some.inj hr').symm⟩
        | k + 2, hx', _ => cases hx'
      refine ⟨_, rfl, tl, _, 0, _, rfl, rfl, SqT.of (e4 _ _ ht1), rfl, fa, _, rfl, .inl (SqL.of (e4 _ _ ht2)), fun n1 hn1 => ?_⟩
      have s5 := same_new hn1 (.lst (Aa.map V.ref))
      have k5 : (upd H4 n1 (.lst (Aa.map V.ref))) n1 = some (.lst (Aa.map V.ref)) := upd_same
      have hD5 : (upd H4 n1 (.lst (Aa.map V.ref))) D ≠ none := by
        intro z
        exact hD (s5.free z)
      have nD1 : n1 ≠ D := fun z => hD (by rw [← z]; exact hn1)
      generalize upd H4 n1 (.lst (Aa.map V.ref)) = H5 at s5 k5 hD5 ⊢
      have e5 := e4.trans s5
      refine ⟨_, rfl, tl, _, 1, _, rfl, rfl, SqT.of (e5 _ _ ht1), rfl, pa, _, rfl, .inl (SqL.of (e5 _ _ ht3)), fun n2 hn2 => ?_⟩
      have s6 := same_new hn2 (.lst (Bb.map V.ref))
      have k6 : (upd H5 n2 (.lst (Bb.map V.ref))) n2 = some (.lst (Bb.map V.ref)) := upd_same
      have hD6 : (upd H5 n2 (.lst (Bb.map V.ref))) D ≠ none := fun z => hD5 (s6.free z)
      have nD2 : n2 ≠ D := fun z => hD5 (by rw [← z]; exact hn2)
      generalize upd H5 n2 (.lst (Bb.map V.ref)) = H6 at s6 k6 hD6 ⊢
      exact ⟨(show 2 ≤ sizeLine by decide), fun tt htt => q' (.ref tt) _ ((s5.trans s6).trans (same_new htt _)) ⟨tt, rfl, n1, n2, upd_same, same_new htt _ _ _ (s6 _ _ k5), same_new htt _ _ _ k6, (fun z => hD6 (by rw [← z]; exact htt)), nD1, nD2, e5.free (s6.free htt), e4.free hn1, e5.free hn2⟩⟩
    rw [List.map_id] at hpt
    obtain ⟨tts, rfl, hpt'⟩ := paired_refs hpt
    obtain ⟨tt1, tt2, rfl, ⟨n1, n2, ha1, ha2, ha3, _, _, _, ha4, ha5, ha6⟩, ⟨m1, m2, hb1, hb2, hb3, _, _, _, hb4, hb5, hb6⟩⟩ : ∃ tt1 tt2, tts = [tt1, tt2] ∧ RT H3 th H4 tt1 (A1, B1) ∧ RT H3 th H4 tt2 (A2, B2) := by
      cases hpt' with
      | cons h1 h2 =>
        cases h2 with
        | cons h3 h4 => cases h4; exact ⟨_, _, rfl, h1, h3⟩
    have e34 := s3.trans e4
    have hf4 := e34 _ _ hf
    have nf : ∀ {c : Addr}, H3 c = none → ¬ c = fo := fun h z => by
      rw [z, s3 _ _ hf] at h; cases h
    have g4 : Same (rm (· = fo) H2) (rm (· = fo) H4) := rm_same e34
    refine ⟨_, rfl, (.inl ⟨rfl, _, SqL.of hf4⟩), _, rfl, _, rfl, _, rfl, _, rfl, th, _, _, _, rfl, rfl, SqL.of hth4, rfl, _, rfl, th, _, _, _, rfl, rfl, SqL.of hth4, rfl, _, rfl, (· = fo), bd, p.body, rfl, (fun c z y => by rw [z, hf4] at y; cases y), x.body.same g4, fun l' H5 e5 hl5 => ?_⟩
    refine ⟨(show 6 ≤ sizeLine by decide), fun nt hnt => ?_⟩
    have s6 := same_new hnt (.tup [.str p.name, .ref pt, .str p.res, .ref tt1, .ref tt2, .ref l'])
    have k6 : (upd H5 nt (.tup [.str p.name, .ref pt, .str p.res, .ref tt1, .ref tt2, .ref l'])) nt = some (.tup [.str p.name, .ref pt, .str p.res, .ref tt1, .ref tt2, .ref l']) := upd_same
    have hf5 := e5 _ _ hf4
    have nnt : ¬ nt = fo := (ne_of_none hf5 hnt).symm
    generalize upd H5 nt (.tup [.str p.name, .ref pt, .str p.res, .ref tt1, .ref tt2, .ref l']) = H6 at s6 k6 ⊢
    have e46 := e5.trans s6
    have e26 := e34.trans e46
    have g6 : Same (rm (· = fo) H2) (rm (· = fo) H6) := rm_same e26
    refine ⟨fo, _, _, rfl, rfl, s6 _ _ hf5, hlt, ?_⟩
    have r : rm (· = fo) (upd H6 fo (.lst (us.map V.ref ++ [.ref nt]))) = rm (· = fo) H6 := rm_upd (X := (· = fo)) rfl
    have at6 : ∀ {c : Addr} {o : HO}, ¬ c = fo → H4 c = some o → (rm (· = fo) H6) c = some o := fun {c o} n h => by rw [rm_at (X := (· = fo)) n]; exact e46 _ _ h
    refine ⟨us ++ [nt], _, _, _, _, _, _, _, by rw [r]; exact e.trans g6, by rw [upd_same, List.map_append]; rfl, ?_, fun b o h => by rw [upd_ne (ne_of_none h hfo)]; exact e26 _ _ (e0 _ _ h), (List.getElem?_eq_some_iff.mp hd).1, rfl⟩
    rw [r, List.take_add_one, hd]
    refine Paired.snocP (Paired.mapP hpp fun _ _ z => z.same g6) ⟨pt, tt1, tt2, n1, n2, m1, m2, l', ?_⟩
    exact ⟨by rw [rm_at (X := (· = fo)) nnt]; exact k6, g6 _ _ x.pt, at6 (nf ha4) ha1, at6 (nf hb4) hb1, ⟨A1, at6 (nf ha5) ha2, Paired.mapP hA1' fun _ _ z => RowAt.same z g6⟩, ⟨B1, at6 (nf ha6) ha3, Paired.mapP hB1' fun _ _ z => RowAt.same z g6⟩, ⟨A2, at6 (nf hb5) hb2, Paired.mapP hA2' fun _ _ z => RowAt.same z g6⟩, ⟨B2, at6 (nf hb6) hb3, Paired.mapP hB2' fun _ _ z => RowAt.same z g6⟩, hl5.same (rm_same s6), x.okn, x.okr, x.okp, x.ok1, x.ok2, x.l1, x.l2⟩
  rintro σ H2 ⟨us, z2, z3, z4, z5, z6, z7, z8, e, hf, hpp, e0, hi, rfl⟩
  refine hN1 _ _ ⟨_, rfl, ?_⟩
  have htk : ps.take ((ts.map V.ref).length) = ps := by rw [List.length_map, hpl, List.take_length]
  rw [htk] at hpp
  exact q fo us H2 e0 hf (Paired.mapP hpp fun _ _ z => z.same rm_back)
end
end K43
namespace L2
open PySem PySem.Spec PyProof.Rows
section
variable {X : Cx} {tg : Expr}
end
end L2
namespace HT
open PySem PySem.Spec PyProof.Rows L2
variable {prog : Program} {w : World} {A : Around} {E : Value → Shared → Prop} {s : Shared}
theorem getItem_tuple_whole {t sl : Addr} {items : Array Value} {vl vu : Value} {lo hi : Option Int} {Q : Value → Shared → Prop} (ht : IsTup s.heap t items) (hs : s.heap.IsSliceOf sl vl vu .none) (pl : IsPart vl lo) (pu : IsPart vu hi)
    (h1 : sIx items.size 0 lo = 0) (h2 : sIx items.size items.size hi = items.size)
    (h : Q (.ref t) s) : wpAny (model prog w) A (getItem (.ref t) (.ref sl)) Q E s := by
  obtain ⟨os, hos, hcs, hds⟩ := id hs
  have hTs : s.TypeIs (.ref sl) "slice" := ⟨os, hos, hcs⟩
  unfold getItem
  try with_reducible refine wpAny_holding ?_
  first | refine wpAny_bind (wpAny_pure ?_) | skip
  refine wpAny_bind (wpAny_sequenceKey ht.typeIs (by decide) ?_)
  refine wpAny_bind (wpAny_callSpecial?_slot (name := Str.ofString "__getitem__") ht.typeIs PyProof.Rows.slot_tuple_getitem
    (wpAny_call_entry PyProof.Rows.slot_tuple_getitem ht.typeIs entry_tuple_getitem ?_ (args_tuple_getitem _ _)))
  show wpAny _ _ (Builtin.Tuple.tupleItemsOf (.ref t) >>= _) _ _ s
  refine wpAny_bind (tupleItemsOf_ ht ?_)
  refine wpAny_bind (wpAny_typeOf hTs ?_)
  rw [if_pos (by decide)]
  refine wpAny_bind (sliceApplied_gen hs pl pu ?_)
  have hyes : ((((sIx items.size 0 lo : Nat) : Int) == 0 && (1 : Int) == 1 && (sIx items.size items.size hi - sIx items.size 0 lo) == items.size) = true) := by
    rw [h1, h2]; simp
  show wpAny _ _ (if (((sIx items.size 0 lo : Nat) : Int) == 0 && (1 : Int) == 1 && (sIx items.size items.size hi - sIx items.size 0 lo) == items.size) = true then _ else _) _ _ s
  rw [if_pos hyes]
  unfold Builtin.Tuple.tupleIsExact
  refine wpAny_bind (wpAny_bind (wpAny_typeOf ht.typeIs (wpAny_pure ?_)))
  rw [if_pos (by decide)]
  refine wpAny_bind (wpAny_rule ?_)
  exact wpAny_pure ⟨_, rfl, wpAny_pure h⟩
theorem cat_tup0 {t b : Addr} {vs ws : List Value} {Q : Value → Shared → Prop} (ht : IsTup s.heap t vs.toArray) (hb : IsTup s.heap b ws.toArray) (hv : vs = [])
    (h1 : Q (.ref b) s) : wpAny (model prog w) A (binaryOp .Add (.ref t) (.ref b)) Q E s := by
  obtain ⟨⟨cls, dd, data, sl⟩, ho, hc, n, hd⟩ := id ht
  obtain ⟨⟨cls2, dd2, data2, sl2⟩, ho2, hc2, n2, hd2⟩ := id hb
  simp only at hc hd hc2 hd2
  subst hc hd hc2 hd2
  exact concat_meets ⟨_, ho, rfl⟩ ⟨_, ho2, rfl⟩ noFill_tuple_add seq_tuple_add PySem.F.slot_tuple_add PySem.F.entry_tuple_add (PySem.F.args_tuple_add_2 _ _)
      (tuple_addW0 t b vs.toArray ws.toArray n n2 dd dd2 sl sl2 (by simp [hv])) ⟨ho, ho2, h1⟩
end HT
namespace L2
open PySem PySem.Spec PyProof.Rows
section
variable {X : Cx}
theorem cutV_whole {xs : List V} {lo hi : Option Int} (h1 : HT.sIx xs.length 0 lo = 0) (h2 : HT.sIx xs.length xs.length hi = xs.length) : cutV xs lo hi = xs := by
  unfold cutV
  rw [h1, h2, List.drop_zero, Nat.sub_zero, List.take_length]
noncomputable def rSlTU (K : PySem.W.Frag) : V → Option Int → Option Int → Hp → VK → Prop := fun x lo hi H Q => ∃ a xs, x = .ref a ∧ SqT K H a xs ∧ ∀ p H', Same H H' → SqT K H' p (cutV xs lo hi) → Q (.ref p) H'
theorem sl_tupU : SlR X (rSlTU X.K) := by
  intro pins s σ H x v vl vu lo hi sl Q I rx hs pl pu h
  obtain ⟨a, xs, rfl, hx, q⟩ := h
  by_cases hw : HT.sIx xs.length 0 lo = 0 ∧ HT.sIx xs.length xs.length hi = xs.length
  · cases rx
    obtain ⟨its, r, ht, hz⟩ := I.tuple hx
    have hlen : its.toArray.size = xs.length := by rw [List.size_toArray]; exact r.length.symm
    refine ⟨"tuple", _, PyProof.Rows.slot_tuple_getitem.lookup, ht.typeIs, ?_⟩
    refine HT.getItem_tuple_whole ht hs pl pu (by rw [hlen]; exact hw.1) (by rw [hlen]; exact hw.2) ?_
    refine ⟨.ref a, H, I, rfl, q a H (Same.refl _) ?_⟩
    rw [cutV_whole hw.1 hw.2]; exact hx
  · exact sl_tup pins s σ H (.ref a) v vl vu lo hi sl Q I rx hs pl pu ⟨a, xs, rfl, hx, hw, fun p hp => q p _ (same_new hp _) (SqT.of upd_same)⟩
noncomputable def rCatTU (K : PySem.W.Frag) : R2 := fun x y H Q => ∃ a b xs ys, x = .ref a ∧ y = .ref b ∧ SqT K H a xs ∧ SqT K H b ys ∧ xs.length + ys.length ≤ sizeLine ∧ ∀ p H', Same H H' → SqT K H' p (xs ++ ys) → Q (.ref p) H'
theorem op_catTU : OpR X (binaryOp .Add) (rCatTU X.K) := by
  intro pins s σ H x y v u Q I rx ry h
  obtain ⟨a, b, xs, ys, rfl, rfl, ha, hb, hz, q⟩ := h
  by_cases hx : xs = []
  · cases rx
    cases ry
    obtain ⟨its, r1, p1, _⟩ := I.tuple ha
    obtain ⟨its2, r2, p2, _⟩ := I.tuple hb
    refine HT.cat_tup0 p1 p2 (r1.nil_iff.mpr hx) ⟨.ref b, H, I, rfl, q b H (Same.refl _) ?_⟩
    rw [hx]; exact hb
  · exact op_catT pins s σ H (.ref a) (.ref b) v u Q I rx ry ⟨a, b, xs, ys, rfl, rfl, ha, hb, hx, hz, fun z => q a H (Same.refl _) (by rw [z, List.append_nil]; exact ha), fun _ p hp => q p _ (same_new hp _) (SqT.of upd_same)⟩
end
end L2
namespace L2
open PySem PySem.Spec
theorem cut_neg (ys zs : List V) {m : Nat} (hz : zs.length = m) (hm : 0 < m) : cutV (ys ++ zs) none (some (-(m : Int))) = ys := by
  unfold cutV
  rw [HT.sIx_none, List.drop_zero, Nat.sub_zero]
  have : HT.sIx (ys ++ zs).length (ys ++ zs).length (some (-(m : Int))) = ys.length := by
    show (if -(m : Int) < 0 then (-(m : Int) + ((ys ++ zs).length : Int)).toNat else _) = _
    rw [if_pos (by omega), List.length_append]
    omega
  rw [this, List.take_left]
end L2
namespace K43
open PySem PySem.Spec L2 Mir
noncomputable abbrev sListsIn : Stmt := top 1
noncomputable abbrev sBehind : Stmt := top 3
noncomputable abbrev sLoopsIn : Stmt := top 4
inductive spLists (vs : List V) (H : Hp) (Q : VK) (E : XK) : Prop
  | cond (t i o : Addr) (c : V) (h0 : vs = [.ref t]) (h : H t = some (.tup [.str "if", c, .ref i, .ref o])) (q : ∀ l, H l = none → Q (.ref l) (upd H l (.lst [.ref i, .ref o])))
  | loop (t i : Addr) (c d : V) (h0 : vs = [.ref t]) (h : H t = some (.tup [.str "while", c, d, .ref i])) (q : ∀ l, H l = none → Q (.ref l) (upd H l (.lst [.ref i])))
  | none (t : Addr) (w : Str) (vs' : List V) (h0 : vs = [.ref t]) (h : H t = some (.tup (.str w :: vs'))) (n1 : w ≠ "if") (n2 : w ≠ "while") (q : ∀ l, H l = none → Q (.ref l) (upd H l (.lst [])))
inductive spBehind (K : PySem.W.Frag) (vs : List V) (H : Hp) (Q : VK) (E : XK) : Prop
  | mk (t : Addr) (ns : List Int) (k : Int) (h0 : vs = [.ref t]) (h : SqT K H t ((ns ++ [k]).map V.int)) (hn : ns.length ≤ 100) (q : ∀ t' H', Same H H' → SqT K H' t' ((ns ++ [k + 1]).map V.int) → Q (.ref t') H') : spBehind K vs H Q E
section
variable {P : Program} {w : World} {K : PySem.W.Frag} {mg : Str → Option Value} {base : Heap} {f gS gO : Addr} {fd dS dO : FuncData}
theorem scListsIn : FnScope ["deed"] ["deed"] (defScope sListsIn) := ⟨rfl, rfl, rfl, by decide +kernel, rfl, by decide +kernel, by decide +kernel⟩
theorem ok_listsIn (C : Con K mg w) (F : Fun K "lists_in" "lists_in" sListsIn f fd) : FnOk P w K mg base CX0 1 f fd ["deed"] spLists := by
  refine F.okQ scListsIn (fun vs H Q E h => ?_) (fun cdv A outer s0 H vs Q E hr h => ?_)
  · rcases h with ⟨_, _, _, _, rfl, _⟩ | ⟨_, _, _, _, rfl, _⟩ | ⟨_, _, _, rfl, _⟩ <;> rfl
  have nd := scListsIn.nd
  rcases h with ⟨t, i, o, c, rfl, h, q⟩ | ⟨t, i, c, d, rfl, h, q⟩ | ⟨t, w', vs', rfl, h, n1, n2, q⟩
  · refine ⟨_, qb_cons (qs_if (qt_cmpR op_eq (qe_ix ix_tup (qv 0) qe_int (fun _ _ => rfl)) qe_str (nomark _)) (qb_one (qs_ret (qe_lst (qa_sub (qe_ix ix_tup (qv 0) qe_int (fun _ _ => rfl)) (qa_sub (qe_ix ix_tup (qv 0) qe_int (fun _ _ => rfl)) qa_nil))))) qb_nil)
    (qb_one (qs_ret (qe_ifExp (qt_cmpR op_eq (qe_ix ix_tup (qv 0) qe_int (fun _ _ => rfl)) qe_str (nomark _)) (qe_lst (qa_sub (qe_ix ix_tup (qv 0) qe_int (fun _ _ => rfl)) qa_nil)) (qe_lst qa_nil)))), ?_⟩
    refine ⟨_, rfl, t, _, 0, _, rfl, rfl, SqT.of h, rfl, rfl, _, rfl, iteB (fun _ => ?_) (fun c => absurd c (by decide +kernel))⟩
    exact ⟨_, rfl, t, _, 2, _, rfl, rfl, SqT.of h, rfl, _, rfl, t, _, 3, _, rfl, rfl, SqT.of h, rfl, (show 2 ≤ sizeLine by decide), q⟩
  · refine ⟨_, qb_cons (qs_if (qt_cmpR op_eq (qe_ix ix_tup (qv 0) qe_int (fun _ _ => rfl)) qe_str (nomark _)) (qb_one (qs_ret (qe_lst (qa_sub (qe_ix ix_tup (qv 0) qe_int (fun _ _ => rfl)) (qa_sub (qe_ix ix_tup (qv 0) qe_int (fun _ _ => rfl)) qa_nil))))) qb_nil)
    (qb_one (qs_ret (qe_ifExp (qt_cmpR op_eq (qe_ix ix_tup (qv 0) qe_int (fun _ _ => rfl)) qe_str (nomark _)) (qe_lst (qa_sub (qe_ix ix_tup (qv 0) qe_int (fun _ _ => rfl)) qa_nil)) (qe_lst qa_nil)))), ?_⟩
    refine ⟨_, rfl, t, _, 0, _, rfl, rfl, SqT.of h, rfl, rfl, _, rfl, iteB (fun c => absurd c (by decide +kernel)) (fun _ => ?_)⟩
    refine ⟨_, rfl, t, _, 0, _, rfl, rfl, SqT.of h, rfl, rfl, _, rfl, iteB (fun _ => ?_) (fun c => absurd c (by decide +kernel))⟩
    exact ⟨_, rfl, t, _, 3, _, rfl, rfl, SqT.of h, rfl, (show 1 ≤ sizeLine by decide), q⟩
  · refine ⟨_, qb_cons (qs_if (qt_cmpR op_eq (qe_ix ix_tup (qv 0) qe_int (fun _ _ => rfl)) qe_str (nomark _)) (qb_one (qs_ret (qe_lst (qa_sub (qe_ix ix_tup (qv 0) qe_int (fun _ _ => rfl)) (qa_sub (qe_ix ix_tup (qv 0) qe_int (fun _ _ => rfl)) qa_nil))))) qb_nil)
    (qb_one (qs_ret (qe_ifExp (qt_cmpR op_eq (qe_ix ix_tup (qv 0) qe_int (fun _ _ => rfl)) qe_str (nomark _)) (qe_lst (qa_sub (qe_ix ix_tup (qv 0) qe_int (fun _ _ => rfl)) qa_nil)) (qe_lst qa_nil)))), ?_⟩
    refine ⟨_, rfl, t, _, 0, _, rfl, rfl, SqT.of h, at0, rfl, _, rfl, iteB (fun c => absurd (V.str.inj (of_decide_eq_true c)) n1) (fun _ => ?_)⟩
    refine ⟨_, rfl, t, _, 0, _, rfl, rfl, SqT.of h, at0, rfl, _, rfl, iteB (fun c => absurd (V.str.inj (of_decide_eq_true c)) n2) (fun _ => ?_)⟩
    exact ⟨Nat.zero_le _, q⟩
theorem scBehind : FnScope ["path"] ["path"] (defScope sBehind) := ⟨rfl, rfl, rfl, by decide +kernel, rfl, by decide +kernel, by decide +kernel⟩
theorem ok_behind (C : Con K mg w) (F : Fun K "behind_deed" "behind_deed" sBehind f fd) : FnOk P w K mg base CX0 1 f fd ["path"] (spBehind K) := by
  refine F.okQ scBehind (fun vs H Q E h => ?_) (fun cdv A outer s0 H vs Q E hr h => ?_)
  · obtain ⟨t, ns, k, rfl, _⟩ := h; rfl
  obtain ⟨t, ns, k, rfl, h, hn, q⟩ := h
  have nd := scBehind.nd
  refine ⟨_, (qb_one (qs_ret (qe_op op_catTU (qe_slice sl_tupU (qv 0) qo_none (qo_some (qe_un un_neg qe_int))) (qe_tup (qa_bop (qe_op op_add (qe_ix ix_tup (qv 0) (qe_un un_neg qe_int) (fun _ _ => rfl)) qe_int) qa_nil))))), ?_⟩
  rw [List.map_append] at h
  refine ⟨_, rfl, _, rfl, _, rfl, t, _, rfl, h, fun p1 H1 e1 h1 => ?_⟩
  have hc : cutV (ns.map V.int ++ [k].map V.int) none (some (-1)) = ns.map V.int := cut_neg _ _ (m := 1) rfl (by decide)
  rw [show cutV (ns.map V.int ++ [k].map V.int) none (some (-(1 : Int))) = ns.map V.int from hc] at h1
  refine ⟨_, rfl, _, rfl, t, _, _, _, rfl, rfl, e1.seqT h, atI_last, _, _, rfl, rfl, (show 1 ≤ sizeLine by decide), fun p2 hp2 => ?_⟩
  have s2 := same_new hp2 (.tup [.int (k + 1)])
  refine ⟨p1, p2, _, _, rfl, rfl, s2.seqT h1, SqT.of upd_same, le_line (by rw [List.length_map]; show _ + 1 ≤ 1000; omega), fun p3 H3 e3 h3 => ?_⟩
  exact q p3 H3 ((e1.trans s2).trans e3) (by rw [List.map_append]; exact h3)
end
end K43
namespace L2
open PySem PySem.Spec PyProof.Rows
noncomputable def Ite (l : Addr) : It where
  go := fun i H => ∃ xs x, H l = some (.lst xs) ∧ xs[i]? = some x
  yld := fun i H v H' => ∃ xs x p, H l = some (.lst xs) ∧ xs[i]? = some x ∧ H p = none ∧ H' = upd H p (.tup [.int (i : Int), x]) ∧ v = .ref p
  stop := fun i H => ∃ xs, H l = some (.lst xs) ∧ xs.length ≤ i
noncomputable def enumTn (n l : Addr) (i : Nat) (h : Heap) : Prop := (∃ old, IsEnum h (n + 1) n (i : Int) old) ∧ h.IsListIter n l i
theorem turn_enum {P : Program} {w : World} {K : PySem.W.Frag} {elts : List Expr} {x1} {pos : Pos} (n l : Addr) : Turn P w K (.Tuple elts x1 pos) (Ite l) [n + 1, n] (n + 1) (enumTn n l) where
  mem := by simp
  obj := fun i h st b hb => by
    obtain ⟨⟨old, he⟩, ⟨o1, e1, c1, d1⟩⟩ := st
    simp only [List.mem_cons, List.not_mem_nil, or_false] at hb
    rcases hb with rfl | rfl
    · exact ⟨_, he, fun v z => by cases z⟩
    · exact ⟨o1, e1, fun v z => by rw [d1] at z; cases z⟩
  keep := fun i h h' st k => by
    obtain ⟨⟨old, he⟩, h1⟩ := st
    exact ⟨⟨old, k _ (by simp) _ he⟩, h1.at fun o e => k _ (by simp) o e⟩
  item := by
    intro X hP hw hK hc i pins s σ H E I hf st hg
    subst hP hw hK
    obtain ⟨⟨old, he⟩, hit⟩ := st
    obtain ⟨xs, x, q1, hx⟩ := hg
    obtain ⟨_, its1, n1, r1, _, e1⟩ := I.lstM q1
    have L1 : s.heap.IsList l its1.toArray := ⟨_, e1, rfl, _, rfl⟩
    obtain ⟨u, hu, ru⟩ := r1.get hx
    have hne : n + 1 ≠ n := Nat.succ_ne_self n
    refine wpAny_pyNext_enum_item he hit L1 (x := u) (by simpa using hu) hne fun h' a1 a2 a3 a4 hk => ?_
    have I1 : Inv X pins σ H { s with heap := h', toks := s.toks + 1 } := I.turnedL (ch := [n + 1, n]) (t' := s.toks + 1) (fun b o hb e => by
      simp only [List.mem_cons, List.not_mem_nil, or_false, not_or] at hb
      exact hk b o hb.1 hb.2 e) hf
    refine ⟨.ref s.heap.objs.size, rfl, wpAny_letOwnedTupleGo_enum a1 fun h2' he' hs' => ?_⟩
    have I2 : Inv X pins σ H { s with heap := h2', toks := s.toks + 1 } := I1.turnedL (s := { s with heap := h', toks := s.toks + 1 }) (ch := [n + 1, n]) (t' := s.toks + 1) (fun b o hb e => by
      simp only [List.mem_cons, List.not_mem_nil, or_false, not_or] at hb
      exact hs'.extBut _ _ hb.1 e) hf
    have fresh : H s.heap.objs.size = none := I.hok.fresh (Nat.le_refl _)
    have pz : s.heap.objs.size ≠ n + 1 := Nat.ne_of_gt (Heap.lt_size he)
    have I3 : Inv X pins σ (upd H s.heap.objs.size (.tup [.int (i : Int), x])) { s with heap := h2', toks := s.toks + 1 } := by
      refine I2.track fresh ?_ (Nat.ne_of_gt I.lt) (fun z c' e e2' => ?_) (fun p hp e2' => ?_) ?_
      · cases q : X.s₀.heap.get? s.heap.objs.size with
        | none => rfl
        | some o => exact absurd (Nat.lt_of_lt_of_le (Heap.lt_size q) I.sz) (Nat.lt_irrefl _)
      · obtain ⟨v', q⟩ := I.cell z c' e
        exact absurd (e2' ▸ q.lt) (Nat.lt_irrefl _)
      · exact absurd (e2' ▸ Heap.lt_size (I.pin p hp).1) (Nat.lt_irrefl _)
      · exact ⟨by show 2 ≤ sizeLine; decide, [.int (i : Int) s.toks, u], .cons ⟨_, rfl⟩ (.cons ru .nil), ⟨_, hs'.extBut _ _ pz a3, rfl, _, rfl⟩⟩
    have hpn : ∀ b ∈ [n + 1, n], b ≠ s.heap.objs.size := fun b hb e => by
      have q3 : ∃ o, s.heap.get? b = some o := by
        simp only [List.mem_cons, List.not_mem_nil, or_false] at hb
        obtain ⟨o1, g1, _⟩ := hit
        rcases hb with rfl | rfl
        · exact ⟨_, he⟩
        · exact ⟨_, g1⟩
      obtain ⟨o, q3⟩ := q3
      exact absurd (e ▸ Heap.lt_size q3) (Nat.lt_irrefl _)
    refine ⟨.ref s.heap.objs.size, _, I3, rfl, ⟨xs, x, _, q1, hx, fresh, rfl, rfl⟩, ⟨⟨_, he'⟩, a2.extBut hs'.extBut (Nat.ne_of_lt (Nat.lt_succ_self n))⟩, fun b hb => ?_⟩
    rw [upd_ne (hpn b hb)]; exact (hf b hb).1
  done := by
    intro X hP hw hK hc i pins s σ H E I hf st hg
    subst hP hw hK
    obtain ⟨⟨old, he⟩, hit⟩ := st
    obtain ⟨xs, q1, hl⟩ := hg
    obtain ⟨_, its1, n1, r1, l1', e1⟩ := I.lstM q1
    have L1 : s.heap.IsList l its1.toArray := ⟨_, e1, rfl, _, rfl⟩
    have hlen := r1.length
    refine wpAny_pyNext_enum_end (I.ok.hd hc) he hit L1 (by rw [List.getElem?_toArray, List.getElem?_eq_none (by omega)]) fun h' hk => ⟨rfl, I.turnedL (ch := [n + 1, n]) (t' := s.toks) (fun b o hb e => ?_) hf⟩
    simp only [List.mem_cons, List.not_mem_nil, or_false, not_or] at hb
    exact hk b o hb.2 e
  self := fun _ _ _ _ _ st h => by
    obtain ⟨⟨old, he⟩, _⟩ := st
    exact wpAny_pyIter_enum he h
section
variable {X : Cx}
noncomputable def iEnum (ta : TA) : TI := fun σ H R => ta σ H fun vs H1 => ∃ l xs, vs = [.ref l] ∧ H1 l = some (.lst xs) ∧ R (Ite l) H1
theorem pi_enum {a : Expr} {ta : TA} {p pos tpos : Pos} {elts : List Expr} {x1} (hg : Gl X "enumerate") (hm : X.mg "enumerate" = none) (ha : PA X [a] ta) (hs : starEach [a] X.env = [(false, eval a X.env)]) :
    PI X (.Tuple elts x1 tpos) (.Call (.Name "enumerate" p) [a] [] pos) (iEnum ta) := by
  intro pins s σ H R I h
  refine Call_ (ld_blt I hg hm boot_enumerate (PyProof.Rows.callWith_type1 (thn (ha pos pins s σ H _ I h) fun us s1 ⟨vs, H1, I1, r1, q1⟩ => ?_) (by rw [hs]; rfl) rfl))
  obtain ⟨l, xs, e, q1, q⟩ := q1
  subst e
  cases r1 with
  | cons r rr =>
    cases rr
    cases r
    obtain ⟨_, its1, n1, v1, _, e1⟩ := I1.lstM q1
    refine call_enumerate_list (items := its1.toArray) ⟨_, e1, rfl, _, rfl⟩ fun h' g1 g2 g3 hk => ?_
    have I2 : Inv X pins σ H1 { s1 with heap := h' } := I1.kept (t' := s1.toks) fun b o e => hk b o e
    refine wpAny_pyIter_enum (s := { s1 with heap := h' }) g1 ?_
    refine ⟨s1.heap.objs.size + 1, [s1.heap.objs.size + 1, s1.heap.objs.size], enumTn s1.heap.objs.size l, Ite l, H1, rfl, I2, turn_enum _ _, ⟨⟨_, g1⟩, g2⟩, fun b hb => ?_, q⟩
    have hge : s1.heap.objs.size ≤ b := by
      simp only [List.mem_cons, List.not_mem_nil, or_false] at hb
      rcases hb with rfl | rfl
      · exact Nat.le_add_right _ 1
      · exact Nat.le_refl _
    exact I1.fpOk (H' := H1) hge (I1.hok.fresh hge)
theorem qi_enum {a : Expr} {ta : TA} {p pos tpos : Pos} {elts : List Expr} {x1} (hg : Gl X "enumerate") (hm : X.mg "enumerate" = none) (ha : QA X [a] ta) (hs : starEach [a] X.env = [(false, eval a X.env)] := by rfl) :
    QI X (.Tuple elts x1 tpos) (.Call (.Name "enumerate" p) [a] [] pos) (iEnum ta) := ⟨pi_enum hg hm ha.run hs⟩
end
section
variable {X : Cx}
end
end L2
namespace L2
open PySem PySem.Spec
theorem for_enum {l : Addr} {xs : List V} {g : TG} {tb : TS} {D : Ends} {σ : St} {H : Hp} (Pv : Nat → St → Hp → Prop) (h0 : Pv 0 σ H) (hl : ∀ i σ H, i ≤ xs.length → Pv i σ H → H l = some (.lst xs))
    (hs : ∀ i x σ H p, xs[i]? = some x → Pv i σ H → H p = none → g (.ref p) σ (upd H p (.tup [.int (i : Int), x])) fun σ2 H2 => tb { D with nx := Pv (i + 1), ct := Pv (i + 1), bk := D.nx } σ2 H2) (hd : ∀ σ H, Pv xs.length σ H → D.nx σ H) :
    ∃ W : Nat → Nat → St → Hp → Prop, (∃ m, W 0 m σ H) ∧ ∀ i m σ H, W i m σ H →
      ((Ite l).stop i H ∧ D.nx σ H) ∨ ((Ite l).go i H ∧ ∃ N : St → Hp → Prop, (∀ σ' H', N σ' H' → ∃ m', m' < m ∧ W (i + 1) m' σ' H') ∧ ∀ x H', (Ite l).yld i H x H' → g x σ H' fun σ2 H2 => tb { D with nx := N, ct := N, bk := D.nx } σ2 H2) := by
  refine ⟨fun i m σ H => m = xs.length - i ∧ i ≤ xs.length ∧ Pv i σ H, ⟨xs.length, by simp, Nat.zero_le _, h0⟩, fun i m σ H ⟨em, hi, p⟩ => ?_⟩
  have q := hl i σ H hi p
  by_cases hlt : i < xs.length
  · refine .inr ⟨⟨xs, xs[i], q, by simp [hlt]⟩, Pv (i + 1), fun σ' H' p' => ⟨xs.length - (i + 1), by omega, rfl, hlt, p'⟩, fun x H' y => ?_⟩
    obtain ⟨ys, x', p', y1, y2, y3, y4, y5⟩ := y
    rw [q] at y1; cases y1
    subst y4 y5
    exact hs i x' σ H p' y2 p y3
  · have e : i = xs.length := by omega
    subst e
    exact .inl ⟨⟨xs, q, Nat.le_refl _⟩, hd σ H p⟩
theorem sqX {K : PySem.W.Frag} {H H' : Hp} {l t : Addr} {xs zs : List V} (e : SameX l H H') (hl : H l = some (.lst xs)) (h : SqT K H t zs) : SqT K H' t zs := by
  rcases h with (h | ⟨o, h⟩) | h
  · exact .inl (.inl (e _ _ h fun z => by rw [z, hl] at h; cases h))
  · exact .inl (.inr ⟨o, e _ _ h fun z => by rw [z, hl] at h; cases h⟩)
  · exact .inr h
theorem fl_take {α β : Type} {l : List α} {g : α → List β} {i : Nat} {x : α} (h : l[i]? = some x) : (l.take (i + 1)).flatMap g = (l.take i).flatMap g ++ g x := by
  rw [List.take_add_one, h, List.flatMap_append]; simp
theorem fl_le {α β : Type} (l : List α) (g : α → List β) (i : Nat) : ((l.take i).flatMap g).length ≤ (l.flatMap g).length := by
  have : l.flatMap g = (l.take i).flatMap g ++ (l.drop i).flatMap g := by rw [← List.flatMap_append, List.take_append_drop]
  rw [this, List.length_append]; exact Nat.le_add_right _ _
theorem fl_mem {α β : Type} {l : List α} {g : α → List β} {i : Nat} {x : α} (h : l[i]? = some x) : ((l.take i).flatMap g).length + (g x).length ≤ (l.flatMap g).length := by
  have := fl_le l g (i + 1)
  rw [fl_take h, List.length_append] at this
  exact this
theorem zip_at {α : Type} {l : List α} {i : Nat} {x : α} (h : l[i]? = some x) : l.zipIdx[i]? = some (x, i) := by
  rw [List.getElem?_zipIdx, h]; simp
end L2
namespace K43
open PySem PySem.Spec L2 Mir
noncomputable def innL : Deed → List (List Deed)
  | .plain _ => []
  | .cond _ a b => [a, b]
  | .loop _ _ _ a => [a]
noncomputable def isLp : Deed → Bool
  | .loop _ _ _ _ => true
  | _ => false
noncomputable def inF (f : List Deed → List Int → List (List Int)) (pa : List Int) (x : List Deed × Nat) : List (List Int) := f x.1 (pa ++ [(x.2 : Int)])
noncomputable def ownF (pa : List Int) (d : Deed) : List (List Int) := if isLp d = true then [pa] else []
noncomputable def lpD (f : List Deed → List Int → List (List Int)) (pa : List Int) (d : Deed) : List (List Int) := ownF pa d ++ (innL d).zipIdx.flatMap (inF f pa)
noncomputable def dF (f : List Deed → List Int → List (List Int)) (h : List Int) (x : Deed × Nat) : List (List Int) := lpD f (h ++ [(x.2 : Int)]) x.1
noncomputable def lpL : List Nat → List Deed → List Int → List (List Int)
  | [], _, _ => []
  | _ :: bs, ds, h => ds.zipIdx.flatMap (dF (lpL bs) h)
noncomputable def Paths (K : PySem.W.Frag) (H : Hp) (us : List Addr) (ns : List (List Int)) : Prop := Paired (fun t n => SqT K H t (n.map V.int)) us ns
theorem Paths.same {K : PySem.W.Frag} {H H' : Hp} {us : List Addr} {ns : List (List Int)} (h : Paths K H us ns) (e : Same H H') : Paths K H' us ns := Paired.mapP h fun _ _ z => e.seqT z
theorem Paths.put {K : PySem.W.Frag} {H : Hp} {l : Addr} {xs ys : List V} {us : List Addr} {ns : List (List Int)} (h : Paths K H us ns) (hl : H l = some (.lst xs)) : Paths K (upd H l (.lst ys)) us ns := Paired.mapP h fun _ _ z => sq_put hl z
inductive spLoops (K : PySem.W.Frag) (bs : List Nat) (vs : List V) (H : Hp) (Q : VK) (E : XK) : Prop
  | mk (l ah : Addr) (ds : List Deed) (h : List Int) (h0 : vs = [.ref l, .ref ah]) (h1 : ListX K H bs l ds) (h2 : SqT K H ah (h.map V.int)) (h3 : h.length + 2 * bs.length ≤ 40) (h4 : (lpL bs ds h).length ≤ 100)
      (q : ∀ fo us H', Same H H' → H fo = none → H' fo = some (.lst (us.map V.ref)) → Paths K H' us (lpL bs ds h) → Q (.ref fo) H') : spLoops K bs vs H Q E
theorem lists_of {K : PySem.W.Frag} {bs : List Nat} {H H0 : Hp} {t : Addr} {d : Deed} {vs : List V} {Q : VK} {E : XK} (h : DeedX K H0 (ListX K H0 bs) t d) (e : Same H0 H) (h0 : vs = [.ref t]) (q : ∀ l as, H l = none → Paired (ListX K H0 bs) as (innL d) → Q (.ref l) (upd H l (.lst (as.map V.ref)))) : spLists vs H Q E := by
  cases h with
  | plain p h1 h2 =>
    obtain ⟨w, vs', hw, n1, n2⟩ := pl_word h1 h2
    exact .none t w vs' h0 (e _ _ hw) n1 n2 fun l hl => q l [] hl .nil
  | cond c i o r a b h hc okr hi ho => exact .cond t i o _ h0 (e _ _ h) fun l hl => q l [i, o] hl (.cons hi (.cons ho .nil))
  | loop c td i fa pa r F P a h hc okr htd hF hP okF okP lF lP hi => exact .loop t i _ _ h0 (e _ _ h) fun l hl => q l [i] hl (.cons hi .nil)
theorem word_of {K : PySem.W.Frag} {H : Hp} {L : Addr → List Deed → Prop} {t : Addr} {d : Deed} (h : DeedX K H L t d) : ∃ (w : Str) (vs : List V), H t = some (.tup (.str w :: vs)) ∧ (w = "while" ↔ isLp d = true) := by
  cases h with
  | plain p h1 h2 =>
    obtain ⟨w, vs', hw, n1, n2⟩ := pl_word h1 h2
    exact ⟨w, vs', hw, fun z => absurd z n2, fun z => by cases z⟩
  | cond c i o r a b h hc okr hi ho => exact ⟨_, _, h, fun z => absurd z (by decide +kernel), fun z => by cases z⟩
  | loop c td i fa pa r F P a h hc okr htd hF hP okF okP lF lP hi => exact ⟨_, _, h, fun _ => rfl, fun _ => rfl⟩
inductive LI (K : PySem.W.Frag) (bs : List Nat) (H : Hp) (l ah fo : Addr) (ds : List Deed) (h : List Int) (i : Nat) (σ : St) (H2 : Hp) : Prop
  | mk (us : List Addr) (z3 z4 z5 z6 z7 : Option V) (e : Same H H2) (hf : H2 fo = some (.lst (us.map V.ref))) (hp : Paths K H2 us ((ds.zipIdx.take i).flatMap (dF (lpL bs) h))) (hσ : σ = [some (.ref l), some (.ref ah), some (.ref fo), z3, z4, z5, z6, z7])
inductive LJ (K : PySem.W.Frag) (bs : List Nat) (G : Hp) (l ah fo ll pa : Addr) (pre : List (List Int)) (is : List (List Deed)) (hp : List Int) (v3 v4 : V) (j : Nat) (σ : St) (H2 : Hp) : Prop
  | mk (us : List Addr) (z6 z7 : Option V) (e : SameX fo G H2) (hf : H2 fo = some (.lst (us.map V.ref))) (hpp : Paths K H2 us (pre ++ (is.zipIdx.take j).flatMap (inF (lpL bs) hp))) (hσ : σ = [some (.ref l), some (.ref ah), some (.ref fo), some v3, some v4, some (.ref pa), z6, z7])
section
variable {P : Program} {w : World} {K : PySem.W.Frag} {mg : Str → Option Value} {base : Heap} {f gS : Addr} {fd dS : FuncData}
theorem scLoopsIn : FnScope ["deeds", "ahead", "found", "number", "deed", "path", "side", "inner"] ["deeds", "ahead"] (defScope sLoopsIn) := ⟨rfl, rfl, rfl, by decide +kernel, rfl, by decide +kernel, by decide +kernel⟩
theorem ok_loops0 : FnOk P w K mg base CX0 1 f fd ["deeds", "ahead"] (spLoops K []) :=
  ⟨fun vs H Q E h => by obtain ⟨l, ah, ds, h, _, h1, _⟩ := h; exact h1.elim, fun A outer s H args us vs Q E _ _ _ _ h => by obtain ⟨l, ah, ds, h, _, h1, _⟩ := h; exact h1.elim⟩
theorem ok_loopsS {n b : Nat} {bs : List Nat} (hb : b ≤ 24) (C : Con K mg w) (F : Fun K "loops_in" "loops_in" sLoopsIn f fd) (GS : FnOk P w K mg base CX0 1 gS dS ["deed"] spLists) (cS : Cal K mg "lists_in" gS dS ["deed"]) (GR : FnOk P w K mg base CX0 (n + 1) f fd ["deeds", "ahead"] (spLoops K bs)) (cR : Cal K mg "loops_in" f fd ["deeds", "ahead"]) : FnOk P w K mg base CX0 (n + 1 + 1) f fd ["deeds", "ahead"] (spLoops K (b :: bs)) := by
  refine F.okQ scLoopsIn (fun vs H Q E h => ?_) (fun cdv A outer s0 H vs Q E hr h => ?_)
  · obtain ⟨l, ah, ds, h, rfl, _⟩ := h; rfl
  obtain ⟨l, ah, ds, h, rfl, hLX, hah, hlen, hcnt, q⟩ := h
  obtain ⟨ts, hl, hp, htl⟩ := hLX
  have nd := scLoopsIn.nd
  have hr1 := hr.mono (j := 1) (by omega)
  refine ⟨_, qb_cons (qs_set (i := 2) nd rfl (Or.inl rfl) (qe_lst qa_nil))
    (qb_cons (qs_for PassesOwn.never rfl (qi_enum rfl C.enumerate (qa_nm (qv 0) qa_nil)) (qg_tup2 (qg_name (i := 3) nd rfl (Or.inl rfl)) (qg_name (i := 4) nd rfl (Or.inl rfl))) (qb_cons (qs_set (i := 5) nd rfl (Or.inl rfl) (qe_op op_catTU (qv 1) (qe_tup (qa_nm (qv 3) qa_nil))))
    (qb_cons (qs_if (qt_cmpR op_eq (qe_ix ix_tup (qv 4) qe_int (fun _ _ => rfl)) qe_str (nomark _)) (qb_one (qs_expr (qe_bmK (K := K) rfl PySem.F.plainAttrs_list PySem.F.slot_list_append PySem.F.type_list_append mt_append (qv 2) (qa_nm (qv 5) qa_nil)))) qb_nil)
    (qb_one (qs_for PassesOwn.never rfl (qi_enum rfl C.enumerate (qa_call (qe_call GS hr1 rfl cS.name cS.keep cS.bind .nil pass0 (qa_nm (qv 4) qa_nil)) qa_nil)) (qg_tup2 (qg_name (i := 6) nd rfl (Or.inl rfl)) (qg_name (i := 7) nd rfl (Or.inl rfl))) (qb_one (qs_expr (qe_bmK (K := K) rfl PySem.F.plainAttrs_list PySem.F.slot_list_extend PySem.F.type_list_extend mt_extend (qv 2) (qa_call (qe_call GR hr rfl cR.name cR.keep cR.bind .nil pass0 (qa_nm (qv 7) (qa_bop (qe_op op_catTU (qv 5) (qe_tup (qa_nm (qv 6) qa_nil))) qa_nil))) qa_nil)))))))))
    (qb_one (qs_ret (qv 2)))), ?_⟩
  have hpl := Paired.length hp
  rw [List.length_cons] at hlen
  have hcnt' : (ds.zipIdx.flatMap (dF (lpL bs) h)).length ≤ 100 := hcnt
  refine ⟨Nat.zero_le _, fun fo hfo => ?_⟩
  have s1 := same_new hfo (.lst [])
  have k1 : (upd H fo (.lst [])) fo = some (.lst []) := upd_same
  generalize upd H fo (.lst []) = H1 at s1 k1 ⊢
  dsimp only [gName]
  refine seq_hide (a := tFor _ _ _) fun D1 hN1 hR1 hC1 => ?_
  refine ⟨_, rfl, l, _, rfl, s1 _ _ hl, ?_⟩
  refine for_enum (xs := ts.map V.ref) (LI K bs H l ah fo ds h) ⟨[], none, none, none, none, none, s1, k1, .nil, rfl⟩ (fun i σ H' _ z => by obtain ⟨us, _, _, _, _, _, e, _⟩ := z; exact e _ _ hl) ?_ ?_
  · rintro i x σ H2 p hx ⟨us, z3, z4, z5, z6, z7, e, hf, hpp, rfl⟩ hpn
    rw [List.getElem?_map] at hx
    obtain ⟨t, ht, rfl⟩ := Option.map_eq_some_iff.mp hx
    obtain ⟨d, hd, hX⟩ := Paired.nth hp ht
    have hi24 : i < 24 := Nat.lt_of_lt_of_le (List.getElem?_eq_some_iff.mp ht).1 (Nat.le_trans htl hb)
    have hzi := zip_at hd
    have hsz := fl_mem (g := dF (lpL bs) h) hzi
    have htk := fl_take (g := dF (lpL bs) h) hzi
    have hdF : dF (lpL bs) h (d, i) = ownF (h ++ [(i : Int)]) d ++ (innL d).zipIdx.flatMap (inF (lpL bs) (h ++ [(i : Int)])) := rfl
    rw [hdF, List.length_append] at hsz
    have sp := same_new hpn (.tup [.int (i : Int), .ref t])
    have kp : (upd H2 p (.tup [.int (i : Int), .ref t])) p = some (.tup [.int (i : Int), .ref t]) := upd_same
    generalize upd H2 p (.tup [.int (i : Int), .ref t]) = H3 at sp kp ⊢
    have e3 := e.trans sp
    have hf3 := sp _ _ hf
    have hpp3 := hpp.same sp
    clear hpn hpp hf e
    refine ⟨p, _, rfl, SqT.of kp, rfl, _, _, rfl, _, _, rfl, rfl, ?_⟩
    refine ⟨_, rfl, _, rfl, (show 1 ≤ sizeLine by decide), fun p1 hp1 => ?_⟩
    have s4 := same_new hp1 (.tup [.int (i : Int)])
    have k4 : (upd H3 p1 (.tup [.int (i : Int)])) p1 = some (.tup [.int (i : Int)]) := upd_same
    generalize upd H3 p1 (.tup [.int (i : Int)]) = H4 at s4 k4 ⊢
    have e4 := e3.trans s4
    refine ⟨ah, p1, _, _, rfl, rfl, e4.seqT hah, SqT.of k4, le_line (by rw [List.length_map]; show _ + 1 ≤ 1000; omega), fun pa H5 s5 k5' => ?_⟩
    have k5 : SqT K H5 pa ((h ++ [(i : Int)]).map V.int) := by rw [List.map_append]; exact k5'
    have e5 := e4.trans s5
    have hf5 := s5 _ _ (s4 _ _ hf3)
    have hpp5 := (hpp3.same s4).same s5
    clear hf3 hpp3 e3 e4 k5' k4 s4 s5 sp kp
    have hul := Paired.length hpp5
    obtain ⟨wd, vs, hw', hwi⟩ := word_of hX
    have hw := e5 _ _ hw'
    dsimp only [gName]
    refine seq_hide (a := tIfS _ _ _) fun D2 hN2 hR2 hC2 => ?_
    have rest : ∀ {us' : List Addr} {H6 : Hp}, SameX fo H5 H6 → H6 fo = some (.lst (us'.map V.ref)) → Paths K H6 us' ((ds.zipIdx.take i).flatMap (dF (lpL bs) h) ++ ownF (h ++ [(i : Int)]) d) → D2.nx [some (.ref l), some (.ref ah), some (.ref fo), some (.int (i : Int)), some (.ref t), some (.ref pa), z6, z7] H6 := fun {us' H6} e6 hf6 hp6 => by
      have e06 : Same H H6 := fun b o z => e6 _ _ (e5 _ _ z) (ne_of_none z hfo)
      have k6 : SqT K H6 pa ((h ++ [(i : Int)]).map V.int) := sqX e6 hf5 k5
      generalize hpre : (ds.zipIdx.take i).flatMap (dF (lpL bs) h) ++ ownF (h ++ [(i : Int)]) d = pre at hp6
      have hprel : pre.length + ((innL d).zipIdx.flatMap (inF (lpL bs) (h ++ [(i : Int)]))).length ≤ 100 := by
        rw [← hpre, List.length_append]; omega
      refine hN2 _ _ ?_
      refine ⟨_, rfl, lists_of hX e06 rfl fun ll as hll hin => ?_⟩
      have s7 := same_new hll (.lst (as.map V.ref))
      have k7 : (upd H6 ll (.lst (as.map V.ref))) ll = some (.lst (as.map V.ref)) := upd_same
      have nll : ll ≠ fo := (ne_of_none hf6 hll).symm
      generalize upd H6 ll (.lst (as.map V.ref)) = H7 at s7 k7 ⊢
      have k7p := s7.seqT k6
      have hf7 := s7 _ _ hf6
      have hp7 := hp6.same s7
      refine ⟨ll, _, rfl, k7, ?_⟩
      refine for_enum (xs := as.map V.ref) (LJ K bs H7 l ah fo ll pa pre (innL d) (h ++ [(i : Int)]) (.int (i : Int)) (.ref t)) ⟨us', z6, z7, fun _ _ z _ => z, hf7, (by simpa using hp7), rfl⟩ (fun j σ H' _ z => by obtain ⟨_, _, _, e, _⟩ := z; exact e _ _ k7 nll) ?_ ?_
      · rintro j x σ H8 p8 hx8 ⟨us8, y6, y7, e8, hf8, hp8, rfl⟩ hp8n
        rw [List.getElem?_map] at hx8
        obtain ⟨c, hc, rfl⟩ := Option.map_eq_some_iff.mp hx8
        obtain ⟨a, ha, hLa⟩ := Paired.nth hin hc
        have hj : j < 2 := by
          have h1 := (List.getElem?_eq_some_iff.mp ha).1
          have : (innL d).length ≤ 2 := by cases d <;> simp [innL]
          omega
        have hzj := zip_at ha
        have hszj := fl_mem (g := inF (lpL bs) (h ++ [(i : Int)])) hzj
        have s9 := same_new hp8n (.tup [.int (j : Int), .ref c])
        have k9 : (upd H8 p8 (.tup [.int (j : Int), .ref c])) p8 = some (.tup [.int (j : Int), .ref c]) := upd_same
        generalize upd H8 p8 (.tup [.int (j : Int), .ref c]) = H9 at s9 k9 ⊢
        have e9 : SameX fo H7 H9 := fun b o z n => s9 _ _ (e8 _ _ z n)
        have hf9 := s9 _ _ hf8
        have hp9 := hp8.same s9
        clear hp8n hp8 e8
        refine ⟨p8, _, rfl, SqT.of k9, rfl, _, _, rfl, _, _, rfl, rfl, ?_⟩
        refine ⟨_, rfl, (.inl ⟨rfl, _, SqL.of hf9⟩), _, rfl, _, rfl, _, rfl, (show 1 ≤ sizeLine by decide), fun p1 hp1 => ?_⟩
        have s10 := same_new hp1 (.tup [.int (j : Int)])
        have k10 : (upd H9 p1 (.tup [.int (j : Int)])) p1 = some (.tup [.int (j : Int)]) := upd_same
        generalize upd H9 p1 (.tup [.int (j : Int)]) = H10 at s10 k10 ⊢
        have k10p : SqT K H10 pa ((h ++ [(i : Int)]).map V.int) := s10.seqT (sqX e9 hf7 k7p)
        refine ⟨pa, p1, _, _, rfl, rfl, k10p, SqT.of k10, le_line (by rw [List.length_map, List.length_append]; show _ + 1 + 1 ≤ 1000; omega), fun pb H11 s11 k11' => ?_⟩
        have k11 : SqT K H11 pb ((h ++ [(i : Int)] ++ [(j : Int)]).map V.int) := by rw [List.map_append]; exact k11'
        have hf11 := s11 _ _ (s10 _ _ hf9)
        have hp11 := (hp9.same s10).same s11
        have hul := Paired.length hp11
        have e11 : SameX fo H7 H11 := fun b o z n => s11 _ _ (s10 _ _ (e9 _ _ z n))
        have e011 : Same H H11 := fun b o z => e11 _ _ (s7 _ _ (e06 _ _ z)) (ne_of_none z hfo)
        have hina : inF (lpL bs) (h ++ [(i : Int)]) (a, j) = lpL bs a (h ++ [(i : Int)] ++ [(j : Int)]) := rfl
        rw [hina] at hszj
        rw [List.length_append] at hul
        refine ⟨c, pb, a, _, rfl, hLa.same e011, k11, (by rw [List.length_append, List.length_append]; show _ + 1 + 1 + _ ≤ 40; omega), (by omega), fun fo' us' H12 e12 _ k12 hp12 => ?_⟩
        have hul' := Paired.length hp12
        have hf12 := e12 _ _ hf11
        refine ⟨fo, fo', _, _, rfl, rfl, hf12, k12, le_line (by rw [List.length_map, List.length_map, hul, hul']; omega), ?_⟩
        refine ⟨us8 ++ us', _, _, fun b o z n => by rw [upd_ne n]; exact e12 _ _ (e11 _ _ z n), by rw [upd_same, List.map_append], ?_, rfl⟩
        rw [fl_take (g := inF (lpL bs) (h ++ [(i : Int)])) hzj, hina, ← List.append_assoc]
        exact Paired.app ((hp11.same e12).put hf12) (hp12.put hf12)
      · rintro σ H8 ⟨us8, y6, y7, e8, hf8, hp8, rfl⟩
        have e08 : Same H H8 := fun b o z => e8 _ _ (s7 _ _ (e06 _ _ z)) (ne_of_none z hfo)
        refine ⟨us8, _, _, _, _, _, e08, hf8, ?_, rfl⟩
        rw [htk, hdF, ← List.append_assoc, hpre]
        have : (innL d).zipIdx.take (as.map V.ref).length = (innL d).zipIdx := List.take_of_length_le (by rw [List.length_map, List.length_zipIdx, Paired.length hin]; exact Nat.le_refl _)
        rw [this] at hp8
        exact hp8
    refine ⟨_, rfl, t, _, 0, _, rfl, rfl, SqT.of hw, at0, rfl, _, rfl, iteB (fun c => ?_) (fun c => ?_)⟩
    · have hlp := hwi.mp (V.str.inj (of_decide_eq_true c))
      have ho : ownF (h ++ [(i : Int)]) d = [h ++ [(i : Int)]] := by unfold ownF; rw [if_pos hlp]
      rw [ho] at rest hsz
      refine ⟨_, rfl, (.inl ⟨rfl, _, SqL.of hf5⟩), _, rfl, fo, _, _, rfl, rfl, hf5, lt_line (by rw [List.length_map, hul]; have : [h ++ [(i : Int)]].length = 1 := rfl; omega), ?_⟩
      refine rest (us' := us ++ [pa]) (fun b o z n => by rw [upd_ne n]; exact z) (by rw [upd_same, List.map_append]; rfl) ?_
      exact Paired.snocP (hpp5.put hf5) (sq_put hf5 k5)
    · have hlp : ¬ isLp d = true := fun z => by rw [decide_eq_true (congrArg V.str (hwi.mpr z))] at c; cases c
      have ho : ownF (h ++ [(i : Int)]) d = [] := by unfold ownF; rw [if_neg hlp]
      rw [ho, List.append_nil] at rest
      exact rest (fun b o z n => z) hf5 hpp5
  rintro σ H2 ⟨us, z3, z4, z5, z6, z7, e, hf, hpp, rfl⟩
  refine hN1 _ _ ⟨_, rfl, q fo us H2 e hfo hf ?_⟩
  have : ds.zipIdx.take (ts.map V.ref).length = ds.zipIdx := List.take_of_length_le (by rw [List.length_map, List.length_zipIdx, hpl]; exact Nat.le_refl _)
  rw [this] at hpp
  exact hpp
end
end K43
namespace TS
open PySem PySem.W PyProof.Rows
section
variable {α β : Type} {N : Nat} {lt : Nat → Nat → Bool} {p : Array Nat}
noncomputable def pw (N : Nat) (lt : Nat → Nat → Bool) : KasT α → (α → Prop) → Prop
  | .ret a, Q => Q a
  | .ask i j k, Q => i < N ∧ j < N ∧ pw N lt (k (lt i j)) Q
theorem pw_bind {f : α → KasT β} {Q : β → Prop} : ∀ {t : KasT α}, pw N lt t (fun a => pw N lt (f a) Q) → pw N lt (t.bind f) Q
  | .ret _, h => h
  | .ask i j k, ⟨h1, h2, h3⟩ => ⟨h1, h2, pw_bind h3⟩
theorem pw_wp {cmp : Nat → Nat → (Bool → Shared → Prop) → Shared → Prop} {s : Shared} {Q : α → Prop} (hc : ∀ i j C, i < N → j < N → C (lt i j) s → cmp i j C s) {R : α → Shared → Prop} (hq : ∀ a, Q a → R a s) : ∀ {t : KasT α}, pw N lt t Q → t.kasWp cmp R s
  | .ret a, h => hq a h
  | .ask i j k, ⟨h1, h2, h3⟩ => hc i j _ h1 h2 (pw_wp hc hq h3)
structure Ord (N : Nat) (lt : Nat → Nat → Bool) : Prop where
  tr : ∀ i j k, lt i j = true → lt j k = true → lt i k = true
  tot : ∀ i j, i < N → j < N → i ≠ j → lt i j = false → lt j i = true
abbrev gt (p : Array Nat) (i : Nat) : Nat := p.getD i 0
structure Pm (N : Nat) (p : Array Nat) : Prop where
  perm : p.toList.Perm (List.range N)
theorem Pm.size (h : Pm N p) : p.size = N := by
  have := h.perm.length_eq
  rw [List.length_range, Array.length_toList] at this
  exact this
theorem gt_some {i : Nat} (hi : i < p.size) : p[i]? = some (gt p i) := by
  unfold gt; rw [Array.getD_eq_getD_getElem?, Array.getElem?_eq_getElem hi]; rfl
theorem Pm.low (h : Pm N p) {i : Nat} (hi : i < N) : gt p i < N := by
  have h1 := gt_some (p := p) (i := i) (by rw [h.size]; exact hi)
  rw [← Array.getElem?_toList] at h1
  exact List.mem_range.mp (h.perm.mem_iff.mp (List.mem_of_getElem? h1))
theorem Pm.inj (h : Pm N p) {i j : Nat} (hi : i < N) (hj : j < N) (hij : i ≠ j) : gt p i ≠ gt p j := fun e => by
  have h1 := gt_some (p := p) (i := i) (by rw [h.size]; exact hi)
  have h2 := gt_some (p := p) (i := j) (by rw [h.size]; exact hj)
  rw [← Array.getElem?_toList] at h1 h2
  have nd : p.toList.Nodup := h.perm.nodup_iff.mpr List.nodup_range
  rw [e, ← h2] at h1
  exact hij ((List.getElem?_inj (by rw [Array.length_toList, h.size]; exact hi) nd).mp h1)
noncomputable def As (lt : Nat → Nat → Bool) (p : Array Nat) (k : Nat) : Prop := ∀ i j, i < j → j < k → lt (gt p i) (gt p j) = true
theorem asc_ (O : Ord N lt) (hp : Pm N p) {Q : Nat → Prop} : ∀ (f n : Nat), 1 ≤ n → n + f ≤ N → As lt p n → (∀ m, n ≤ m → m ≤ n + f → As lt p m → (m < n + f → lt (gt p m) (gt p (m - 1)) = true) → Q m) → pw N lt (kas_asc p f n) Q
  | 0, n, _, _, a, q => q n (Nat.le_refl _) (Nat.le_refl _) a (fun z => absurd z (Nat.lt_irrefl _))
  | f + 1, n, h1, h2, a, q => by
    refine ⟨hp.low (by omega), hp.low (by omega), ?_⟩
    dsimp only
    by_cases c : lt (gt p n) (gt p (n - 1)) = true
    · rw [if_pos c]
      exact q n (Nat.le_refl _) (by omega) a fun _ => c
    · rw [if_neg c]
      have c' : lt (gt p (n - 1)) (gt p n) = true := O.tot _ _ (hp.low (by omega)) (hp.low (by omega)) (hp.inj (by omega) (by omega) (by omega)) (by simpa using c)
      refine asc_ O hp f (n + 1) (by omega) (by omega) (fun i j hij hj => ?_) fun m e1 e2 e3 e4 => q m (by omega) (by omega) e3 fun z => e4 (by omega)
      by_cases hjn : j < n
      · exact a i j hij hjn
      · have : j = n := by omega
        subst this
        by_cases hi : i = j - 1
        · rw [hi]; exact c'
        · exact O.tr _ _ _ (a i (j - 1) (by omega) (by omega)) c'
theorem desc_ (O : Ord N lt) (hp : Pm N p) {Q : Array Nat × Nat × Nat → Prop} : ∀ (f n : Nat), 1 ≤ n → n + f ≤ N → (∀ i j, i < j → j < n → lt (gt p j) (gt p i) = true) → (∀ m, n ≤ m → m ≤ n + f → (∀ i j, i < j → j < m → lt (gt p j) (gt p i) = true) → Q (p, m, 0)) → pw N lt (kas_desc f p n 0) Q
  | 0, n, _, _, a, q => q n (Nat.le_refl _) (Nat.le_refl _) a
  | f + 1, n, h1, h2, a, q => by
    refine ⟨hp.low (by omega), hp.low (by omega), ?_⟩
    dsimp only
    by_cases c : lt (gt p n) (gt p (n - 1)) = true
    · rw [if_pos c, if_neg (Nat.lt_irrefl 0)]
      refine desc_ O hp f (n + 1) (by omega) (by omega) (fun i j hij hj => ?_) fun m e1 e2 e3 => q m (by omega) (by omega) e3
      by_cases hjn : j < n
      · exact a i j hij hjn
      · have : j = n := by omega
        subst this
        by_cases hi : i = j - 1
        · rw [hi]; exact c
        · exact O.tr _ _ _ c (a i (j - 1) (by omega) (by omega))
    · rw [if_neg c]
      have c' : lt (gt p (n - 1)) (gt p n) = true := O.tot _ _ (hp.low (by omega)) (hp.low (by omega)) (hp.inj (by omega) (by omega) (by omega)) (by simpa using c)
      refine ⟨hp.low (by omega), hp.low (by omega), ?_⟩
      dsimp only
      rw [if_pos c']
      exact q n (Nat.le_refl _) (by omega) a
theorem Pm.of (hp : Pm N p) {p' : Array Nat} (h : p'.Perm p) : Pm N p' := ⟨(Array.perm_iff_toList_perm.mp h).trans hp.perm⟩
theorem gt_of {p' : Array Nat} {i j : Nat} (h : p'[i]? = p[j]?) : gt p' i = gt p j := by
  unfold gt; rw [Array.getD_eq_getD_getElem?, Array.getD_eq_getD_getElem?, h]
theorem rev_ (hp : Pm N p) {m : Nat} (hm : m ≤ N) (a : ∀ i j, i < j → j < m → lt (gt p j) (gt p i) = true) : Pm N (kas_rev p 0 m) ∧ As lt (kas_rev p 0 m) m := by
  refine ⟨hp.of (mirror_perm _ _ _ _), fun i j hij hj => ?_⟩
  have e : ∀ i, i < m → gt (kas_rev p 0 m) i = gt p (m - 1 - i) := fun i hi => gt_of (by
    unfold kas_rev
    rw [getElem?_mirror_all (by rw [hp.size]; exact hm), if_pos ⟨Nat.zero_le _, hi⟩, Nat.zero_add])
  rw [e i (by omega), e j hj]
  exact a _ _ (by omega) (by omega)
theorem count_ (O : Ord N lt) (hp : Pm N p) (hN : 1 ≤ N) {Q : Nat × Array Nat → Prop} (q : ∀ m p', 1 ≤ m → m ≤ N → Pm N p' → As lt p' m → Q (m, p')) : pw N lt (kas_count N p) Q := by
  unfold kas_count
  refine pw_bind (asc_ O hp (N - 1) 1 (Nat.le_refl _) (by omega) (fun i j _ _ => by omega) fun m m1 m2 a hs => ?_)
  by_cases e : (m == N) = true
  · rw [if_pos e]; exact q m p m1 (by omega) hp a
  rw [if_neg e]
  have e' : m ≠ N := fun z => e (by rw [z]; exact beq_self_eq_true _)
  by_cases g : m > 1
  · rw [if_pos g]
    refine ⟨hp.low (by omega), hp.low (by omega), ?_⟩
    dsimp only
    rw [if_pos (a 0 (m - 1) (by omega) (by omega))]
    exact q m p m1 (by omega) hp a
  rw [if_neg g]
  have e1 : m = 1 := by omega
  subst e1
  unfold kas_descPart
  have h10 := hs (by omega)
  refine pw_bind (desc_ O hp (N - 2) 2 (by omega) (by omega) (fun i j hij hj => ?_) fun k k1 k2 d => ?_)
  · have : i = 0 := by omega
    have : j = 1 := by omega
    subst i j
    exact h10
  show pw N lt (if 0 > 0 then _ else kas_tail3 k N p) Q
  rw [if_neg (Nat.lt_irrefl 0)]
  unfold kas_tail3
  obtain ⟨r1, r2⟩ := rev_ hp (by omega) d
  exact pw_bind (asc_ O r1 (N - k) k (by omega) (by omega) r2 fun m' m1 m2 a' _ => q m' _ (by omega) (by omega) r1 a')
theorem place_ (O : Ord N lt) (hp : Pm N p) {k : Nat} (hk : k < N) (a : As lt p k) {Q : Nat → Prop} : ∀ (f l r : Nat), l ≤ r → r ≤ k → r - l ≤ f → (∀ i, i < l → lt (gt p i) (gt p k) = true) → (∀ i, r ≤ i → i < k → lt (gt p k) (gt p i) = true) →
    (∀ l, l ≤ k → (∀ i, i < l → lt (gt p i) (gt p k) = true) → (∀ i, l ≤ i → i < k → lt (gt p k) (gt p i) = true) → Q l) → pw N lt (kas_place p k f l r) Q
  | 0, l, r, h1, h2, h3, b1, b2, q => by
    have : l = r := by omega
    subst this
    exact q l h2 b1 b2
  | f + 1, l, r, h1, h2, h3, b1, b2, q => by
    unfold kas_place
    by_cases g : l ≥ r
    · rw [if_pos g]
      have : l = r := by omega
      subst this
      exact q l h2 b1 b2
    rw [if_neg g]
    have m1 : (l + r) / 2 < r := by omega
    have m2 : l ≤ (l + r) / 2 := by omega
    generalize (l + r) / 2 = m at m1 m2 ⊢
    refine ⟨hp.low hk, hp.low (by omega), ?_⟩
    dsimp only
    by_cases c : lt (gt p k) (gt p m) = true
    · rw [if_pos c]
      refine place_ O hp hk a f l m m2 (by omega) (by omega) b1 (fun i i1 i2 => ?_) q
      by_cases e : i = m
      · rw [e]; exact c
      · exact O.tr _ _ _ c (a m i (by omega) i2)
    · rw [if_neg c]
      have c' : lt (gt p m) (gt p k) = true := O.tot _ _ (hp.low hk) (hp.low (by omega)) (hp.inj hk (by omega) (by omega)) (by simpa using c)
      refine place_ O hp hk a f (m + 1) r (by omega) h2 (by omega) (fun i hi => ?_) b2 q
      by_cases e : i = m
      · rw [e]; exact c'
      · exact O.tr _ _ _ (a i m (by omega) (by omega)) c'
theorem bin_ (O : Ord N lt) {Q : Array Nat → Prop} (q : ∀ p, Pm N p → As lt p N → Q p) : ∀ (f : Nat) {p : Array Nat} (k : Nat), Pm N p → As lt p k → k + f = N → pw N lt (kas_bin f p k) Q
  | 0, p, k, hp, a, e => q p hp (by rw [← e]; exact a)
  | f + 1, p, k, hp, a, e => by
    refine pw_bind (place_ O hp (by omega) a k 0 k (Nat.zero_le _) (Nat.le_refl _) (Nat.le_refl _) (fun i hi => by omega) (fun i i1 i2 => by omega) fun l hl b1 b2 => ?_)
    have ge : ∀ i, gt (bubble p k (k - l)) i = if i = l then gt p k else if l < i ∧ i ≤ k then gt p (i - 1) else gt p i := fun i => by
      have := getElem?_bubble (xs := p) (src := k) (by rw [hp.size]; omega) (k - l) (by omega) i
      rw [show k - (k - l) = l by omega] at this
      by_cases c : i = l
      · rw [if_pos c] at this ⊢; exact gt_of this
      rw [if_neg c] at this ⊢
      by_cases d : l < i ∧ i ≤ k
      · rw [if_pos d] at this ⊢; exact gt_of this
      · rw [if_neg d] at this ⊢; exact gt_of this
    refine bin_ O q f (k + 1) (hp.of (bubble_perm _ _ _)) (fun i j hij hj => ?_) (by omega)
    rw [ge i, ge j]
    by_cases c : i = l
    · rw [if_pos c, if_neg (by omega), if_pos (by omega)]
      exact b2 _ (by omega) (by omega)
    rw [if_neg c]
    by_cases d : l < i ∧ i ≤ k
    · rw [if_pos d, if_neg (by omega), if_pos (by omega)]
      exact a _ _ (by omega) (by omega)
    rw [if_neg d]
    have hil : i < l := by omega
    by_cases e1 : j = l
    · rw [if_pos e1]; exact b1 i hil
    rw [if_neg e1]
    by_cases e2 : l < j ∧ j ≤ k
    · rw [if_pos e2]
      exact a _ _ (by omega) (by omega)
    · rw [if_neg e2]
      exact a _ _ hij (by omega)
theorem sort_ (O : Ord N lt) (hN : 1 ≤ N) : pw N lt (kas_sort N) fun p => Pm N p ∧ As lt p N := by
  unfold kas_sort
  refine pw_bind (count_ O ⟨by simp⟩ hN fun m p m1 m2 hp a => ?_)
  show pw N lt (if m < N then kas_bin (N - max m 1) p (max m 1) else .ret p) _
  have hm : max m 1 = m := Nat.max_eq_left m1
  rw [hm]
  by_cases c : m < N
  · rw [if_pos c]
    exact bin_ O (fun p h1 h2 => ⟨h1, h2⟩) (N - m) m hp a (by omega)
  · rw [if_neg c]
    have : m = N := by omega
    subst this
    exact ⟨hp, a⟩
end
section
open L2 HT
theorem lex_tr : ∀ {a b c : List Int}, lexLt a b = true → lexLt b c = true → lexLt a c = true
  | [], [], _, h, _ => by cases h
  | [], _ :: _, [], _, h => by cases h
  | [], _ :: _, _ :: _, _, _ => rfl
  | _ :: _, [], _, h, _ => by cases h
  | _ :: _, _ :: _, [], _, h => by cases h
  | x :: a, y :: b, z :: c, h1, h2 => by
    rw [lexLt_cons] at h1 h2 ⊢
    by_cases e1 : x = y
    · by_cases e2 : y = z
      · rw [if_pos e1] at h1; rw [if_pos e2] at h2; rw [if_pos (e1.trans e2)]; exact lex_tr h1 h2
      · rw [if_neg e2] at h2
        have := of_decide_eq_true h2
        rw [if_neg (by omega)]; exact decide_eq_true (by omega)
    · rw [if_neg e1] at h1
      have g1 := of_decide_eq_true h1
      by_cases e2 : y = z
      · rw [if_neg (by omega)]; exact decide_eq_true (by omega)
      · rw [if_neg e2] at h2
        have := of_decide_eq_true h2
        rw [if_neg (by omega)]; exact decide_eq_true (by omega)
theorem lex_tot : ∀ {a b : List Int}, a ≠ b → lexLt a b = false → lexLt b a = true
  | [], [], h, _ => absurd rfl h
  | [], _ :: _, _, h => by cases h
  | _ :: _, [], _, _ => rfl
  | x :: a, y :: b, h, h1 => by
    rw [lexLt_cons] at h1 ⊢
    by_cases e : x = y
    · rw [if_pos e] at h1; rw [if_pos e.symm]
      exact lex_tot (fun z => h (by rw [e, z])) h1
    · rw [if_neg e] at h1; rw [if_neg (fun z => e z.symm)]
      have := of_decide_eq_false h1
      exact decide_eq_true (by omega)
variable {prog : Program} {w : World} {A : Around} {E : Value → Shared → Prop} {s : Shared}
theorem lex_ {Q : Bool → Shared → Prop} : ∀ {vs ws : List Value} {ns ms : List Int} (i : Nat), IntsAre vs ns → IntsAre ws ms → Q (lexLt ns ms) s → KatLex prog w A true (decide (ns.length < ms.length)) Q (vs.zip ws) i s
  | _, _, _, _, i, .nil, .nil, h => kat_nil h
  | _, _, _, _, i, .nil, .cons y u r, h => by
    refine kat_nil ?_
    rw [decide_eq_true (by simp)]; exact h
  | _, _, _, _, i, .cons x t r, .nil, h => by
    refine kat_nil ?_
    rw [decide_eq_false (by simp)]; exact h
  | _, _, _, _, i, .cons (ns := ns) x t r, .cons (ns := ms) y u r', h => by
    rw [lexLt_cons] at h
    rw [List.zip_cons_cons]
    refine kat_cons (wpAny_eqBool_int (kat_go (fun e => ?_) (fun e => ?_)))
    · rw [if_pos (by simpa using e)] at h
      refine kat_yes ?_
      have := lex_ (i + 1) r r' h
      rw [List.length_cons, List.length_cons]
      rw [show decide (ns.length + 1 < ms.length + 1) = decide (ns.length < ms.length) from by simp]
      exact this
    · rw [if_neg (by simpa using e)] at h
      refine kat_no ?_
      cases hi : (true && i == 0) with
      | true => exact oneLt_int h
      | false => exact kat_one _ _ (PyProof.Rows.lt_int h)
structure Tups (h : Heap) (vs : List Value) (nss : List (List Int)) : Prop where
  len : nss.length = vs.length
  at_ : ∀ i, i < vs.length → ∃ t its, vs[i]? = some (.ref t) ∧ IsTup h t its.toArray ∧ IntsAre its (nss.getD i []) ∧ nss.getD i [] ≠ []
noncomputable def ky (nss : List (List Int)) (i j : Nat) : Bool := lexLt (nss.getD i []) (nss.getD j [])
theorem ky_ord {nss : List (List Int)} (nd : nss.Nodup) : Ord nss.length (ky nss) where
  tr := fun i j k h1 h2 => lex_tr h1 h2
  tot := fun i j hi hj hij h => lex_tot (fun e => hij (by
    have e1 : nss[i]? = nss[j]? := by
      rw [List.getD_eq_getElem?_getD, List.getD_eq_getElem?_getD, List.getElem?_eq_getElem hi, List.getElem?_eq_getElem hj] at e
      rw [List.getElem?_eq_getElem hi, List.getElem?_eq_getElem hj]; exact congrArg some e
    exact (List.getElem?_inj hi nd).mp e1)) h
theorem getD_some {α : Type} {l : List α} {i : Nat} {a d : α} (h : l[i]? = some a) : l.getD i d = a := by
  rw [List.getD_eq_getElem?_getD, h]; rfl
theorem ask_ {vs : List Value} {nss : List (List Int)} (T : Tups s.heap vs nss) (i j : Nat) (C : Bool → Shared → Prop) (hi : i < vs.length) (hj : j < vs.length) (h : C (ky nss i j) s) : kas_ask prog w A (tuples' true) vs i j C s := by
  obtain ⟨t, its, e1, ⟨⟨c1, d1, dt1, sl1⟩, o1, k1, n1, q1⟩, i1, _⟩ := T.at_ i hi
  obtain ⟨u, jts, e2, ⟨⟨c2, d2, dt2, sl2⟩, o2, k2, n2, q2⟩, i2, _⟩ := T.at_ j hj
  unfold kas_ask
  rw [getD_some e1, getD_some e2]
  refine kat_lt o1 q1 o2 q2 ?_
  have := lex_ (prog := prog) (w := w) (A := A) (s := s) (Q := C) 0 i1 i2 h
  have l1 := i1.length
  have l2 := i2.length
  rw [List.size_toArray, List.size_toArray, l1, l2]
  exact this
theorem kt_ {h : Heap} : ∀ {vs : List Value} {nss : List (List Int)}, (∀ i, i < vs.length → ∃ t its, vs[i]? = some (.ref t) ∧ IsTup h t its.toArray ∧ IntsAre its (nss.getD i []) ∧ nss.getD i [] ≠ []) → ∃ fs, KatTups h vs fs ∧ fs.length = vs.length ∧ ∀ v ∈ fs, ∃ i t, v = .int i t
  | [], _, _ => ⟨[], trivial, rfl, fun _ hv => by cases hv⟩
  | v :: vs, nss, H => by
    obtain ⟨t, its, e1, ⟨⟨c1, d1, dt1, sl1⟩, o1, k1, n1, q1⟩, i1, ne⟩ := H 0 (by simp)
    obtain ⟨fs, h1, h2, h3⟩ := kt_ (h := h) (vs := vs) (nss := nss.tail) (fun i hi => by
      obtain ⟨t, its, a, b, c, d⟩ := H (i + 1) (by simpa using hi)
      have e : nss.tail.getD i [] = nss.getD (i + 1) [] := by cases nss <;> simp
      rw [e]
      exact ⟨t, its, by simpa using a, b, c, d⟩)
    have ev : v = .ref t := by simpa using e1
    subst ev
    generalize nss.getD 0 [] = ns at i1 ne
    cases i1 with
    | nil => exact absurd rfl ne
    | cons x tk r =>
      refine ⟨.int x tk :: fs, KatTups.cons o1 k1 q1 (by simp) h1, by simp [h2], fun u hu => ?_⟩
      rcases List.mem_cons.mp hu with rfl | hu
      · exact ⟨_, _, rfl⟩
      · exact h3 u hu
theorem kind_ {vs : List Value} {nss : List (List Int)} (T : Tups s.heap vs nss) (h0 : 0 < vs.length) {Q : SortKind → Shared → Prop} (h : Q (tuples' true) s) : wpAny (model prog w) A (keyKind' vs.toArray) Q E s := by
  obtain ⟨fs, h1, h2, h3⟩ := kt_ T.at_
  refine kat_kind (T := .type "int") h1 (by omega) (fun v hv => ?_) rfl h
  obtain ⟨i, t, rfl⟩ := h3 v hv
  exact Looks.of_pure rfl
structure Out (vs : List Value) (nss : List (List Int)) (out : List Value) (mss : List (List Int)) : Prop where
  len : mss.length = out.length
  at_ : ∀ i, i < out.length → ∃ j, j < vs.length ∧ out[i]? = vs[j]? ∧ mss[i]? = nss[j]?
  perm : mss.Perm nss
  up : mss.Pairwise fun a b => HT.lexLt a b = true
theorem out_ {vs : List Value} {nss : List (List Int)} {p : Array Nat} (hl : nss.length = vs.length) (hp : Pm vs.length p) (a : As (ky nss) p vs.length) : Out vs nss (p.toList.map fun i => vs.getD i .none) (p.toList.map fun i => nss.getD i []) := by
  refine ⟨by simp, fun i hi => ?_, ?_, ?_⟩
  · rw [List.length_map, Array.length_toList, hp.size] at hi
    have h1 := gt_some (p := p) (i := i) (by rw [hp.size]; exact hi)
    have hj := hp.low hi
    refine ⟨gt p i, hj, ?_, ?_⟩
    · rw [List.getElem?_map, Array.getElem?_toList, h1, List.getElem?_eq_getElem hj]
      show some (vs.getD (gt p i) .none) = _
      rw [getD_some (List.getElem?_eq_getElem hj)]
    · rw [List.getElem?_map, Array.getElem?_toList, h1, List.getElem?_eq_getElem (by omega)]
      show some (nss.getD (gt p i) []) = _
      rw [getD_some (List.getElem?_eq_getElem (by omega))]
  · refine (hp.perm.map _).trans ?_
    have : (List.range vs.length).map (fun i => nss.getD i []) = nss := by
      apply List.ext_getElem?
      intro i
      rw [List.getElem?_map]
      by_cases hi : i < vs.length
      · rw [List.getElem?_range hi, List.getElem?_eq_getElem (by omega)]
        show some (nss.getD i []) = _
        rw [getD_some (List.getElem?_eq_getElem (by omega))]
      · rw [List.getElem?_eq_none (by simp; omega), List.getElem?_eq_none (by omega)]; rfl
    rw [this]
  · rw [List.pairwise_map, List.pairwise_iff_getElem]
    intro i j hi hj hij
    rw [Array.length_toList, hp.size] at hj
    have := a i j hij hj
    unfold ky at this
    have e1 : p.toList[i] = gt p i := by
      have := gt_some (p := p) (i := i) (by rw [hp.size]; omega)
      rw [← Array.getElem?_toList, List.getElem?_eq_getElem hi] at this
      exact Option.some.inj this
    have e2 : p.toList[j] = gt p j := by
      have := gt_some (p := p) (i := j) (by rw [hp.size]; omega)
      rw [← Array.getElem?_toList, List.getElem?_eq_getElem (by rw [Array.length_toList, hp.size]; exact hj)] at this
      exact Option.some.inj this
    rw [e1, e2]; exact this
theorem out_same {vs : List Value} {nss : List (List Int)} (hl : nss.length = vs.length) (h : vs.length < 2) : Out vs nss vs nss := by
  refine ⟨hl, fun i hi => ⟨i, hi, rfl, rfl⟩, List.Perm.refl _, ?_⟩
  match nss, hl with
  | [], _ => exact .nil
  | [a], _ => exact List.pairwise_singleton _ _
  | a :: b :: r, hl => simp at hl; omega
theorem Tups.kept {h h' : Heap} {vs : List Value} {nss : List (List Int)} (T : Tups h vs nss) (k : ∀ t its, IsTup h t its → IsTup h' t its) : Tups h' vs nss := ⟨T.len, fun i hi => by
  obtain ⟨t, its, a, b, c, d⟩ := T.at_ i hi
  exact ⟨t, its, a, k _ _ b, c, d⟩⟩
theorem tup_ne {h : Heap} {t a : Addr} {its xs : Array Value} {n : Nat} (hT : IsTup h t its) (ho : h.get? a = some (seqObj "list" xs n)) : t ≠ a := fun e => by
  obtain ⟨o, h1, h2, _⟩ := hT
  rw [e, ho] at h1
  cases h1
  exact absurd h2 (by simp)
theorem lsort {a : Addr} {vs : List Value} {nss : List (List Int)} {n : Nat} {P : PySem.Fin → Shared → Prop} (ho : s.heap.get? a = some (seqObj "list" vs.toArray n)) (T : Tups s.heap vs nss) (nd : nss.Nodup) (h64 : vs.length < 64)
    (h : ∀ out mss, Out vs nss out mss → P (.done (.ret .none)) { s with heap := sortedHeap s.heap a vs out.toArray }) : wpAny (model prog w) A (Builtin.«list.sort» ⟨[.ref a], []⟩) P E s := by
  have lt_a := Heap.lt_size ho
  have hline : vs.length ≤ sizeLine := by rw [sizeLine_eq]; omega
  rw [list_sort_plain]
  refine wpAny_bind (listItems_at ho rfl (wpAny_bind (listUpdate_at ho rfl ?_ (by rw [List.size_toArray]; exact hline) (Nat.zero_le _))))
  have hup := get?_update_seq ho fun _ => (#[] : Array Value)
  refine wpAny_bind (seqEpoch_at hup rfl (wpAny_bind (wpAny_newTuple ?_ hline)))
  refine wpAny_bind (wpAny_newList (wpAny_holding ?_) (Nat.zero_le _))
  have keep : ∀ b o, b ≠ a → s.heap.get? b = some o → (((s.heap.update a (Obj.mapSeq fun _ => #[])).push (seqObj "tuple" vs.toArray 0)).push (seqObj "list" #[] 0)).get? b = some o := fun b o hb e =>
    Heap.get?_push_of_some _ (Heap.get?_push_of_some _ (by rw [Heap.get?_update_ne _ _ _ _ hb]; exact e))
  have h6 := Heap.get?_push_of_some (seqObj "list" #[] 0) (Heap.get?_push_of_some (seqObj "tuple" vs.toArray 0) hup)
  have T6 : Tups (((s.heap.update a (Obj.mapSeq fun _ => #[])).push (seqObj "tuple" vs.toArray 0)).push (seqObj "list" #[] 0)) vs nss := T.kept fun t its hT => by
    have ne := tup_ne hT ho
    obtain ⟨o, g1, g2⟩ := hT
    exact ⟨o, keep t o ne g1, g2⟩
  show wpAny (model prog w) A _ P E ⟨((s.heap.update a (Obj.mapSeq fun _ => #[])).push (seqObj "tuple" vs.toArray 0)).push (seqObj "list" #[] 0), _, _, _, _⟩
  dsimp only
  by_cases h2 : vs.toArray.size < 2
  · rw [if_pos h2, if_pos h2]
    refine wpAny_bind (wpAny_pure ?_)
    rw [StateT.run_pure]
    refine wpAny_bind (wpAny_pure (wpAny_bind (seqEpoch_at h6 rfl ?_)))
    have e : (arrOf (SortSt.mk' general' (vs.toArray.zip vs.toArray) #[] 7 none)).map (·.2) = vs.toArray := by
      show (vs.toArray.zip vs.toArray).map (·.2) = vs.toArray
      apply Array.toList_inj.mp
      rw [Array.toList_map, Array.toList_zip]
      exact List.map_snd_zip (Nat.le_refl _)
    dsimp only
    rw [e]
    refine wpAny_bind (listUpdate_at h6 rfl ?_ (Nat.zero_le _) (by rw [List.size_toArray]; omega))
    simp only [bne_self_eq_false, Bool.false_eq_true, if_false]
    exact wpAny_pure (h vs nss (out_same T.len (by rw [List.size_toArray] at h2; exact h2)))
  rw [if_neg h2, if_neg h2]
  rw [List.size_toArray] at h2
  refine wpAny_bind (kind_ T6 (by omega) ?_)
  have tree := sort_ (ky_ord nd) (N := nss.length) (by rw [T.len]; omega)
  rw [T.len] at tree
  refine wpAny_bind (wpAny_mono (kat_run (κ := tuples' true) (ks := vs) (G := fun p s' => s' = _ ∧ Pm vs.length p ∧ As (ky nss) p vs.length) (Q := fun st' s' => s' = _ ∧ ∃ p : Array Nat, arrOf st' = p.map (kas_item (vs.toArray.zip vs.toArray)) ∧ failedOf st' = none ∧ Pm vs.length p ∧ As (ky nss) p vs.length) rfl (by omega) h64
    (fun p st' s' _ g1 g2 ⟨g3, g4⟩ => ⟨g3, p, g1, g2, g4⟩) (pw_wp (fun i j C hi hj hC => ask_ T6 i j C hi hj hC) (fun p hp => ⟨rfl, hp⟩) tree)) ?_ fun _ _ e => e)
  rintro ⟨⟨⟩, st'⟩ s' ⟨rfl, p, har, hf, hp, ha⟩
  have ho' := out_ T.len hp ha
  have eo := kat_snds rfl har
  have lo : (p.toList.map fun i => vs.getD i Value.none).length = vs.length := by rw [List.length_map, Array.length_toList, hp.size]
  dsimp only
  rw [eo]
  refine wpAny_bind (seqEpoch_at h6 rfl (wpAny_bind (listUpdate_at h6 rfl ?_ (Nat.zero_le _) (by rw [List.size_toArray]; omega))))
  rw [hf]
  simp only [bne_self_eq_false, Bool.false_eq_true, if_false]
  exact wpAny_pure (h _ _ ho')
end
end TS
namespace L2
open PySem PySem.Spec PyProof.Rows TS
section
variable {X : Cx}
theorem refs_valsT : ∀ {ts : List Addr} {vs : List Value}, Vals (ts.map V.ref) vs → vs = ts.map Value.ref
  | [], _, .nil => rfl
  | t :: ts, _, .cons h r => by cases h; rw [refs_valsT r]; rfl
theorem vals_refs : ∀ (ts : List Addr), Vals (ts.map V.ref) (ts.map Value.ref)
  | [] => .nil
  | t :: ts => .cons rfl (vals_refs ts)
theorem paired_ix {α β : Type} {R : α → β → Prop} : ∀ {xs : List α} {ys : List β}, xs.length = ys.length → (∀ (i : Nat) (x : α) (y : β), xs[i]? = some x → ys[i]? = some y → R x y) → Paired R xs ys
  | [], [], _, _ => .nil
  | x :: xs, y :: ys, hl, h => .cons (h 0 x y rfl rfl) (paired_ix (by simpa using hl) fun i a b h1 h2 => h (i + 1) a b (by simpa using h1) (by simpa using h2))
theorem pnth {α β : Type} {F : α → β → Prop} : ∀ {l₁ : List α} {l₂ : List β} {i : Nat} {a : α}, Paired F l₁ l₂ → l₁[i]? = some a → ∃ b, l₂[i]? = some b ∧ F a b
  | _, _, 0, _, .cons h r, e => ⟨_, rfl, by cases e; exact h⟩
  | _, _, i + 1, _, .cons h r, e => by
    obtain ⟨b, h1, h2⟩ := pnth (i := i) r (by simpa using e)
    exact ⟨b, by simpa using h1, h2⟩
noncomputable def rSortT (K : PySem.W.Frag) : List V → Hp → VK → Prop := fun vs H Q => ∃ (a : Addr) (ts : List Addr) (nss : List (List Int)), vs = [.ref a] ∧ SqL K H a (ts.map V.ref) ∧ Paired (fun t ns => SqT K H t (ns.map V.int)) ts nss ∧ (∀ ns ∈ nss, ns ≠ []) ∧ nss.Nodup ∧ ts.length < 64 ∧
    ∀ p us mss, H p = none → Paired (fun t ns => SqT K H t (ns.map V.int)) us mss → mss.Perm nss → mss.Pairwise (fun a b => HT.lexLt a b = true) → Q (.ref p) (upd H p (.lst (us.map V.ref)))
theorem call_sorted_tups {K : PySem.W.Frag} (hK : X.K = K) : CallR X (.builtin "sorted") (rSortT K) := by
  subst hK
  intro pins s σ H vs us Q I r h
  obtain ⟨a, ts, nss, rfl, hq, hp, hne, nd, hz, q⟩ := h
  obtain ⟨u, rfl, ru⟩ := r.one
  cases ru
  obtain ⟨its, rv, p, _⟩ := I.list hq
  have ev := refs_valsT rv
  subst ev
  have hl := Paired.length hp
  have T : Tups s.heap (ts.map Value.ref) nss := ⟨by rw [List.length_map]; exact hl.symm, fun i hi => by
    rw [List.length_map] at hi
    obtain ⟨ns, h1, h2⟩ := pnth hp (List.getElem?_eq_getElem hi)
    obtain ⟨jts, rt, tp, _⟩ := I.tuple h2
    refine ⟨ts[i], jts, by rw [List.getElem?_map, List.getElem?_eq_getElem hi]; rfl, tp, ?_, ?_⟩
    · rw [getD_some h1]; exact intsAre_of rt
    · rw [getD_some h1]; exact hne _ (List.mem_of_getElem? h1)⟩
  refine Calls.call_function_entry kind_sorted plain_sorted entry_sorted (args_sorted1 _) ?_
  unfold Builtin.«sorted»
  refine wpAny_bind (m := checkCount "sorted" 1 1 _) (wpAny_pure (wpAny_bind (collect_list p.isList ?_ (by rw [sizeLine_eq, List.length_map]; omega))))
  refine wpAny_bind (wpAny_newList ?_ (by rw [sizeLine_eq, List.length_map]; omega))
  have hsz := (Heap.size_update (s.heap.push (seqObj "list" #[] 0)) s.heap.objs.size (Obj.mapSeq (· ++ (ts.map Value.ref).toArray))).trans (size_push' s.heap (seqObj "list" #[] 0))
  have hoL : (((s.heap.push (seqObj "list" #[] 0)).update s.heap.objs.size (Obj.mapSeq (· ++ (ts.map Value.ref).toArray))).push (seqObj "list" (ts.map Value.ref).toArray 0)).get? (s.heap.objs.size + 1) = some (seqObj "list" (ts.map Value.ref).toArray 0) := by
    have := Heap.get?_push_size ((s.heap.push (seqObj "list" #[] 0)).update s.heap.objs.size (Obj.mapSeq (· ++ (ts.map Value.ref).toArray))) (o := seqObj "list" (ts.map Value.ref).toArray 0) rfl
    rw [hsz] at this; exact this
  have keep : ∀ b o, s.heap.get? b = some o → (((s.heap.push (seqObj "list" #[] 0)).update s.heap.objs.size (Obj.mapSeq (· ++ (ts.map Value.ref).toArray))).push (seqObj "list" (ts.map Value.ref).toArray 0)).get? b = some o := fun b o e => by
    refine Heap.get?_push_of_some _ ?_
    rw [Heap.get?_update_ne _ _ _ _ (Nat.ne_of_lt (Heap.lt_size e))]
    exact Heap.get?_push_of_some _ e
  have T6 := T.kept (h' := ((s.heap.push (seqObj "list" #[] 0)).update s.heap.objs.size (Obj.mapSeq (· ++ (ts.map Value.ref).toArray))).push (seqObj "list" (ts.map Value.ref).toArray 0)) fun t its hT => by
    obtain ⟨o, g1, g2⟩ := hT
    exact ⟨o, keep t o g1, g2⟩
  show wpAny _ _ _ _ _ ⟨((s.heap.push (seqObj "list" #[] 0)).update s.heap.objs.size (Obj.mapSeq (· ++ (ts.map Value.ref).toArray))).push (seqObj "list" (ts.map Value.ref).toArray 0), _, _, _, _⟩
  rw [hsz]
  refine wpAny_bind (wpAny_holding (wpAny_call_entry slot_list_sort ⟨_, hoL, rfl⟩ entry_list_sort (lsort hoL T6 nd (by rw [List.length_map]; exact hz) fun out mss O => ⟨_, rfl, wpAny_pure ⟨_, rfl, ?_⟩⟩) (args_list_sort _)))
  obtain ⟨e, he⟩ := sortedAll_at s.heap (ts.map Value.ref) out.toArray
  have fr : H (s.heap.objs.size + 1) = none := I.hok.fresh (Nat.le_succ _)
  have ho : ∀ v ∈ out, ∃ t : Addr, v = .ref t := fun v hv => by
    obtain ⟨i, hi⟩ := List.getElem?_of_mem hv
    obtain ⟨j, hj, e1, _⟩ := O.at_ i (List.getElem?_eq_some_iff.mp hi).1
    rw [hi, List.getElem?_map] at e1
    obtain ⟨t, _, e2⟩ := Option.map_eq_some_iff.mp e1.symm
    exact ⟨t, e2.symm⟩
  obtain ⟨us, rfl⟩ : ∃ us : List Addr, out = us.map Value.ref := by
    clear O he e
    induction out with
    | nil => exact ⟨[], rfl⟩
    | cons v out ih =>
      obtain ⟨t, rfl⟩ := ho v (List.mem_cons_self ..)
      obtain ⟨us, rfl⟩ := ih fun v hv => ho v (List.mem_cons_of_mem _ hv)
      exact ⟨t :: us, rfl⟩
  have lus : us.length = ts.length := by
    have := O.perm.length_eq
    rw [O.len, List.length_map] at this
    rw [this, hl]
  refine ⟨.ref (s.heap.objs.size + 1), upd H (s.heap.objs.size + 1) (.lst (us.map V.ref)), I.laid (t' := s.toks) (fun b o hb => sortedAll_old hb) (Nat.le_succ _) ⟨by rw [List.length_map]; exact Nat.le_of_lt (small1000 (by omega)), _, e, vals_refs us, he⟩, rfl, q _ us mss fr ?_ O.perm O.up⟩
  refine paired_ix (by rw [O.len, List.length_map]) fun i t ns h1 h2 => ?_
  obtain ⟨j, hj, e1, e2⟩ := O.at_ i (by rw [List.length_map]; exact (List.getElem?_eq_some_iff.mp h1).1)
  rw [List.getElem?_map, h1, List.getElem?_map] at e1
  rw [h2] at e2
  obtain ⟨t', ht', e3⟩ := Option.map_eq_some_iff.mp e1.symm
  cases e3
  obtain ⟨ns', h3, h4⟩ := pnth hp ht'
  rw [← e2] at h3; cases h3
  exact h4
end
end L2
namespace K43
open PySem PySem.Spec L2 Mir
noncomputable abbrev sBegins : Stmt := top 5
noncomputable abbrev sLoops : Stmt := top 25
noncomputable def bh (p : List Int) : List Int := p.dropLast ++ [p.getLastD 0 + 1]
noncomputable def exF (p : List Int) : List (List Int) := [p ++ [0, 0], bh p]
theorem bh_snoc (ns : List Int) (k : Int) : bh (ns ++ [k]) = ns ++ [k + 1] := by unfold bh; rw [List.dropLast_concat, List.getLastD_concat]
theorem lp_in : ∀ {bs : List Nat} {ds : List Deed} {h p : List Int}, p ∈ lpL bs ds h → ∃ (k : Nat) (r : List Int), p = h ++ (k : Int) :: r ∧ k < ds.length ∧ (∃ (ns : List Int) (m : Nat), p = ns ++ [(m : Int)]) ∧ p.length ≤ h.length + 2 * bs.length
  | [], _, _, _, hp => by cases hp
  | b :: bs, ds, h, p, hp => by
    obtain ⟨⟨d, i⟩, hd, hp⟩ := List.mem_flatMap.mp hp
    obtain ⟨_, hi, _⟩ := List.mem_zipIdx hd
    rw [Nat.zero_add] at hi
    rcases List.mem_append.mp (show p ∈ ownF (h ++ [(i : Int)]) d ++ (innL d).zipIdx.flatMap (inF (lpL bs) (h ++ [(i : Int)])) from hp) with z | z
    · unfold ownF at z
      split at z
      · rw [List.mem_singleton.mp z]
        exact ⟨i, [], rfl, hi, ⟨h, i, rfl⟩, by simp only [List.length_append, List.length_cons, List.length_nil]; omega⟩
      · cases z
    · obtain ⟨⟨a, s⟩, _, ha⟩ := List.mem_flatMap.mp z
      obtain ⟨k, r, e, _, h3, h4⟩ := lp_in (show p ∈ lpL bs a (h ++ [(i : Int)] ++ [(s : Int)]) from ha)
      refine ⟨i, (s : Int) :: (k : Int) :: r, by rw [e]; simp, hi, h3, ?_⟩
      rw [List.length_append, List.length_append] at h4
      rw [List.length_cons]
      have : [(i : Int)].length = 1 := rfl
      have : [(s : Int)].length = 1 := rfl
      omega
theorem pref_ne {h r r' : List Int} {i j : Int} (hij : i ≠ j) : h ++ i :: r ≠ h ++ j :: r' := fun e => by
  have := List.append_cancel_left e
  exact hij (List.cons.inj this).1
theorem lp_nd : ∀ (bs : List Nat) (ds : List Deed) (h : List Int), (lpL bs ds h).Nodup
  | [], _, _ => .nil
  | b :: bs, ds, h => by
    refine List.pairwise_flatMap.mpr ⟨fun ⟨d, i⟩ _ => ?_, ?_⟩
    · show (ownF (h ++ [(i : Int)]) d ++ (innL d).zipIdx.flatMap (inF (lpL bs) (h ++ [(i : Int)]))).Nodup
      refine List.nodup_append.mpr ⟨?_, List.pairwise_flatMap.mpr ⟨fun ⟨a, s⟩ _ => lp_nd bs a _, ?_⟩, fun x hx y hy e => ?_⟩
      · unfold ownF; split
        · exact List.pairwise_singleton _ _
        · exact .nil
      · have hz : (innL d).zipIdx.Pairwise fun x y => x.2 < y.2 := by
          rw [List.pairwise_iff_getElem]
          intro a c ha hc hac
          simp [hac]
        refine hz.imp fun {x y} hxy p hp q hq e => ?_
        obtain ⟨k, r, e1, _⟩ := lp_in (show p ∈ lpL bs x.1 (h ++ [(i : Int)] ++ [(x.2 : Int)]) from hp)
        obtain ⟨k', r', e2, _⟩ := lp_in (show q ∈ lpL bs y.1 (h ++ [(i : Int)] ++ [(y.2 : Int)]) from hq)
        rw [e1, e2, List.append_assoc _ [(x.2 : Int)], List.append_assoc _ [(y.2 : Int)]] at e
        exact pref_ne (by omega) e
      · obtain ⟨⟨a, s⟩, _, ha⟩ := List.mem_flatMap.mp hy
        obtain ⟨k, r, e1, _⟩ := lp_in (show y ∈ lpL bs a (h ++ [(i : Int)] ++ [(s : Int)]) from ha)
        unfold ownF at hx
        split at hx
        · rw [List.mem_singleton.mp hx, e1] at e
          have := congrArg List.length e
          simp only [List.length_append, List.length_cons, List.length_nil] at this
          omega
        · cases hx
    · have hz : ds.zipIdx.Pairwise fun x y => x.2 < y.2 := by
        rw [List.pairwise_iff_getElem]
        intro a c ha hc hac
        simp [hac]
      refine hz.imp fun {x y} hxy p hp q hq e => ?_
      have key : ∀ {d : Deed} {i : Nat} {p : List Int}, p ∈ dF (lpL bs) h (d, i) → ∃ r, p = h ++ (i : Int) :: r := fun {d i p} hp => by
        rcases List.mem_append.mp (show p ∈ ownF (h ++ [(i : Int)]) d ++ (innL d).zipIdx.flatMap (inF (lpL bs) (h ++ [(i : Int)])) from hp) with z | z
        · unfold ownF at z
          split at z
          · exact ⟨[], List.mem_singleton.mp z⟩
          · cases z
        · obtain ⟨⟨a, s⟩, _, ha⟩ := List.mem_flatMap.mp z
          obtain ⟨k, r, e, _⟩ := lp_in (show p ∈ lpL bs a (h ++ [(i : Int)] ++ [(s : Int)]) from ha)
          exact ⟨(s : Int) :: (k : Int) :: r, by rw [e]; simp⟩
      obtain ⟨r, e1⟩ := key (d := x.1) (i := x.2) hp
      obtain ⟨r', e2⟩ := key (d := y.1) (i := y.2) hq
      rw [e1, e2] at e
      exact pref_ne (by omega) e
theorem sum_le {α : Type} (l : List α) (f g : α → Nat) (h : ∀ x ∈ l, f x ≤ g x) : (l.map f).sum ≤ (l.map g).sum := by
  induction l with
  | nil => exact Nat.le_refl _
  | cons x l ih =>
    rw [List.map_cons, List.map_cons, List.sum_cons, List.sum_cons]
    exact Nat.add_le_add (h x (List.mem_cons_self ..)) (ih fun y hy => h y (List.mem_cons_of_mem _ hy))
theorem lp_few : ∀ (bs : List Nat) (ds : List Deed) (h : List Int), (lpL bs ds h).length ≤ dcL bs ds
  | [], _, _ => Nat.le_refl _
  | b :: bs, ds, h => by
    show (ds.zipIdx.flatMap (dF (lpL bs) h)).length ≤ (ds.map (dcD (dcL bs))).sum
    rw [List.length_flatMap]
    have e : (ds.map (dcD (dcL bs))) = ds.zipIdx.map fun x => dcD (dcL bs) x.1 := by
      apply List.ext_getElem?
      intro j
      rw [List.getElem?_map, List.getElem?_map, List.getElem?_zipIdx]
      cases ds[j]? <;> rfl
    rw [e]
    refine sum_le _ _ _ fun ⟨d, i⟩ _ => ?_
    show (ownF (h ++ [(i : Int)]) d ++ (innL d).zipIdx.flatMap (inF (lpL bs) (h ++ [(i : Int)]))).length ≤ dcD (dcL bs) d
    cases d with
    | plain p => exact Nat.zero_le _
    | cond r a c =>
      have h1 := lp_few bs a (h ++ [(i : Int)] ++ [((0 : Nat) : Int)])
      have h2 := lp_few bs c (h ++ [(i : Int)] ++ [((1 : Nat) : Int)])
      show ([] ++ (lpL bs a (h ++ [(i : Int)] ++ [((0 : Nat) : Int)]) ++ (lpL bs c (h ++ [(i : Int)] ++ [((1 : Nat) : Int)]) ++ []))).length ≤ 1 + (dcL bs a + dcL bs c)
      rw [List.nil_append, List.append_nil, List.length_append]
      omega
    | loop r F P a =>
      have h1 := lp_few bs a (h ++ [(i : Int)] ++ [((0 : Nat) : Int)])
      show ([h ++ [(i : Int)]] ++ (lpL bs a (h ++ [(i : Int)] ++ [((0 : Nat) : Int)]) ++ [])).length ≤ 1 + dcL bs a
      rw [List.append_nil, List.length_append]
      exact Nat.add_le_add_left h1 1
noncomputable def bgL (bs : List Nat) (ds : List Deed) : List (List Int) := [0] :: (lpL bs ds []).flatMap exF
theorem bg_nd (bs : List Nat) (ds : List Deed) : (bgL bs ds).Nodup := by
  have hin : ∀ p ∈ lpL bs ds [], ∃ (ns : List Int) (m : Nat), p = ns ++ [(m : Int)] := fun p hp => by
    obtain ⟨_, _, _, _, h, _⟩ := lp_in hp; exact h
  refine List.nodup_cons.mpr ⟨fun z => ?_, List.pairwise_flatMap.mpr ⟨fun p hp => ?_, ?_⟩⟩
  · obtain ⟨p, hp, hq⟩ := List.mem_flatMap.mp z
    obtain ⟨ns, m, rfl⟩ := hin p hp
    simp only [exF, bh_snoc, List.mem_cons, List.not_mem_nil, or_false] at hq
    rcases hq with e | e
    · have := congrArg List.length e; simp at this
    · have := congrArg (fun l => l.getLastD 0) e
      simp only [List.getLastD_concat] at this
      have h0 : ([0] : List Int).getLastD 0 = 0 := rfl
      rw [h0] at this
      omega
  · obtain ⟨ns, m, rfl⟩ := hin p hp
    show List.Pairwise (· ≠ ·) [ns ++ [(m : Int)] ++ [0, 0], bh (ns ++ [(m : Int)])]
    rw [bh_snoc]
    refine List.pairwise_cons.mpr ⟨fun y hy e => ?_, List.pairwise_singleton _ _⟩
    rw [List.mem_singleton.mp hy] at e
    have := congrArg List.length e; simp at this
  · refine (lp_nd bs ds []).imp_of_mem fun {p q} hp hq ne x hx y hy e => ?_
    obtain ⟨ns, m, rfl⟩ := hin p hp
    obtain ⟨ms, k, rfl⟩ := hin q hq
    simp only [exF, bh_snoc, List.mem_cons, List.not_mem_nil, or_false] at hx hy
    have last : ∀ {a b : List Int} {j : Nat}, a ++ [0, 0] ≠ b ++ [(j : Int) + 1] := fun {a b j} e => by
      have : (a ++ [0] ++ [0] : List Int) = b ++ [(j : Int) + 1] := by simpa using e
      have := congrArg (fun l => l.getLastD 0) this
      simp only [List.getLastD_concat] at this
      omega
    rcases hx with rfl | rfl <;> rcases hy with rfl | rfl
    · exact ne (List.append_cancel_right e)
    · exact last e
    · exact last e.symm
    · have h1 := congrArg List.dropLast e
      have h2 := congrArg (fun l => l.getLastD 0) e
      simp only [List.dropLast_concat, List.getLastD_concat] at h1 h2
      exact ne (by rw [h1, show (m : Int) = k by omega])
theorem bg_ne (bs : List Nat) (ds : List Deed) : ∀ p ∈ bgL bs ds, p ≠ [] := fun p hp e => by
  rcases List.mem_cons.mp hp with rfl | hp
  · cases e
  · obtain ⟨q, hq, hx⟩ := List.mem_flatMap.mp hp
    simp only [exF, bh, List.mem_cons, List.not_mem_nil, or_false] at hx
    rcases hx with rfl | rfl <;> simp at e
theorem ex_len (l : List (List Int)) : (l.flatMap exF).length = 2 * l.length := by
  induction l with
  | nil => rfl
  | cons p l ih => rw [List.flatMap_cons, List.length_append, ih, List.length_cons]; show 2 + _ = _; omega
end K43
namespace K43
open PySem PySem.Spec L2 Mir
inductive spBegins (K : PySem.W.Frag) (bs : List Nat) (vs : List V) (H : Hp) (Q : VK) (E : XK) : Prop
  | mk (l : Addr) (ds : List Deed) (h0 : vs = [.ref l]) (h1 : ListX K H bs l ds) (h2 : dcL bs ds ≤ 24)
      (q : ∀ p us mss H', Same H H' → H p = none → H' p = some (.lst (us.map V.ref)) → Paths K H' us mss → mss.Perm (bgL bs ds) → mss.Pairwise (fun a b => HT.lexLt a b = true) → Q (.ref p) H') : spBegins K bs vs H Q E
inductive spDue (K : PySem.W.Frag) (bs : List Nat) (vs : List V) (H : Hp) (Q : VK) (E : XK) : Prop
  | mk (l ah : Addr) (ds : List Deed) (h : List Int) (h0 : vs = [.ref l, .ref ah]) (h1 : ListX K H bs l ds) (h2 : SqT K H ah (h.map V.int)) (h3 : h.length + 2 * bs.length ≤ 40) (h4 : (lpL bs ds h).length ≤ 100)
      (q : ∀ fo us H', Same H H' → H' fo = some (.lst (us.map V.ref)) → Paths K H' us ((lpL bs ds h).flatMap exF) → Q (.ref fo) H') : spDue K bs vs H Q E
inductive BI (K : PySem.W.Frag) (H : Hp) (l fo lo : Addr) (us : List Addr) (ps : List (List Int)) (i : Nat) (σ : St) (H2 : Hp) : Prop
  | mk (ws : List Addr) (z2 : Option V) (e : Same H H2) (hl : H2 lo = some (.lst (us.map V.ref))) (hus : Paths K H2 us ps) (hf : H2 fo = some (.lst (ws.map V.ref))) (hp : Paths K H2 ws ([0] :: (ps.take i).flatMap exF)) (hσ : σ = [some (.ref l), some (.ref fo), z2])
inductive DI (K : PySem.W.Frag) (bs : List Nat) (H : Hp) (l ah : Addr) (ds : List Deed) (h : List Int) (i : Nat) (σ : St) (H2 : Hp) : Prop
  | mk (fo : Addr) (us : List Addr) (z3 : Option V) (e : Same H H2) (hf : H2 fo = some (.lst (us.map V.ref))) (hp : Paths K H2 us (((ds.zipIdx.take i).flatMap (dF (lpL bs) h)).flatMap exF)) (hσ : σ = [some (.ref l), some (.ref ah), some (.ref fo), z3])
theorem due_if {bs : List Nat} {h : List Int} {r : List Str} {a b : List Deed} {i : Nat} : (dF (lpL bs) h (.cond r a b, i)).flatMap exF = (lpL bs a (h ++ [(i : Int), 0])).flatMap exF ++ (lpL bs b (h ++ [(i : Int), 1])).flatMap exF := by
  show ([] ++ (lpL bs a (h ++ [(i : Int)] ++ [((0 : Nat) : Int)]) ++ (lpL bs b (h ++ [(i : Int)] ++ [((1 : Nat) : Int)]) ++ []))).flatMap exF = _
  rw [List.nil_append, List.append_nil, List.flatMap_append, List.append_assoc, List.append_assoc]; rfl
theorem due_while {bs : List Nat} {h : List Int} {r : List Str} {F P : List (List Str)} {a : List Deed} {i : Nat} : (dF (lpL bs) h (.loop r F P a, i)).flatMap exF = [h ++ [(i : Int), 0, 0], h ++ [(i : Int) + 1]] ++ (lpL bs a (h ++ [(i : Int), 0])).flatMap exF := by
  show ([h ++ [(i : Int)]] ++ (lpL bs a (h ++ [(i : Int)] ++ [((0 : Nat) : Int)]) ++ [])).flatMap exF = _
  rw [List.append_nil, List.flatMap_append, List.flatMap_singleton]
  show [h ++ [(i : Int)] ++ [0, 0], bh (h ++ [(i : Int)])] ++ _ = _
  rw [bh_snoc, List.append_assoc, List.append_assoc]; rfl
theorem lst_ref {xs : List Addr} {t : Addr} {i : Nat} (h : xs[i]? = some t) : atI (xs.map V.ref) (i : Int) = some (.ref t) := atI_nat (by rw [List.getElem?_map, h]; rfl)
section
variable {P : Program} {w : World} {K : PySem.W.Frag} {mg : Str → Option Value} {base : Heap} {f gL gB : Addr} {fd dL dB : FuncData}
theorem scBegins : FnScope ["body", "found", "path"] ["body"] (defScope sBegins) := ⟨rfl, rfl, rfl, by decide +kernel, rfl, by decide +kernel, by decide +kernel⟩
theorem ok_begins {n : Nat} {bs : List Nat} (hbs : bs.length ≤ 5) (C : Con K mg w) (F : Fun K "begins" "begins" sBegins f fd) (GL : FnOk P w K mg base CX0 (n + 1) gL dL ["deeds", "ahead"] (spLoops K bs)) (cL : Cal K mg "loops_in" gL dL ["deeds", "ahead"]) (GB : FnOk P w K mg base CX0 1 gB dB ["path"] (spBehind K)) (cB : Cal K mg "behind_deed" gB dB ["path"]) : FnOk P w K mg base CX0 (n + 1 + 1) f fd ["body"] (spBegins K bs) := by
  refine F.okQ scBegins (fun vs H Q E h => ?_) (fun cdv A outer s0 H vs Q E hr h => ?_)
  · obtain ⟨l, ds, rfl, _⟩ := h; rfl
  obtain ⟨l, ds, rfl, hLX, hcnt, q⟩ := h
  have nd := scBegins.nd
  have hr1 := hr.mono (j := 1) (by omega)
  refine ⟨_, qb_cons (qs_set (i := 1) nd rfl (Or.inl rfl) (qe_lst (qa_tp (qa_int qa_nil) qa_nil)))
    (qb_cons (qs_for PassesOwn.never rfl (qi_list (qe_call GL hr rfl cL.name cL.keep cL.bind .nil pass0 (qa_nm (qv 0) (qa_tp qa_nil qa_nil)))) (qg_name (i := 2) nd rfl (Or.inl rfl)) (qb_one (qs_expr (qe_bmK (K := K) rfl PySem.F.plainAttrs_list PySem.F.slot_list_extend PySem.F.type_list_extend mt_extend (qv 1) (qa_ls (qa_bop (qe_op op_catTU (qv 2) (qe_tup (qa_int (qa_int qa_nil)))) (qa_call (qe_call GB hr1 rfl cB.name cB.keep cB.bind .nil pass0 (qa_nm (qv 2) qa_nil)) qa_nil)) qa_nil)))))
    (qb_one (qs_ret (qe_callB (call_sorted_tups (K := K) rfl) rfl C.sorted PyProof.Rows.boot_sorted (qa_nm (qv 1) qa_nil))))), ?_⟩
  have hfew := Nat.le_trans (lp_few bs ds []) hcnt
  refine ⟨(show 1 ≤ sizeLine by decide), fun p0 hp0 => ?_⟩
  have s1 := same_new hp0 (.tup [.int 0])
  have k1 : (upd H p0 (.tup [.int 0])) p0 = some (.tup [.int 0]) := upd_same
  generalize upd H p0 (.tup [.int 0]) = H1 at s1 k1 ⊢
  refine ⟨(show 1 ≤ sizeLine by decide), fun fo hfo => ?_⟩
  have s2' := same_new hfo (.lst [.ref p0])
  have k2 : (upd H1 fo (.lst [.ref p0])) fo = some (.lst ([p0].map V.ref)) := upd_same
  generalize upd H1 fo (.lst [.ref p0]) = H2 at s2' k2 ⊢
  have s2 := s1.trans s2'
  have fo0 : H fo = none := s1.free hfo
  have k2p := s2' _ _ k1
  dsimp only [gName]
  refine seq_hide (a := tFor _ _ _) fun D1 hN1 hR1 hC1 => ?_
  refine ⟨_, rfl, Nat.zero_le _, fun pe hpe => ?_⟩
  have s3' := same_new hpe (.tup [])
  have k3 : (upd H2 pe (.tup [])) pe = some (.tup []) := upd_same
  generalize upd H2 pe (.tup []) = H3 at s3' k3 ⊢
  have s3 := s2.trans s3'
  refine ⟨l, pe, ds, [], rfl, hLX.same s3, SqT.of k3, (by show 0 + _ ≤ 40; omega), (by omega), fun lo us H4 e4' hlo k4 hus => ?_⟩
  have e4 := s3.trans e4'
  have hf4 := e4' _ _ (s3' _ _ k2)
  have hp4 := e4' _ _ (s3' _ _ k2p)
  refine ⟨lo, rfl, ⟨_, SqL.of k4⟩, ?_⟩
  have hlf : lo ≠ fo := (ne_of_none (s3' _ _ k2) hlo).symm
  refine for_list (xs := us.map V.ref) (BI K H l fo lo us (lpL bs ds [])) ⟨[p0], none, e4, k4, hus, hf4, .cons (SqT.of hp4) .nil, rfl⟩ (fun i σ H' _ z => by obtain ⟨_, _, _, h, _⟩ := z; exact SqL.of h) ?_ ?_
  · rintro i x σ H5 hx ⟨ws, z2, e5, hl5, hus5, hf5, hp5, rfl⟩
    rw [List.getElem?_map] at hx
    obtain ⟨t, ht, rfl⟩ := Option.map_eq_some_iff.mp hx
    obtain ⟨pa, hpa, hsq⟩ := Paired.nth hus5 ht
    obtain ⟨_, _, _, _, ⟨ns, m, epa⟩, hlen⟩ := lp_in (List.mem_of_getElem? hpa)
    have hlen' : pa.length ≤ 2 * bs.length := by simpa using hlen
    have hwl := Paired.length hp5
    have hi24 : i < 24 := by
      have := (List.getElem?_eq_some_iff.mp hpa).1
      omega
    rw [List.length_cons, ex_len, List.length_take] at hwl
    refine ⟨_, rfl, (.inl ⟨rfl, _, SqL.of hf5⟩), _, rfl, (show 2 ≤ sizeLine by decide), fun q0 hq0 => ?_⟩
    have s6 := same_new hq0 (.tup [.int 0, .int 0])
    have k6 : (upd H5 q0 (.tup [.int 0, .int 0])) q0 = some (.tup [.int 0, .int 0]) := upd_same
    generalize upd H5 q0 (.tup [.int 0, .int 0]) = H6 at s6 k6 ⊢
    refine ⟨t, q0, _, _, rfl, rfl, s6.seqT hsq, SqT.of k6, le_line (by rw [List.length_map]; show _ + 2 ≤ 1000; omega), fun t1 H7 e7' k7 => ?_⟩
    have e7 := s6.trans e7'
    have k7' : SqT K H7 t1 ((pa ++ [0, 0]).map V.int) := by rw [List.map_append]; exact k7
    refine ⟨_, rfl, t, ns, (m : Int), rfl, (by rw [← epa]; exact e7.seqT hsq), (by rw [epa, List.length_append] at hlen'; omega), fun t2 H8 e8' k8 => ?_⟩
    have e8 := e7.trans e8'
    have k8' : SqT K H8 t2 ((bh pa).map V.int) := by rw [epa, bh_snoc]; exact k8
    refine ⟨(show 2 ≤ sizeLine by decide), fun q1 hq1 => ?_⟩
    have s9' := same_new hq1 (.lst [.ref t1, .ref t2])
    have k9 : (upd H8 q1 (.lst [.ref t1, .ref t2])) q1 = some (.lst ([t1, t2].map V.ref)) := upd_same
    generalize upd H8 q1 (.lst [.ref t1, .ref t2]) = H9 at s9' k9 ⊢
    have e9 := e8.trans s9'
    have hf9 := e9 _ _ hf5
    refine ⟨fo, q1, _, _, rfl, rfl, hf9, k9, le_line (by rw [List.length_map, hwl]; show _ + 2 ≤ 1000; omega), ?_⟩
    refine ⟨ws ++ [t1, t2], _, fun b o z => by rw [upd_ne (ne_of_none z fo0)]; exact e9 _ _ (e5 _ _ z), by rw [upd_ne hlf]; exact e9 _ _ hl5, (hus5.same e9).put hf9, by rw [upd_same, List.map_append], ?_, rfl⟩
    rw [fl_take (g := exF) hpa, ← List.cons_append]
    exact Paired.app ((hp5.same e9).put hf9) (.cons (sq_put hf9 (s9'.seqT (e8'.seqT k7'))) (.cons (sq_put hf9 (s9'.seqT k8')) .nil))
  rintro σ H5 ⟨ws, z2, e5, hl5, hus5, hf5, hp5, rfl⟩
  have htk : (lpL bs ds []).take (us.map V.ref).length = lpL bs ds [] := List.take_of_length_le (by rw [List.length_map, Paired.length hus5]; exact Nat.le_refl _)
  rw [htk] at hp5
  have hwl := Paired.length hp5
  rw [List.length_cons, ex_len] at hwl
  refine hN1 _ _ ⟨_, rfl, fo, ws, bgL bs ds, rfl, SqL.of hf5, hp5, bg_ne bs ds, bg_nd bs ds, (by omega), fun p vs mss hp hpp hperm hup => ?_⟩
  have s6 := same_new hp (.lst (vs.map V.ref))
  exact q p vs mss _ (e5.trans s6) (e5.free hp) upd_same (Paths.same (K := K) (H := H5) hpp s6) hperm hup
end
end K43
namespace K43
open PySem PySem.Spec L2 Mir
theorem dF_if {bs : List Nat} {h : List Int} {r : List Str} {a b : List Deed} {i : Nat} : (dF (lpL bs) h (.cond r a b, i)).length = (lpL bs a (h ++ [(i : Int), 0])).length + (lpL bs b (h ++ [(i : Int), 1])).length := by
  have := congrArg List.length (due_if (bs := bs) (h := h) (r := r) (a := a) (b := b) (i := i))
  rw [List.length_append, ex_len, ex_len, ex_len] at this
  omega
theorem dF_while {bs : List Nat} {h : List Int} {r : List Str} {F P : List (List Str)} {a : List Deed} {i : Nat} : (dF (lpL bs) h (.loop r F P a, i)).length = 1 + (lpL bs a (h ++ [(i : Int), 0])).length := by
  have := congrArg List.length (due_while (bs := bs) (h := h) (r := r) (F := F) (P := P) (a := a) (i := i))
  rw [List.length_append, ex_len, ex_len] at this
  have h2 : [h ++ [(i : Int), 0, 0], h ++ [(i : Int) + 1]].length = 2 := rfl
  omega
section
variable {P : Program} {w : World} {K : PySem.W.Frag} {mg : Str → Option Value} {base : Heap} {f : Addr} {fd : FuncData}
theorem scLoops : FnScope ["_law_deeds", "_law_head", "_law_found", "_law_k"] ["_law_deeds", "_law_head"] (defScope sLoops) := ⟨rfl, rfl, rfl, by decide +kernel, rfl, by decide +kernel, by decide +kernel⟩
theorem ok_due0 : FnOk P w K mg base CX0 1 f fd ["_law_deeds", "_law_head"] (spDue K []) :=
  ⟨fun vs H Q E h => by obtain ⟨l, ah, ds, h, _, h1, _⟩ := h; exact h1.elim, fun A outer s H args us vs Q E _ _ _ _ h => by obtain ⟨l, ah, ds, h, _, h1, _⟩ := h; exact h1.elim⟩
theorem ok_dueS {n b : Nat} {bs : List Nat} (hb : b ≤ 24) (C : Con K mg w) (F : Fun K "_law_loops" "_law_loops" sLoops f fd) (GR : FnOk P w K mg base CX0 (n + 1) f fd ["_law_deeds", "_law_head"] (spDue K bs)) (cR : Cal K mg "_law_loops" f fd ["_law_deeds", "_law_head"]) : FnOk P w K mg base CX0 (n + 1 + 1) f fd ["_law_deeds", "_law_head"] (spDue K (b :: bs)) := by
  refine F.okQ scLoops (fun vs H Q E h => ?_) (fun cdv A outer s0 H vs Q E hr h => ?_)
  · obtain ⟨l, ah, ds, h, rfl, _⟩ := h; rfl
  obtain ⟨l, ah, ds, h, rfl, hLX, hah, hlen, hcnt, q⟩ := h
  obtain ⟨ts, hl, hp, htl⟩ := hLX
  have nd := scLoops.nd
  refine ⟨_, qb_cons (qs_set (i := 2) nd rfl (Or.inl rfl) (qe_lst qa_nil))
    (qb_cons (qs_for PassesOwn.never rfl (qi_range1 rfl C.range (qa_call (qe_callB call_len_seq rfl C.len PySem.boot_len (qa_nm (qv 0) qa_nil)) qa_nil)) (qg_name (i := 3) nd rfl (Or.inl rfl)) (qb_one (qs_if (qt_cmpR op_eq (qe_ix ix_tup (qe_ix ix_list (qv 0) (qv 3) (fun _ _ => rfl)) qe_int (fun _ _ => rfl)) qe_str (nomark _)) (qb_one (qs_set (i := 2) nd rfl (Or.inl rfl) (qe_op op_cat (qe_op op_cat (qv 2) (qe_call GR hr rfl cR.name cR.keep cR.bind .nil pass0 (qa_sub (qe_ix ix_tup (qe_ix ix_list (qv 0) (qv 3) (fun _ _ => rfl)) qe_int (fun _ _ => rfl)) (qa_bop (qe_op op_catTU (qv 1) (qe_tup (qa_nm (qv 3) (qa_int qa_nil)))) qa_nil)))) (qe_call GR hr rfl cR.name cR.keep cR.bind .nil pass0 (qa_sub (qe_ix ix_tup (qe_ix ix_list (qv 0) (qv 3) (fun _ _ => rfl)) qe_int (fun _ _ => rfl)) (qa_bop (qe_op op_catTU (qv 1) (qe_tup (qa_nm (qv 3) (qa_int qa_nil)))) qa_nil)))))) (qb_one (qs_if (qt_cmpR op_eq (qe_ix ix_tup (qe_ix ix_list (qv 0) (qv 3) (fun _ _ => rfl)) qe_int (fun _ _ => rfl)) qe_str (nomark _)) (qb_one (qs_set (i := 2) nd rfl (Or.inl rfl) (qe_op op_cat (qe_op op_cat (qv 2) (qe_lst (qa_bop (qe_op op_catTU (qv 1) (qe_tup (qa_nm (qv 3) (qa_int (qa_int qa_nil))))) (qa_bop (qe_op op_catTU (qv 1) (qe_tup (qa_bop (qe_op op_add (qv 3) qe_int) qa_nil))) qa_nil)))) (qe_call GR hr rfl cR.name cR.keep cR.bind .nil pass0 (qa_sub (qe_ix ix_tup (qe_ix ix_list (qv 0) (qv 3) (fun _ _ => rfl)) qe_int (fun _ _ => rfl)) (qa_bop (qe_op op_catTU (qv 1) (qe_tup (qa_nm (qv 3) (qa_int qa_nil)))) qa_nil)))))) qb_nil)))))
    (qb_one (qs_ret (qv 2)))), ?_⟩
  have hpl := Paired.length hp
  rw [List.length_cons] at hlen
  have hcnt' : (ds.zipIdx.flatMap (dF (lpL bs) h)).length ≤ 100 := hcnt
  refine ⟨Nat.zero_le _, fun f0 hf0 => ?_⟩
  have s1 := same_new hf0 (.lst [])
  have k1 : (upd H f0 (.lst [])) f0 = some (.lst []) := upd_same
  generalize upd H f0 (.lst []) = H1 at s1 k1 ⊢
  dsimp only [gName]
  refine seq_hide (a := tFor _ _ _) fun D1 hN1 hR1 hC1 => ?_
  refine ⟨_, rfl, l, _, rfl, .inl (SqL.of (s1 _ _ hl)), _, rfl, by rw [List.length_map]; omega, by rw [List.length_map]; omega, ?_⟩
  show ∃ W : Nat → Nat → St → Hp → Prop, _
  refine for_range (lo := 0) (n := (((ts.map V.ref).length : Nat) : Int).toNat) (DI K bs H l ah ds h) ⟨f0, [], none, s1, k1, .nil, rfl⟩ ?_ ?_
  · rintro i σ H2 hi ⟨fo, us, z3, e, hf, hpp, rfl⟩
    rw [Int.zero_add]
    rw [Int.toNat_natCast, List.length_map] at hi
    have ht : ts[i]? = some ts[i] := List.getElem?_eq_getElem hi
    generalize ts[i] = t at ht
    obtain ⟨d, hd, hX⟩ := Paired.nth hp ht
    have hzi := zip_at hd
    have hsz := fl_mem (g := dF (lpL bs) h) hzi
    have htk := fl_take (g := dF (lpL bs) h) hzi
    have hul := Paired.length hpp
    rw [ex_len] at hul
    have hl2 := e _ _ hl
    refine ⟨_, rfl, _, rfl, l, _, _, _, rfl, rfl, SqL.of hl2, lst_ref ht, ?_⟩
    have done : ∀ {us' : List Addr} {fo' : Addr} {H' : Hp}, Same H2 H' → H' fo' = some (.lst (us'.map V.ref)) → Paths K H' us' ((((ds.zipIdx.take i).flatMap (dF (lpL bs) h)).flatMap exF) ++ (dF (lpL bs) h (d, i)).flatMap exF) → DI K bs H l ah ds h (i + 1) [some (.ref l), some (.ref ah), some (.ref fo'), some (.int (i : Int))] H' := fun {us' fo' H'} e' hf' hp' => by
      refine ⟨fo', us', _, e.trans e', hf', ?_, rfl⟩
      rw [htk, List.flatMap_append]; exact hp'
    have cat2 : ∀ {H' : Hp} {k0 : Int} {p1 : Addr} {Q' : VK}, Same H2 H' → H' p1 = none → (∀ pb H'', Same H' H'' → SqT K H'' pb ((h ++ [(i : Int), k0]).map V.int) → Q' (.ref pb) H'') → rCatTU K (.ref ah) (.ref p1) (upd H' p1 (.tup [.int (i : Int), .int k0])) Q' := fun {H' k0 p1 Q'} e' hp1 qq => by
      have s := same_new hp1 (.tup [.int (i : Int), .int k0])
      refine ⟨ah, p1, _, _, rfl, rfl, s.seqT (e'.seqT (e.seqT hah)), SqT.of upd_same, le_line (by rw [List.length_map]; show _ + 2 ≤ 1000; omega), fun pb H'' e'' k'' => qq pb H'' (s.trans e'') (by rw [List.map_append]; exact k'')⟩
    cases hX with
    | plain p h1 h2 =>
      obtain ⟨wd, vs, hw, n1, n2⟩ := pl_word h1 h2
      have hw' := e _ _ hw
      refine ⟨t, _, 0, _, rfl, rfl, SqT.of hw', at0, rfl, _, rfl, iteB (fun c => absurd (V.str.inj (of_decide_eq_true c)) n1) (fun _ => ?_)⟩
      refine ⟨_, rfl, _, rfl, l, _, _, _, rfl, rfl, SqL.of hl2, lst_ref ht, t, _, 0, _, rfl, rfl, SqT.of hw', at0, rfl, _, rfl, iteB (fun c => absurd (V.str.inj (of_decide_eq_true c)) n2) (fun _ => ?_)⟩
      have z : (dF (lpL bs) h (.plain p, i)).flatMap exF = [] := rfl
      exact done (Same.refl _) hf (by rw [z, List.append_nil]; exact hpp)
    | cond c i' o r a b' hh hc okr hi' ho =>
      have hh' := e _ _ hh
      refine ⟨t, _, 0, _, rfl, rfl, SqT.of hh', rfl, rfl, _, rfl, iteB (fun _ => ?_) (fun c => absurd c (by decide +kernel))⟩
      rw [dF_if] at hsz
      refine ⟨_, rfl, _, rfl, _, rfl, l, _, _, _, rfl, rfl, SqL.of hl2, lst_ref ht, t, _, 2, _, rfl, rfl, SqT.of hh', rfl, _, rfl, _, rfl, (show 2 ≤ sizeLine by decide), fun p1 hp1 => cat2 (Same.refl _) hp1 fun pb H3 e3 k3 => ?_⟩
      refine ⟨i', pb, a, _, rfl, hi'.same (e.trans e3), k3, (by rw [List.length_append]; show _ + 2 + _ ≤ 40; omega), (by omega), fun fa ua H4 e4' k4 hpa => ?_⟩
      have e4 := e3.trans e4'
      have hal := Paired.length hpa
      rw [ex_len] at hal
      refine ⟨fo, fa, _, _, rfl, rfl, e4 _ _ hf, k4, le_line (by rw [List.length_map, List.length_map]; omega), fun f5 hf5 => ?_⟩
      have s5 := same_new hf5 (.lst (us.map V.ref ++ ua.map V.ref))
      have k5 : (upd H4 f5 (.lst (us.map V.ref ++ ua.map V.ref))) f5 = some (.lst ((us ++ ua).map V.ref)) := by rw [upd_same, List.map_append]
      generalize upd H4 f5 (.lst (us.map V.ref ++ ua.map V.ref)) = H5 at s5 k5 ⊢
      have e5 := e4.trans s5
      refine ⟨_, rfl, _, rfl, l, _, _, _, rfl, rfl, SqL.of (e5 _ _ hl2), lst_ref ht, t, _, 3, _, rfl, rfl, SqT.of (e5 _ _ hh'), rfl, _, rfl, _, rfl, (show 2 ≤ sizeLine by decide), fun p6 hp6 => cat2 e5 hp6 fun pc H6 e6' k6 => ?_⟩
      have e6 := e5.trans e6'
      refine ⟨o, pc, b', _, rfl, ho.same (e.trans e6), k6, (by rw [List.length_append]; show _ + 2 + _ ≤ 40; omega), (by omega), fun fb ub H7 e7' k7 hpb => ?_⟩
      have e7 := e6.trans e7'
      have e57 := e6'.trans e7'
      have hbl := Paired.length hpb
      rw [ex_len] at hbl
      refine ⟨f5, fb, _, _, rfl, rfl, e57 _ _ k5, k7, le_line (by rw [List.length_map, List.length_map, List.length_append]; omega), fun f8 hf8 => ?_⟩
      have s8 := same_new hf8 (.lst ((us ++ ua).map V.ref ++ ub.map V.ref))
      refine done (us' := (us ++ ua) ++ ub) (e7.trans s8) (by rw [upd_same, List.map_append (l₁ := us ++ ua)]) ?_
      rw [due_if, ← List.append_assoc]
      exact Paired.app (Paired.app (Paths.same hpp (e7.trans s8)) (((Paths.same hpa s5).same e57).same s8)) (Paths.same hpb s8)
    | loop c td i' fa pa r F' P' a hh hc okr htd hF hP okF okP lF lP hi' =>
      have hh' := e _ _ hh
      refine ⟨t, _, 0, _, rfl, rfl, SqT.of hh', rfl, rfl, _, rfl, iteB (fun c => absurd c (by decide +kernel)) (fun _ => ?_)⟩
      refine ⟨_, rfl, _, rfl, l, _, _, _, rfl, rfl, SqL.of hl2, lst_ref ht, t, _, 0, _, rfl, rfl, SqT.of hh', rfl, rfl, _, rfl, iteB (fun _ => ?_) (fun c => absurd c (by decide +kernel))⟩
      rw [dF_while] at hsz
      refine ⟨_, rfl, _, rfl, _, rfl, (show 3 ≤ sizeLine by decide), fun p1 hp1 => ?_⟩
      have s3 := same_new hp1 (.tup [.int (i : Int), .int 0, .int 0])
      have k3 : (upd H2 p1 (.tup [.int (i : Int), .int 0, .int 0])) p1 = some (.tup [.int (i : Int), .int 0, .int 0]) := upd_same
      generalize upd H2 p1 (.tup [.int (i : Int), .int 0, .int 0]) = H3 at s3 k3 ⊢
      refine ⟨ah, p1, _, _, rfl, rfl, s3.seqT (e.seqT hah), SqT.of k3, le_line (by rw [List.length_map]; show _ + 3 ≤ 1000; omega), fun t1 H4 e4' k4' => ?_⟩
      have k4 : SqT K H4 t1 ((h ++ [(i : Int), 0, 0]).map V.int) := by rw [List.map_append]; exact k4'
      have e4 := s3.trans e4'
      refine ⟨_, rfl, _, rfl, _, _, rfl, rfl, (show 1 ≤ sizeLine by decide), fun p2 hp2 => ?_⟩
      have s5' := same_new hp2 (.tup [.int ((i : Int) + 1)])
      have k5 : (upd H4 p2 (.tup [.int ((i : Int) + 1)])) p2 = some (.tup [.int ((i : Int) + 1)]) := upd_same
      generalize upd H4 p2 (.tup [.int ((i : Int) + 1)]) = H5 at s5' k5 ⊢
      have e5 := e4.trans s5'
      refine ⟨ah, p2, _, _, rfl, rfl, e5.seqT (e.seqT hah), SqT.of k5, le_line (by rw [List.length_map]; show _ + 1 ≤ 1000; omega), fun t2 H6 e6' k6' => ?_⟩
      have k6 : SqT K H6 t2 ((h ++ [(i : Int) + 1]).map V.int) := by rw [List.map_append]; exact k6'
      have e6 := e5.trans e6'
      refine ⟨(show 2 ≤ sizeLine by decide), fun p3 hp3 => ?_⟩
      have s7' := same_new hp3 (.lst [.ref t1, .ref t2])
      have k7 : (upd H6 p3 (.lst [.ref t1, .ref t2])) p3 = some (.lst ([t1, t2].map V.ref)) := upd_same
      generalize upd H6 p3 (.lst [.ref t1, .ref t2]) = H7 at s7' k7 ⊢
      have e7 := e6.trans s7'
      have k47 := s7'.seqT (e6'.seqT (s5'.seqT k4))
      have k67 := s7'.seqT k6
      refine ⟨fo, p3, _, _, rfl, rfl, e7 _ _ hf, k7, le_line (by rw [List.length_map]; show _ + 2 ≤ 1000; omega), fun f8 hf8 => ?_⟩
      have s8 := same_new hf8 (.lst (us.map V.ref ++ [t1, t2].map V.ref))
      have k8 : (upd H7 f8 (.lst (us.map V.ref ++ [t1, t2].map V.ref))) f8 = some (.lst ((us ++ [t1, t2]).map V.ref)) := by rw [upd_same, List.map_append]
      generalize upd H7 f8 (.lst (us.map V.ref ++ [t1, t2].map V.ref)) = H8 at s8 k8 ⊢
      have e8 := e7.trans s8
      refine ⟨_, rfl, _, rfl, l, _, _, _, rfl, rfl, SqL.of (e8 _ _ hl2), lst_ref ht, t, _, 3, _, rfl, rfl, SqT.of (e8 _ _ hh'), rfl, _, rfl, _, rfl, (show 2 ≤ sizeLine by decide), fun p6 hp6 => cat2 e8 hp6 fun pc H9 e9' k9 => ?_⟩
      have e9 := e8.trans e9'
      refine ⟨i', pc, a, _, rfl, hi'.same (e.trans e9), k9, (by rw [List.length_append]; show _ + 2 + _ ≤ 40; omega), (by omega), fun fb ub Ha ea' ka hpb => ?_⟩
      have ea := e9.trans ea'
      have e8a := e9'.trans ea'
      have hbl := Paired.length hpb
      rw [ex_len] at hbl
      refine ⟨f8, fb, _, _, rfl, rfl, e8a _ _ k8, ka, le_line (by rw [List.length_map, List.length_map, List.length_append]; show _ + 2 + _ ≤ 1000; omega), fun f9 hf9 => ?_⟩
      have sb := same_new hf9 (.lst ((us ++ [t1, t2]).map V.ref ++ ub.map V.ref))
      refine done (us' := (us ++ [t1, t2]) ++ ub) (ea.trans sb) (by rw [upd_same, List.map_append (l₁ := us ++ [t1, t2])]) ?_
      rw [due_while, ← List.append_assoc]
      have e7b := (s8.trans e8a).trans sb
      exact Paired.app (Paired.app (Paths.same hpp (ea.trans sb)) (.cons (e7b.seqT k47) (.cons (e7b.seqT k67) .nil))) (Paths.same hpb sb)
  rintro σ H2 ⟨fo, us, z3, e, hf, hpp, rfl⟩
  have htk : ds.zipIdx.take (((ts.map V.ref).length : Nat) : Int).toNat = ds.zipIdx := List.take_of_length_le (by rw [Int.toNat_natCast, List.length_map, List.length_zipIdx, hpl]; exact Nat.le_refl _)
  rw [htk] at hpp
  exact hN1 _ _ ⟨_, rfl, q fo us H2 e hf hpp⟩
end
end K43
namespace L2
open PySem PySem.Spec PyProof.Rows
section
variable {X : Cx}
end
end L2
namespace L2
open PySem PySem.Spec
noncomputable def rNinD (K : PySem.W.Frag) : R2 := fun x y H Q => ∃ p ys ds d, y = .ref p ∧ SqL K H p ys ∧ DpAll K H ys ds ∧ Dp K H x d ∧ EqOk (.list ds) ∧ EqOk d ∧ Q (.bl (!ds.any fun e => PyData.eqv e d)) H
theorem op_ninD {X : Cx} {K : PySem.W.Frag} (hK : X.K = K) (hu : X.A.units + 32 < cLine) : OpR X (compareOp .NotIn) (rNinD K) := by
  subst hK
  intro pins s σ H x y v u Q I rx ry h
  obtain ⟨p, ys, ds, d, rfl, hy, hds, hd, o1, o2, q⟩ := h
  obtain ⟨as, ra⟩ := Dp.reads I (.lst hy hds) ry
  obtain ⟨bs, rb⟩ := Dp.reads I hd rx
  have h1 := o1.1
  simp only [PyData.canLay0] at h1
  have h2 := o2.2
  exact PySem.SeqAt.notIn_list_reads ra rb h1 o2.1 (by have := Nat.min_le_right (PyData.depthAll ds) d.depth; omega) ⟨.bl _, H, I, rfl, q⟩
end L2
namespace K43
open PySem PySem.Spec L2 Mir
noncomputable abbrev sIsPath : Stmt := top 26
noncomputable abbrev sLaw : Stmt := top 27
theorem Dn.int {n : Nat} {i : Int} : Dn n (.int i) := ⟨by simp only [PyData.canLay0], by simp only [PyData.depth]; exact Nat.zero_le _⟩
noncomputable def dInts (ns : List Int) : PyData := .tuple (ns.map PyData.int)
theorem dp_intsX {K : PySem.W.Frag} {H : Hp} : ∀ ns : List Int, DpAll K H (ns.map V.int) (ns.map PyData.int)
  | [] => .nil
  | n :: ns => .cons (.int n) (dp_intsX ns)
theorem ints_dp {K : PySem.W.Frag} {H : Hp} {t : Addr} {ns : List Int} (h : SqT K H t (ns.map V.int)) : Dp K H (.ref t) (dInts ns) := .tup h (dp_intsX ns)
theorem ints_dn {ns : List Int} : Dn 1 (dInts ns) := Dn.tup fun d hd => by
  obtain ⟨i, _, rfl⟩ := List.mem_map.mp hd; exact Dn.int
theorem paths_dp {K : PySem.W.Frag} {H : Hp} {us : List Addr} {ns : List (List Int)} (h : Paths K H us ns) : DpAll K H (us.map V.ref) (ns.map dInts) := dp_pair h fun _ _ z => ints_dp z
theorem paths_dn {ns : List (List Int)} : Dn 2 (.list (ns.map dInts)) := Dn.lst fun d hd => by
  obtain ⟨i, _, rfl⟩ := List.mem_map.mp hd; exact ints_dn
inductive spIsPath (K : PySem.W.Frag) (vs : List V) (H : Hp) (Q : VK) (E : XK) : Prop
  | mk (t : Addr) (ns : List Int) (h0 : vs = [.ref t]) (h1 : SqT K H t (ns.map V.int)) (h2 : 0 < ns.length) (h3 : ns.length ≤ 1000) (q : ∀ H', Same H H' → Q (.bl true) H') : spIsPath K vs H Q E
theorem ListX.big {K : PySem.W.Frag} {H : Hp} : ∀ {bs : List Nat} {n : Nat} {l : Addr} {ds : List Deed}, ListX K H bs l ds → bs.length ≤ n → (∀ b ∈ bs, b ≤ 24) → ListX K H (List.replicate n 24) l ds
  | [], _, _, _, h, _, _ => h.elim
  | b :: bs, 0, l, ds, h, hn, _ => by cases hn
  | b :: bs, n + 1, l, ds, h, hn, hb => by
    obtain ⟨ts, h1, h2, h3⟩ := h
    refine ⟨ts, h1, Paired.mapP h2 fun _ _ z => z.same (Same.refl _) fun _ _ y => ListX.big y (Nat.le_of_succ_le_succ hn) fun x hx => hb x (List.mem_cons_of_mem _ hx), Nat.le_trans h3 (hb b (List.mem_cons_self ..))⟩
theorem PrcAt.big {K : PySem.W.Frag} {H : Hp} {bs : List Nat} {t : Addr} {p : Prc} (h : PrcAt K H bs t p) (hl : bs.length ≤ 5) (hb : ∀ b ∈ bs, b ≤ 24) : PrcAt K H (List.replicate 5 24) t p := by
  obtain ⟨pt, t1, t2, f1, p1, f2, p2, bd, x⟩ := h
  exact ⟨pt, t1, t2, f1, p1, f2, p2, bd, x.tup, x.pt, x.t1, x.t2, x.f1, x.p1, x.f2, x.p2, x.body.big hl hb, x.okn, x.okr, x.okp, x.ok1, x.ok2, x.l1, x.l2⟩
theorem dcL_len : ∀ {bs bs' : List Nat} {ds : List Deed}, bs.length = bs'.length → dcL bs ds = dcL bs' ds
  | [], [], _, _ => rfl
  | b :: bs, b' :: bs', ds, h => by
    have e : dcL bs = dcL bs' := funext fun ds => dcL_len (Nat.succ.inj h)
    show (ds.map (dcD (dcL bs))).sum = (ds.map (dcD (dcL bs'))).sum
    rw [e]
theorem lex_no {a b : List Int} (h : HT.lexLt a b = true) (h' : HT.lexLt b a = true) : a = b := by
  have key : ∀ {a : List Int}, ¬ HT.lexLt a a = true := fun {a} => by
    induction a with
    | nil => exact Bool.false_ne_true
    | cons x a ih => rw [HT.lexLt_cons, if_pos rfl]; exact ih
  exact absurd (TS.lex_tr h h') key
section
variable {P : Program} {w : World} {K : PySem.W.Frag} {mg : Str → Option Value} {base : Heap} {f gG gC gB gS gI gD : Addr} {fd dG dC dB dS dI dD : FuncData}
theorem scIsPath : FnScope ["_law_found"] ["_law_found"] (defScope sIsPath) := ⟨rfl, rfl, rfl, by decide +kernel, rfl, by decide +kernel, by decide +kernel⟩
theorem ok_isPath (C : Con K mg w) (F : Fun K "_law_is_path" "_law_is_path" sIsPath f fd) : FnOk P w K mg base CX0 1 f fd ["_law_found"] (spIsPath K) := by
  refine F.okQ scIsPath (fun vs H Q E h => ?_) (fun cdv A outer s0 H vs Q E hr h => ?_)
  · obtain ⟨t, ns, rfl, _⟩ := h; rfl
  obtain ⟨t, ns, rfl, h1, h2, h3, q⟩ := h
  have nd := scIsPath.nd
  have hu := Nat.lt_of_le_of_lt (Nat.add_le_add_left (show 32 ≤ 64 by decide) _) hr.units
  refine ⟨_, qb_cons (qs_if (QW.qt (qw_or (qt_not (qt_val (qe_callB call_isi_tuple rfl C.isi PyProof.Rows.boot_isinstance (qa_nm (qv 0) (qa_nm ⟨gty C.tuple PyProof.Rows.boot_tuple⟩ qa_nil))))) (qw_or1 (qt_cmpR op_eq (qe_callB call_len_seq rfl C.len PySem.boot_len (qa_nm (qv 0) qa_nil)) qe_int (nomark _))))) (qb_one (qs_ret qe_bl)) qb_nil)
    (qb_one (qs_ret (qe_cmpR (op_eqD hu) (qe_comp0 (qi_tup (qv 0)) (fun _ _ _ _ => (qts_one (QW.qt (qw_or (qt_val (qe_callB call_isi_ib rfl C.isi PyProof.Rows.boot_isinstance (qa_nm (qv 0) (qa_nm ⟨gty C.bool PyProof.Rows.boot_bool⟩ qa_nil)))) (qw_or1 (qt_not (qt_val (qe_callB call_isi_int rfl C.isi PyProof.Rows.boot_isinstance (qa_nm (qv 0) (qa_nm ⟨gty C.int PyProof.Rows.boot_int⟩ qa_nil)))))))))) (fun _ _ _ _ => (qv 0))) (qe_lst qa_nil) (nomark _)))), ?_⟩
  refine ⟨_, rfl, t, _, rfl, h1, _, rfl, (if_neg Bool.false_ne_true).mpr ⟨_, rfl, t, _, rfl, .inr h1, rfl, _, rfl, iteB (fun c => ?_) (fun _ => ?_)⟩⟩
  · have := V.int.inj (of_decide_eq_true c)
    rw [List.length_map] at this
    omega
  refine ⟨_, rfl, t, rfl, ⟨_, h1⟩, ?_⟩
  refine comp_map (ns.map V.int) (fun _ => false) id jseq_tup h1 (le_line (by rw [List.length_map]; exact h3)) (fun x hx H2 e2 Q' q' => ?_) (fun x hx hp => by cases hp) (fun D H2 hD e2 hD2 => ?_)
  · obtain ⟨i, _, rfl⟩ := List.mem_map.mp hx
    exact ⟨_, rfl, i, rfl, _, rfl, (if_neg Bool.false_ne_true).mpr ⟨_, rfl, i, rfl, _, rfl, q' H2 (Same.refl _)⟩⟩
  have hnil : ((ns.map V.int).filter fun _ => false) = [] := List.filter_eq_nil_iff.mpr fun _ _ => by simp
  rw [hnil] at hD2
  refine ⟨Nat.zero_le _, fun x0 hx0 => ?_⟩
  have s3 := same_new hx0 (.lst [])
  have dn : Dn 1 (.list []) := Dn.lst fun d hd => by cases hd
  refine ⟨.list [], .list [], .lst (SqL.of (s3 _ _ hD2)) .nil, .lst (SqL.of upd_same) .nil, dn.ok (by decide), dn.ok (by decide), ?_⟩
  rw [SeqAt.eqv_refl _ dn.lay]
  exact q _ (e2.trans s3)
theorem scLaw : FnScope ["_law_script", "_law_program_here", "_law_kept", "_law_procedure", "_law_due", "_law_found", "_law_path", "_law_k", "_law_held"] ["_law_script"] (defScope sLaw) := ⟨rfl, rfl, rfl, by decide +kernel, rfl, by decide +kernel, by decide +kernel⟩
abbrev B5 : List Nat := List.replicate 5 24
theorem ok_law (C : Con K mg w) (F : Fun K "law" "law" sLaw f fd) (GG : FnOk P w K mg base CX0 6 gG dG ["_law_script"] (spProg K)) (cG : Cal K mg "_law_program" gG dG ["_law_script"]) (GC : FnOk P w K mg base CX0 7 gC dC ["_law_program_here"] (spCopied K B5)) (cC : Cal K mg "_law_copied" gC dC ["_law_program_here"])
    (GD : FnOk P w K mg base CX0 6 gD dD ["_law_deeds", "_law_head"] (spDue K B5)) (cD : Cal K mg "_law_loops" gD dD ["_law_deeds", "_law_head"]) (GB : FnOk P w K mg base CX0 7 gB dB ["body"] (spBegins K B5)) (cB : Cal K mg "begins" gB dB ["body"]) (GI : FnOk P w K mg base CX0 1 gI dI ["_law_found"] (spIsPath K)) (cI : Cal K mg "_law_is_path" gI dI ["_law_found"]) : FnOk P w K mg base CX0 8 f fd ["_law_script"] (spLaw K) := by
  refine F.okQ scLaw (fun vs H Q E h => ?_) (fun cdv A outer s0 H vs Q E hr h => ?_)
  · obtain ⟨a, ns, rfl, _⟩ := h; rfl
  obtain ⟨a, ns, rfl, hS, q⟩ := h
  have nd := scLaw.nd
  have hu := Nat.lt_of_le_of_lt (Nat.add_le_add_left (show 32 ≤ 64 by decide) _) hr.units
  have hu0 := Nat.lt_of_le_of_lt (Nat.le_add_right _ 64) hr.units
  have hr6 := hr.mono (j := 6) (by omega)
  have hr1 := hr.mono (j := 1) (by omega)
  refine ⟨_, qb_cons (qs_set (i := 1) nd rfl (Or.inl rfl) (qe_call GG hr6 rfl cG.name cG.keep cG.bind .nil pass0 (qa_nm (qv 0) qa_nil)))
    (qb_cons (qs_set (i := 2) nd rfl (Or.inl rfl) (qe_call GC hr rfl cC.name cC.keep cC.bind .nil pass0 (qa_nm (qv 1) qa_nil)))
    (qb_cons (qs_for PassesOwn.never rfl (qi_list (qv 1)) (qg_name (i := 3) nd rfl (Or.inl rfl)) (qb_cons (qs_set (i := 4) nd rfl (Or.inl rfl) (qe_op op_cat (qe_lst (qa_tp (qa_int qa_nil) qa_nil)) (qe_call GD hr6 rfl cD.name cD.keep cD.bind .nil pass0 (qa_sub (qe_ix ix_tup (qv 3) qe_int (fun _ _ => rfl)) (qa_tp qa_nil qa_nil)))))
    (qb_cons (qs_set (i := 5) nd rfl (Or.inl rfl) (qe_call GB hr rfl cB.name cB.keep cB.bind .nil pass0 (qa_sub (qe_ix ix_tup (qv 3) qe_int (fun _ _ => rfl)) qa_nil)))
    (qb_cons (qs_if (QW.qt (qw_or (qt_not (qt_val (qe_callB call_isi_list rfl C.isi PyProof.Rows.boot_isinstance (qa_nm (qv 5) (qa_nm ⟨gty C.list PyProof.Rows.boot_list⟩ qa_nil))))) (qw_or1 (qt_cmpR op_ne (qe_callB call_len_seq rfl C.len PySem.boot_len (qa_nm (qv 5) qa_nil)) (qe_callB call_len_seq rfl C.len PySem.boot_len (qa_nm (qv 4) qa_nil)) (nomark _))))) (qb_one (qs_ret qe_bl)) qb_nil)
    (qb_cons (qs_for PassesOwn.never rfl (qi_list (qv 4)) (qg_name (i := 6) nd rfl (Or.inl rfl)) (qb_one (qs_if (qt_cmpR (op_ninD (K := K) rfl hu) (qv 6) (qv 5) (by with_unfolding_all rfl)) (qb_one (qs_ret qe_bl)) qb_nil)))
    (qb_cons (qs_for PassesOwn.never rfl (qi_range1 rfl C.range (qa_call (qe_callB call_len_seq rfl C.len PySem.boot_len (qa_nm (qv 5) qa_nil)) qa_nil)) (qg_name (i := 7) nd rfl (Or.inl rfl)) (qb_one (qs_if (QW.qt (qw_or (qt_not (qt_val (qe_call GI hr1 rfl cI.name cI.keep cI.bind .nil pass0 (qa_sub (qe_ix ix_list (qv 5) (qv 7) (fun _ _ => rfl)) qa_nil)))) (qw_or1 (QW.qt (qw_and (qt_cmpR op_gt (qv 7) qe_int (nomark _)) (qw_and1 (qt_not (qt_cmpR (op_ltT hu0) (qe_ix ix_list (qv 5) (qe_op op_sub (qv 7) qe_int) (fun _ _ => rfl)) (qe_ix ix_list (qv 5) (qv 7) (fun _ _ => rfl)) (nomark _))))))))) (qb_one (qs_ret qe_bl)) qb_nil)))
    (qb_cons (qs_set (i := 8) nd rfl (Or.inl rfl) (qe_callTy call_list_of rfl C.list PyProof.Rows.boot_list (qa_nm (qv 5) qa_nil)))
    (qb_cons (qs_expr (qe_bm0 PySem.F.plainAttrs_list PySem.F.slot_list_clear PySem.F.type_list_clear mt_clear (qv 5)))
    (qb_one (qs_if (qt_cmpR (op_neD hu) (qe_call GB hr rfl cB.name cB.keep cB.bind .nil pass0 (qa_sub (qe_ix ix_tup (qv 3) qe_int (fun _ _ => rfl)) qa_nil)) (qv 8) (nomark _)) (qb_one (qs_ret qe_bl)) qb_nil))))))))))
    (qb_one (qs_ret (qe_cmpR (op_eqD hu) (qv 1) (qv 2) (nomark _)))))), ?_⟩
  refine ⟨_, rfl, a, ns, rfl, hS, fun pl ts lv S H1 PG => ?_⟩
  obtain ⟨b0, b1, b2, b3, b4, ps, hsum, hpp⟩ := PG.data
  have hbs : ∀ b ∈ [b0, b1, b2, b3, b4], b ≤ 24 := fun b hb => by
    simp only [List.mem_cons, List.not_mem_nil, or_false] at hb
    rcases hb with rfl | rfl | rfl | rfl | rfl <;> omega
  have hppB : Paired (PrcAt K H1 B5) ts ps := Paired.mapP hpp fun _ _ z => z.1.big (show 5 ≤ 5 by decide) hbs
  refine ⟨_, rfl, pl, ts, ps, rfl, PG.list, hppB, PG.few, fun cl us H2 e2 hcl hus => ?_⟩
  dsimp only [gName]
  refine seq_hide (a := tFor _ _ _) fun D1 hN1 hR1 hC1 => ?_
  refine ⟨_, rfl, pl, rfl, ⟨_, SqL.of (e2 _ _ PG.list)⟩, ?_⟩
  refine for_list (xs := ts.map V.ref) (fun i σ H3 => Same H2 H3 ∧ ∃ z3 z4 z5 z6 z7 z8 : Option V, σ = [some (.ref a), some (.ref pl), some (.ref cl), z3, z4, z5, z6, z7, z8]) ⟨Same.refl _, none, none, none, none, none, none, rfl⟩ (fun i σ H' _ h => SqL.of (h.1 _ _ (e2 _ _ PG.list))) ?_ ?_
  · rintro i x σ H3 hx ⟨e3, z3, z4, z5, z6, z7, z8, rfl⟩
    rw [List.getElem?_map] at hx
    obtain ⟨t, ht, rfl⟩ := Option.map_eq_some_iff.mp hx
    obtain ⟨p, hd, ⟨pt, t1, t2, f1, p1, f2, p2, bd, x⟩, hcnt⟩ := Paired.nth hpp ht
    have e13 := e2.trans e3
    have hbd : ListX K H1 B5 bd p.body := x.body.big (show 5 ≤ 5 by decide) hbs
    have hcn : dcL B5 p.body ≤ 24 := by have := dcL_len (bs := B5) (bs' := [b0, b1, b2, b3, b4]) (ds := p.body) rfl; omega
    have hlf := Nat.le_trans (lp_few B5 p.body []) hcn
    have htup := x.tup
    clear hcnt x hpp
    refine ⟨(show 1 ≤ sizeLine by decide), fun q0 hq0 => ?_⟩
    have s4 := same_new hq0 (.tup [.int 0])
    have k4 : (upd H3 q0 (.tup [.int 0])) q0 = some (.tup [.int 0]) := upd_same
    generalize upd H3 q0 (.tup [.int 0]) = H4 at s4 k4 ⊢
    refine ⟨(show 1 ≤ sizeLine by decide), fun q1 hq1 => ?_⟩
    have s5' := same_new hq1 (.lst [.ref q0])
    have k5 : (upd H4 q1 (.lst [.ref q0])) q1 = some (.lst ([q0].map V.ref)) := upd_same
    generalize upd H4 q1 (.lst [.ref q0]) = H5 at s5' k5 ⊢
    have e15 := (e13.trans s4).trans s5'
    refine ⟨_, rfl, t, _, 5, _, rfl, rfl, SqT.of (e15 _ _ htup), rfl, Nat.zero_le _, fun q2 hq2 => ?_⟩
    have s6' := same_new hq2 (.tup [])
    have k6 : (upd H5 q2 (.tup [])) q2 = some (.tup []) := upd_same
    generalize upd H5 q2 (.tup []) = H6 at s6' k6 ⊢
    have e16 := e15.trans s6'
    refine ⟨bd, q2, p.body, [], rfl, hbd.same e16, SqT.of k6, (by decide), (by omega), fun fo ud H7 e7 k7 hud => ?_⟩
    have e17 := e16.trans e7
    have hdl := Paired.length hud
    rw [ex_len] at hdl
    have k57 := e7 _ _ (s6' _ _ k5)
    refine ⟨q1, fo, _, _, rfl, rfl, k57, k7, le_line (by rw [List.length_map, List.length_map]; show 1 + _ ≤ 1000; omega), fun du hdu => ?_⟩
    have s8 := same_new hdu (.lst ([q0].map V.ref ++ ud.map V.ref))
    have k8 : (upd H7 du (.lst ([q0].map V.ref ++ ud.map V.ref))) du = some (.lst ((q0 :: ud).map V.ref)) := upd_same
    generalize upd H7 du (.lst ([q0].map V.ref ++ ud.map V.ref)) = H8 at s8 k8 ⊢
    have e18 := e17.trans s8
    have hdue : Paths K H8 (q0 :: ud) (bgL B5 p.body) := .cons (SqT.of (s8 _ _ (e7 _ _ (s6' _ _ (s5' _ _ k4))))) (hud.same s8)
    have e38 : Same H3 H8 := (((s4.trans s5').trans s6').trans e7).trans s8
    clear k57 k7 hud k6 k5 k4 hq0 hq1 hq2 s4 s5' s6' e7 s8 e15 e16 e17
    refine ⟨_, rfl, t, _, 5, _, rfl, rfl, SqT.of (e18 _ _ htup), rfl, bd, p.body, rfl, hbd.same e18, hcn, fun fp vs mss H9 e9 hfp0 k9 hvs hperm hup => ?_⟩
    have e19 := e18.trans e9
    have k89 := e9 _ _ k8
    have hdue9 := hdue.same e9
    have hml : mss.length = 2 * (lpL B5 p.body []).length + 1 := by rw [hperm.length_eq]; show (_ :: _).length = _; rw [List.length_cons, ex_len]
    have hvl := Paired.length hvs
    have hdl2 := Paired.length hdue9
    have hbl : (bgL B5 p.body).length = mss.length := hperm.length_eq.symm
    have hnz : ∀ m ∈ mss, 0 < m.length ∧ m.length ≤ 1000 := fun m hm => by
      have hm' := hperm.mem_iff.mp hm
      refine ⟨List.length_pos_iff.mpr (bg_ne _ _ m hm'), ?_⟩
      rcases List.mem_cons.mp hm' with rfl | hm'
      · exact (by decide : 1 ≤ 1000)
      obtain ⟨y, hy, hy2⟩ := List.mem_flatMap.mp hm'
      obtain ⟨_, _, _, _, ⟨ns', m', e⟩, hyl⟩ := lp_in hy
      have hyl' : y.length ≤ 10 := by simpa [B5] using hyl
      simp only [exF, List.mem_cons, List.not_mem_nil, or_false] at hy2
      rcases hy2 with rfl | rfl
      · rw [List.length_append]; show _ + 2 ≤ 1000; omega
      · rw [e, bh_snoc, List.length_append]; rw [e, List.length_append] at hyl'
        have h1 : [(m' : Int) + 1].length = 1 := rfl
        omega
    refine ⟨_, rfl, fp, _, rfl, SqL.of k9, _, rfl, (if_neg Bool.false_ne_true).mpr ⟨_, rfl, fp, _, rfl, .inl (SqL.of k9), _, rfl, du, _, rfl, .inl (SqL.of k89), rfl, _, rfl, iteB (fun c => ?_) (fun _ => ?_)⟩⟩
    · rw [List.length_map, List.length_map, hvl, hdl2, hbl] at c
      simp at c
    dsimp only [tNext]
    refine seq_hide (a := tFor _ _ _) fun D2 hN2 hR2 hC2 => ?_
    refine ⟨_, rfl, du, rfl, ⟨_, SqL.of k89⟩, ?_⟩
    refine for_list (xs := (q0 :: ud).map V.ref) (fun j σ H' => H' = H9 ∧ ∃ z6 : Option V, σ = [some (.ref a), some (.ref pl), some (.ref cl), some (.ref t), some (.ref du), some (.ref fp), z6, z7, z8]) ⟨rfl, z6, rfl⟩ (fun j σ H' _ h => by rw [h.1]; exact SqL.of k89) ?_ ?_
    · rintro j y σ H' hy ⟨rfl, y6, rfl⟩
      rw [List.getElem?_map] at hy
      obtain ⟨u, hu', rfl⟩ := Option.map_eq_some_iff.mp hy
      obtain ⟨m, hm, hsq⟩ := Paired.nth hdue9 hu'
      refine ⟨_, rfl, _, rfl, fp, _, _, _, rfl, SqL.of k9, paths_dp hvs, ints_dp hsq, paths_dn.ok (by decide), ints_dn.ok (by decide), _, rfl, ?_⟩
      have : ((mss.map dInts).any fun e => PyData.eqv e (dInts m)) = true := List.any_eq_true.mpr ⟨dInts m, List.mem_map.mpr ⟨m, hperm.mem_iff.mpr (List.mem_of_getElem? hm), rfl⟩, SeqAt.eqv_refl _ ints_dn.lay⟩
      rw [this]
      exact (if_neg Bool.false_ne_true).mpr ⟨rfl, _, rfl⟩
    rintro σ H' ⟨rfl, y6, rfl⟩
    refine hN2 _ _ ?_
    clear hN2 hR2 hC2
    refine seq_hide (a := tFor _ _ _) fun D2 hN2 hR2 hC2 => ?_
    refine ⟨_, rfl, fp, _, rfl, .inl (SqL.of k9), _, rfl, by rw [List.length_map]; omega, by rw [List.length_map]; omega, ?_⟩
    show ∃ W : Nat → Nat → St → Hp → Prop, _
    refine for_range (lo := 0) (n := (((vs.map V.ref).length : Nat) : Int).toNat) (fun j σ Hn => Same H' Hn ∧ ∃ z7 : Option V, σ = [some (.ref a), some (.ref pl), some (.ref cl), some (.ref t), some (.ref du), some (.ref fp), y6, z7, z8]) ⟨Same.refl _, z7, rfl⟩ ?_ ?_
    · rintro j σ Hn hj ⟨en, y7, rfl⟩
      rw [Int.zero_add]
      rw [Int.toNat_natCast, List.length_map] at hj
      have hv : vs[j]? = some vs[j] := List.getElem?_eq_getElem hj
      generalize vs[j] = v at hv
      obtain ⟨m, hm, hsq⟩ := Paired.nth hvs hv
      have hmm := hnz m (List.mem_of_getElem? hm)
      have kn := en _ _ k9
      refine ⟨_, rfl, _, rfl, fp, _, _, _, rfl, rfl, SqL.of kn, lst_ref hv, v, m, rfl, en.seqT hsq, hmm.1, hmm.2, fun Hm em => ?_⟩
      have enm := en.trans em
      have km := enm _ _ k9
      refine ⟨_, rfl, (if_neg Bool.false_ne_true).mpr ?_⟩
      refine ⟨_, rfl, _, _, rfl, rfl, _, rfl, iteB (fun c => ?_) (fun c => (if_neg Bool.false_ne_true).mpr ⟨enm, _, rfl⟩)⟩
      have hj0 : 0 < j := by have := of_decide_eq_true c; omega
      obtain ⟨i', rfl⟩ : ∃ i', j = i' + 1 := ⟨j - 1, by omega⟩
      have hv' : vs[i']? = some vs[i'] := List.getElem?_eq_getElem (by omega)
      generalize vs[i'] = v' at hv'
      obtain ⟨m', hm', hsq'⟩ := Paired.nth hvs hv'
      have hlt : HT.lexLt m' m = true := by
        obtain ⟨g1, g2⟩ := List.getElem?_eq_some_iff.mp hm'
        obtain ⟨g3, g4⟩ := List.getElem?_eq_some_iff.mp hm
        have := List.pairwise_iff_getElem.mp hup i' (i' + 1) g1 g3 (Nat.lt_succ_self _)
        rw [g2, g4] at this; exact this
      refine ⟨_, rfl, _, rfl, _, _, rfl, rfl, fp, _, _, _, rfl, rfl, SqL.of km, (by rw [show ((i' + 1 : Nat) : Int) - 1 = (i' : Int) by omega]; exact lst_ref hv'), _, rfl, _, rfl, fp, _, _, _, rfl, rfl, SqL.of km, lst_ref hv, v', v, m', m, rfl, rfl, enm.seqT hsq', enm.seqT hsq, _, rfl, ?_⟩
      rw [hlt]
      exact (if_neg Bool.false_ne_true).mpr ⟨enm, _, rfl⟩
    rintro σ Hn ⟨en, y7, rfl⟩
    refine hN2 _ _ ?_
    clear hN2 hR2 hC2
    have kn := en _ _ k9
    have hvn := hvs.same en
    refine ⟨_, rfl, fp, _, rfl, .inl (SqL.of kn), fun hl hhl => ?_⟩
    have sa := same_new hhl (.lst (vs.map V.ref))
    have ka : (upd Hn hl (.lst (vs.map V.ref))) hl = some (.lst (vs.map V.ref)) := upd_same
    have nl : hl ≠ fp := (ne_of_none kn hhl).symm
    generalize upd Hn hl (.lst (vs.map V.ref)) = Ha at sa ka ⊢
    have kfa := sa _ _ kn
    refine ⟨_, rfl, (.inl ⟨rfl, _, SqL.of kfa⟩), fp, _, rfl, rfl, kfa, ?_⟩
    have e8a : Same H8 Ha := (e9.trans en).trans sa
    have eb : Same H8 (upd Ha fp (.lst [])) := fun b o z => by rw [upd_ne (ne_of_none z hfp0)]; exact e8a _ _ z
    have kb : (upd Ha fp (.lst [])) hl = some (.lst (vs.map V.ref)) := by rw [upd_ne nl]; exact ka
    have hvb : Paths K (upd Ha fp (.lst [])) vs mss := (hvn.same sa).put kfa
    generalize upd Ha fp (.lst []) = Hb at eb kb hvb ⊢
    have e1b := e18.trans eb
    refine ⟨_, rfl, t, _, 5, _, rfl, rfl, SqT.of (e1b _ _ htup), rfl, bd, p.body, rfl, hbd.same e1b, hcn, fun fp' vs' mss' Hc ec hfp0' kc hvs' hperm' hup' => ?_⟩
    have em : mss' = mss := List.Perm.eq_of_pairwise (fun a b _ _ h1 h2 => lex_no h1 h2) hup' hup (hperm'.trans hperm.symm)
    rw [em] at hvs'
    refine ⟨_, rfl, .list (mss.map dInts), .list (mss.map dInts), .lst (SqL.of kc) (paths_dp hvs'), .lst (SqL.of (ec _ _ kb)) (paths_dp (hvb.same ec)), paths_dn.ok (by decide), paths_dn.ok (by decide), _, rfl, ?_⟩
    rw [SeqAt.eqv_refl _ paths_dn.lay]
    exact (if_neg Bool.false_ne_true).mpr ⟨((e3.trans e38).trans eb).trans ec, _, _, _, _, _, _, rfl⟩
  rintro σ H3 ⟨e3, z3, z4, z5, z6, z7, z8, rfl⟩
  have e13 := e2.trans e3
  have dps : Dn 16 (.list (ps.map (prcD B5))) := (Dn.lst (n := 14) fun d hd => by
    obtain ⟨p, hp, rfl⟩ := List.mem_map.mp hd
    obtain ⟨i, hi⟩ := List.getElem?_of_mem hp
    have hlt : i < ts.length := by rw [Paired.length hppB]; exact (List.getElem?_eq_some_iff.mp hi).1
    obtain ⟨p', hp', hx⟩ := Paired.nth hppB (List.getElem?_eq_getElem hlt)
    rw [hi] at hp'; cases hp'
    exact hx.dn).mono (by decide)
  refine hN1 _ _ ⟨_, rfl, _, rfl, .list (ps.map (prcD B5)), .list (ps.map (prcD B5)), .lst (SqL.of (e13 _ _ PG.list)) (dp_pair hppB fun _ _ z => (z.same e13).dp), .lst (SqL.of (e3 _ _ hcl)) (dp_pair hus fun _ _ z => (z.same e3).dp), dps.ok (by decide), dps.ok (by decide), ?_⟩
  rw [SeqAt.eqv_refl _ dps.lay]
  exact q _
end
end K43
namespace K43
open PySem PySem.Spec L2 Mir
theorem all_mk {l : PySem.W.OpenLaw} {w : World} {K : PySem.W.Frag} {h : Heap} {mg : Str → Option Value} {fa f1 f2 f3 f4 f5 f6 f7 f8 f9 f10 f11 f12 f13 f14 f15 f16 f17 f18 f19 f20 f21 f22 f23 f24 f25 : Addr} (X : K.In h) (G : h.Ns mainGlobals mg) (hfa : mg "law" = some (.ref fa))
    {d1 d2 d3 d4 d5 d6 d7 d8 d9 d10 d11 d12 d13 d14 d15 d16 d17 d18 d19 d20 d21 d22 d23 d24 d25 : FuncData}
    (a1 : PySem.W.nsIn K mainGlobals "lists_in" = some (some (.ref f1)))
    (F1 : Fun K "lists_in" "lists_in" sListsIn f1 d1)
    (a2 : PySem.W.nsIn K mainGlobals "behind_deed" = some (some (.ref f2)))
    (F2 : Fun K "behind_deed" "behind_deed" sBehind f2 d2)
    (a3 : PySem.W.nsIn K mainGlobals "loops_in" = some (some (.ref f3)))
    (F3 : Fun K "loops_in" "loops_in" sLoopsIn f3 d3)
    (a4 : PySem.W.nsIn K mainGlobals "begins" = some (some (.ref f4)))
    (F4 : Fun K "begins" "begins" sBegins f4 d4)
    (a5 : PySem.W.nsIn K mainGlobals "_law_cell_at" = some (some (.ref f5)))
    (F5 : Fun K "_law_cell_at" "_law_cell_at" sCell f5 d5)
    (a6 : PySem.W.nsIn K mainGlobals "_law_names" = some (some (.ref f6)))
    (F6 : Fun K "_law_names" "_law_names" sNames f6 d6)
    (a7 : PySem.W.nsIn K mainGlobals "_law_told" = some (some (.ref f7)))
    (F7 : Fun K "_law_told" "_law_told" sTold f7 d7)
    (a8 : PySem.W.nsIn K mainGlobals "_law_take" = some (some (.ref f8)))
    (F8 : Fun K "_law_take" "_law_take" sTake f8 d8)
    (a9 : PySem.W.nsIn K mainGlobals "_law_any_names" = some (some (.ref f9)))
    (F9 : Fun K "_law_any_names" "_law_any_names" sAnyNames f9 d9)
    (a10 : PySem.W.nsIn K mainGlobals "_law_any_row" = some (some (.ref f10)))
    (F10 : Fun K "_law_any_row" "_law_any_row" sAnyRow f10 d10)
    (a11 : PySem.W.nsIn K mainGlobals "_law_any_told" = some (some (.ref f11)))
    (F11 : Fun K "_law_any_told" "_law_any_told" sAnyTold f11 d11)
    (a12 : PySem.W.nsIn K mainGlobals "_law_any_heads" = some (some (.ref f12)))
    (F12 : Fun K "_law_any_heads" "_law_any_heads" sAnyHeads f12 d12)
    (a13 : PySem.W.nsIn K mainGlobals "_law_heads" = some (some (.ref f13)))
    (F13 : Fun K "_law_heads" "_law_heads" sHeads f13 d13)
    (a14 : PySem.W.nsIn K mainGlobals "_law_condition" = some (some (.ref f14)))
    (F14 : Fun K "_law_condition" "_law_condition" sCond f14 d14)
    (a15 : PySem.W.nsIn K mainGlobals "_law_plain" = some (some (.ref f15)))
    (F15 : Fun K "_law_plain" "_law_plain" sPlain f15 d15)
    (a16 : PySem.W.nsIn K mainGlobals "_law_put" = some (some (.ref f16)))
    (F16 : Fun K "_law_put" "_law_put" sPut f16 d16)
    (a17 : PySem.W.nsIn K mainGlobals "_law_any_plain" = some (some (.ref f17)))
    (F17 : Fun K "_law_any_plain" "_law_any_plain" sAnyPlain f17 d17)
    (a18 : PySem.W.nsIn K mainGlobals "_law_any_put" = some (some (.ref f18)))
    (F18 : Fun K "_law_any_put" "_law_any_put" sAnyPut f18 d18)
    (a19 : PySem.W.nsIn K mainGlobals "_law_any_program" = some (some (.ref f19)))
    (F19 : Fun K "_law_any_program" "_law_any_program" sAnyProg f19 d19)
    (a20 : PySem.W.nsIn K mainGlobals "_law_program" = some (some (.ref f20)))
    (F20 : Fun K "_law_program" "_law_program" sProg f20 d20)
    (a21 : PySem.W.nsIn K mainGlobals "_law_copy" = some (some (.ref f21)))
    (F21 : Fun K "_law_copy" "_law_copy" sCopy f21 d21)
    (a22 : PySem.W.nsIn K mainGlobals "_law_copied" = some (some (.ref f22)))
    (F22 : Fun K "_law_copied" "_law_copied" sCopied f22 d22)
    (a23 : PySem.W.nsIn K mainGlobals "_law_loops" = some (some (.ref f23)))
    (F23 : Fun K "_law_loops" "_law_loops" sLoops f23 d23)
    (a24 : PySem.W.nsIn K mainGlobals "_law_is_path" = some (some (.ref f24)))
    (F24 : Fun K "_law_is_path" "_law_is_path" sIsPath f24 d24)
    (a25 : PySem.W.nsIn K mainGlobals "law" = some (some (.ref f25)))
    (F25 : Fun K "law" "law" sLaw f25 d25)
    (z1 : PySem.W.nsIn K mainGlobals "len" = some none)
    (z2 : PySem.W.nsIn K mainGlobals "all" = some none)
    (z3 : PySem.W.nsIn K mainGlobals "any" = some none)
    (z4 : PySem.W.nsIn K mainGlobals "isinstance" = some none)
    (z5 : PySem.W.nsIn K mainGlobals "list" = some none)
    (z6 : PySem.W.nsIn K mainGlobals "int" = some none)
    (z7 : PySem.W.nsIn K mainGlobals "bool" = some none)
    (z8 : PySem.W.nsIn K mainGlobals "str" = some none)
    (z9 : PySem.W.nsIn K mainGlobals "dict" = some none)
    (z10 : PySem.W.nsIn K mainGlobals "sorted" = some none)
    (z11 : PySem.W.nsIn K mainGlobals "set" = some none)
    (z12 : PySem.W.nsIn K mainGlobals "sum" = some none)
    (z13 : PySem.W.nsIn K mainGlobals "range" = some none)
    (z14 : PySem.W.nsIn K mainGlobals "tuple" = some none)
    (z15 : PySem.W.nsIn K mainGlobals "max" = some none)
    (z16 : PySem.W.nsIn K mainGlobals "zip" = some none)
    (z17 : PySem.W.nsIn K mainGlobals "min" = some none)
    (z18 : PySem.W.nsIn K mainGlobals "enumerate" = some none) :
    ∃ fd : FuncData, (∀ (s : Shared) (v : Value), BindsTo s fd ⟨[v], []⟩ [("_law_script", v)]) ∧ ∀ base : Heap, K.In base → base.Ns mainGlobals mg → FnOk l.prog w K mg base CX0 8 fa fd ["_law_script"] (spLaw K) := by
  have e := hfa.symm.trans (PySem.W.mg_of X G a25)
  cases e
  have B1 := F1.binds (ps := ["deed"]) fun _ _ _ _ _ _ us hl => match us, hl with | [_], _ => rfl
  have C1 : Cal K mg "lists_in" f1 _ ["deed"] := ⟨PySem.W.mg_of X G a1, F1.kp, B1⟩
  have B2 := F2.binds (ps := ["path"]) fun _ _ _ _ _ _ us hl => match us, hl with | [_], _ => rfl
  have C2 : Cal K mg "behind_deed" f2 _ ["path"] := ⟨PySem.W.mg_of X G a2, F2.kp, B2⟩
  have B3 := F3.binds (ps := ["deeds", "ahead"]) fun _ _ _ _ _ _ us hl => match us, hl with | [_, _], _ => rfl
  have C3 : Cal K mg "loops_in" f3 _ ["deeds", "ahead"] := ⟨PySem.W.mg_of X G a3, F3.kp, B3⟩
  have B4 := F4.binds (ps := ["body"]) fun _ _ _ _ _ _ us hl => match us, hl with | [_], _ => rfl
  have C4 : Cal K mg "begins" f4 _ ["body"] := ⟨PySem.W.mg_of X G a4, F4.kp, B4⟩
  have B5 := F5.binds (ps := ["_law_script", "_law_k"]) fun _ _ _ _ _ _ us hl => match us, hl with | [_, _], _ => rfl
  have C5 : Cal K mg "_law_cell_at" f5 _ ["_law_script", "_law_k"] := ⟨PySem.W.mg_of X G a5, F5.kp, B5⟩
  have B6 := F6.binds (ps := ["_law_cell"]) fun _ _ _ _ _ _ us hl => match us, hl with | [_], _ => rfl
  have C6 : Cal K mg "_law_names" f6 _ ["_law_cell"] := ⟨PySem.W.mg_of X G a6, F6.kp, B6⟩
  have B7 := F7.binds (ps := ["_law_cell", "_law_names_here"]) fun _ _ _ _ _ _ us hl => match us, hl with | [_, _], _ => rfl
  have C7 : Cal K mg "_law_told" f7 _ ["_law_cell", "_law_names_here"] := ⟨PySem.W.mg_of X G a7, F7.kp, B7⟩
  have B8 := F8.binds (ps := ["_law_feed", "_law_many"]) fun _ _ _ _ _ _ us hl => match us, hl with | [_, _], _ => rfl
  have C8 : Cal K mg "_law_take" f8 _ ["_law_feed", "_law_many"] := ⟨PySem.W.mg_of X G a8, F8.kp, B8⟩
  have B9 := F9.binds (ps := ["_law_cell"]) fun _ _ _ _ _ _ us hl => match us, hl with | [_], _ => rfl
  have C9 : Cal K mg "_law_any_names" f9 _ ["_law_cell"] := ⟨PySem.W.mg_of X G a9, F9.kp, B9⟩
  have B10 := F10.binds (ps := ["_law_feed", "_law_some", "_law_sort"]) fun _ _ _ _ _ _ us hl => match us, hl with | [_, _, _], _ => rfl
  have C10 : Cal K mg "_law_any_row" f10 _ ["_law_feed", "_law_some", "_law_sort"] := ⟨PySem.W.mg_of X G a10, F10.kp, B10⟩
  have B11 := F11.binds (ps := ["_law_feed", "_law_own", "_law_most"]) fun _ _ _ _ _ _ us hl => match us, hl with | [_, _, _], _ => rfl
  have C11 : Cal K mg "_law_any_told" f11 _ ["_law_feed", "_law_own", "_law_most"] := ⟨PySem.W.mg_of X G a11, F11.kp, B11⟩
  have B12 := F12.binds (ps := ["_law_cell", "_law_names_here"]) fun _ _ _ _ _ _ us hl => match us, hl with | [_, _], _ => rfl
  have C12 : Cal K mg "_law_any_heads" f12 _ ["_law_cell", "_law_names_here"] := ⟨PySem.W.mg_of X G a12, F12.kp, B12⟩
  have B13 := F13.binds (ps := ["_law_script"]) fun _ _ _ _ _ _ us hl => match us, hl with | [_], _ => rfl
  have C13 : Cal K mg "_law_heads" f13 _ ["_law_script"] := ⟨PySem.W.mg_of X G a13, F13.kp, B13⟩
  have B14 := F14.binds (ps := ["_law_mixed", "_law_own"]) fun _ _ _ _ _ _ us hl => match us, hl with | [_, _], _ => rfl
  have C14 : Cal K mg "_law_condition" f14 _ ["_law_mixed", "_law_own"] := ⟨PySem.W.mg_of X G a14, F14.kp, B14⟩
  have B15 := F15.binds (ps := ["_law_way", "_law_mixed", "_law_head", "_law_heads_here"]) fun _ _ _ _ _ _ us hl => match us, hl with | [_, _, _, _], _ => rfl
  have C15 : Cal K mg "_law_plain" f15 _ ["_law_way", "_law_mixed", "_law_head", "_law_heads_here"] := ⟨PySem.W.mg_of X G a15, F15.kp, B15⟩
  have B16 := F16.binds (ps := ["_law_open_lists", "_law_cell", "_law_mixed", "_law_head", "_law_heads_here"]) fun _ _ _ _ _ _ us hl => match us, hl with | [_, _, _, _, _], _ => rfl
  have C16 : Cal K mg "_law_put" f16 _ ["_law_open_lists", "_law_cell", "_law_mixed", "_law_head", "_law_heads_here"] := ⟨PySem.W.mg_of X G a16, F16.kp, B16⟩
  have B17 := F17.binds (ps := ["_law_feed", "_law_head", "_law_heads_here"]) fun _ _ _ _ _ _ us hl => match us, hl with | [_, _, _], _ => rfl
  have C17 : Cal K mg "_law_any_plain" f17 _ ["_law_feed", "_law_head", "_law_heads_here"] := ⟨PySem.W.mg_of X G a17, F17.kp, B17⟩
  have B18 := F18.binds (ps := ["_law_open_lists", "_law_feed", "_law_head", "_law_heads_here"]) fun _ _ _ _ _ _ us hl => match us, hl with | [_, _, _, _], _ => rfl
  have C18 : Cal K mg "_law_any_put" f18 _ ["_law_open_lists", "_law_feed", "_law_head", "_law_heads_here"] := ⟨PySem.W.mg_of X G a18, F18.kp, B18⟩
  have B19 := F19.binds (ps := ["_law_script"]) fun _ _ _ _ _ _ us hl => match us, hl with | [_], _ => rfl
  have C19 : Cal K mg "_law_any_program" f19 _ ["_law_script"] := ⟨PySem.W.mg_of X G a19, F19.kp, B19⟩
  have B20 := F20.binds (ps := ["_law_script"]) fun _ _ _ _ _ _ us hl => match us, hl with | [_], _ => rfl
  have C20 : Cal K mg "_law_program" f20 _ ["_law_script"] := ⟨PySem.W.mg_of X G a20, F20.kp, B20⟩
  have B21 := F21.binds (ps := ["_law_deeds"]) fun _ _ _ _ _ _ us hl => match us, hl with | [_], _ => rfl
  have C21 : Cal K mg "_law_copy" f21 _ ["_law_deeds"] := ⟨PySem.W.mg_of X G a21, F21.kp, B21⟩
  have B22 := F22.binds (ps := ["_law_program_here"]) fun _ _ _ _ _ _ us hl => match us, hl with | [_], _ => rfl
  have C22 : Cal K mg "_law_copied" f22 _ ["_law_program_here"] := ⟨PySem.W.mg_of X G a22, F22.kp, B22⟩
  have B23 := F23.binds (ps := ["_law_deeds", "_law_head"]) fun _ _ _ _ _ _ us hl => match us, hl with | [_, _], _ => rfl
  have C23 : Cal K mg "_law_loops" f23 _ ["_law_deeds", "_law_head"] := ⟨PySem.W.mg_of X G a23, F23.kp, B23⟩
  have B24 := F24.binds (ps := ["_law_found"]) fun _ _ _ _ _ _ us hl => match us, hl with | [_], _ => rfl
  have C24 : Cal K mg "_law_is_path" f24 _ ["_law_found"] := ⟨PySem.W.mg_of X G a24, F24.kp, B24⟩
  have C : Con K mg w := {
    len := PySem.W.mg_none_of X G z1
    all := PySem.W.mg_none_of X G z2
    any := PySem.W.mg_none_of X G z3
    isi := PySem.W.mg_none_of X G z4
    list := PySem.W.mg_none_of X G z5
    int := PySem.W.mg_none_of X G z6
    bool := PySem.W.mg_none_of X G z7
    str := PySem.W.mg_none_of X G z8
    dict := PySem.W.mg_none_of X G z9
    sorted := PySem.W.mg_none_of X G z10
    set := PySem.W.mg_none_of X G z11
    sum := PySem.W.mg_none_of X G z12
    range := PySem.W.mg_none_of X G z13
    tuple := PySem.W.mg_none_of X G z14
    max := PySem.W.mg_none_of X G z15
    zip := PySem.W.mg_none_of X G z16
    min := PySem.W.mg_none_of X G z17
    enumerate := PySem.W.mg_none_of X G z18 }
  obtain ⟨_, _, kV, dc, pm, an, cd, ct, _, rfl, _, _⟩ := id F25.ex
  refine ⟨PySem.W.fnOf "law" "law" (defArgs sLaw) (defBody sLaw) (defScope sLaw) .none kV dc pm an cd ct, fun s v => .of_eq rfl, fun base _ _ => ?_⟩
  have O1 := ok_listsIn (P := l.prog) (base := base) C F1
  have O2 := ok_behind (P := l.prog) (base := base) C F2
  have s0 : FnOk l.prog w K mg base CX0 1 f3 d3 ["deeds", "ahead"] (spLoops K []) := ok_loops0
  have s1 := ok_loopsS (n := 0) (b := 24) (by decide) C F3 O1 C1 s0 C3
  have s2 := ok_loopsS (n := 1) (b := 24) (by decide) C F3 O1 C1 s1 C3
  have s3 := ok_loopsS (n := 2) (b := 24) (by decide) C F3 O1 C1 s2 C3
  have s4 := ok_loopsS (n := 3) (b := 24) (by decide) C F3 O1 C1 s3 C3
  have s5 := ok_loopsS (n := 4) (b := 24) (by decide) C F3 O1 C1 s4 C3
  have O4 := ok_begins (n := 5) (bs := List.replicate 5 24) (by decide) C F4 s5 C3 O2 C2
  have O5 := ok_cellAt (P := l.prog) (base := base) C F5
  have O8 := ok_take (P := l.prog) (w := w) (mg := mg) (base := base) F8
  have O6 := ok_names (P := l.prog) (base := base) C C.range F6
  have O9 := ok_anyNames C C.range F9 O8 C8
  have O7 := ok_told (P := l.prog) (base := base) C F7
  have O10 := ok_anyRow  C F10 O8 C8
  have O11 := ok_anyTold  C F11 O8 C8 O10 C10
  have O12 := ok_anyHeads  C F12 O8 C8
  have O13 := ok_heads  C F13 O5 C5 O12 C12 O9 C9 O6 C6
  have O14 := ok_cond (P := l.prog) (base := base) C F14
  have O15 := ok_plain (P := l.prog) (base := base) C F15
  have O16 := ok_put  C F16 O14 C14 O7 C7 O15 C15
  have O17 := ok_anyPlain  C F17 O8 C8
  have O18 := ok_anyPut  C F18 O8 C8 O10 C10 O11 C11 O17 C17
  have O19 := ok_anyProg  C F19 O5 C5 O13 C13 O18 C18 O11 C11 O8 C8
  have O20 := ok_prog  C F20 O19 C19 O5 C5 O13 C13 O16 C16 O7 C7
  have c0 : FnOk l.prog w K mg base CX0 1 f21 d21 ["_law_deeds"] (spCopy K []) := ok_copy0
  have c1 := ok_copyS (n := 0) (b := 24) (by decide) C F21 c0 C21
  have c2 := ok_copyS (n := 1) (b := 24) (by decide) C F21 c1 C21
  have c3 := ok_copyS (n := 2) (b := 24) (by decide) C F21 c2 C21
  have c4 := ok_copyS (n := 3) (b := 24) (by decide) C F21 c3 C21
  have c5 := ok_copyS (n := 4) (b := 24) (by decide) C F21 c4 C21
  have O22 := ok_copied (bs := List.replicate 5 24) C F22 c5 C21
  have k0 : FnOk l.prog w K mg base CX0 1 f23 d23 ["_law_deeds", "_law_head"] (spDue K []) := ok_due0
  have k1 := ok_dueS (n := 0) (b := 24) (by decide) C F23 k0 C23
  have k2 := ok_dueS (n := 1) (b := 24) (by decide) C F23 k1 C23
  have k3 := ok_dueS (n := 2) (b := 24) (by decide) C F23 k2 C23
  have k4 := ok_dueS (n := 3) (b := 24) (by decide) C F23 k3 C23
  have k5 := ok_dueS (n := 4) (b := 24) (by decide) C F23 k4 C23
  have O24 := ok_isPath (P := l.prog) (base := base) C F24
  exact ok_law C F25 O20 C20 O22 C22 k5 C23 O4 C4 O24 C24
theorem walk {l : PySem.W.OpenLaw} {q : Program} {loose : List Str} {XP : (Str → Option Value) → Heap → Prop} {YP : World → Heap → Prop} {d : DefRec} {K : Params → PySem.W.Frag} (hn : l.most = some 63) (hdf : d.params.defaults = [])
    (hY : ∀ (w : World) (h : Heap), YP w h → (K w.params).In h)
    (F : ∀ (w : World) (mg : Str → Option Value) (fa : Addr) (h : Heap), (K w.params).In h → h.Ns mainGlobals mg → mg d.name = some (.ref fa) →
      ∃ fd : FuncData, (∀ (s : Shared) (u : Value), BindsTo s fd ⟨[u], []⟩ [("_law_script", u)]) ∧ ∀ base : Heap, (K w.params).In base → base.Ns mainGlobals mg → FnOk l.prog w (K w.params) mg base CX0 8 fa fd ["_law_script"] (spLaw (K w.params))) :
    PySem.W.WalkO q loose XP YP l.row.toRowW d [] (fun f vs => PySem.call f vs) :=
  L2.walk_of (n := 63) (k := 8) (x := "_law_script") (CX := fun _ => CX0) (sp := fun w => spLaw (K w.params)) hn (by decide) hdf ⟨rfl, by decide, by decide⟩ hY F (fun _ _ a ns hl _ hS => ⟨a, ns, rfl, hS, fun _ => rfl⟩) fun _ _ _ _ _ z => z
end K43
open PySem PySem.W PyProof.Rows
set_option maxRecDepth 100000 in
set_option maxHeartbeats 0 in
theorem PySem.Challenge.cw_apart_k43_where_sections_begin_holds : PySem.Challenge.rw_apart_k43_where_sections_begin.Holds := by
  w_on; o_law; k_head; (case hw => w_witness2)
  k_fill
  refine K43.walk (l := PySem.Challenge.rw_apart_k43_where_sections_begin) rfl rfl (fun w h Y => PySem.W.kIn_of Y) ?F
  case F =>
    intro w mg fa h KX G hmg
    refine' K43.all_mk KX G hmg ?a1 ?F1 ?a2 ?F2 ?a3 ?F3 ?a4 ?F4 ?a5 ?F5 ?a6 ?F6 ?a7 ?F7 ?a8 ?F8 ?a9 ?F9 ?a10 ?F10 ?a11 ?F11 ?a12 ?F12 ?a13 ?F13 ?a14 ?F14 ?a15 ?F15 ?a16 ?F16 ?a17 ?F17 ?a18 ?F18 ?a19 ?F19 ?a20 ?F20 ?a21 ?F21 ?a22 ?F22 ?a23 ?F23 ?a24 ?F24 ?a25 ?F25 ?z1 ?z2 ?z3 ?z4 ?z5 ?z6 ?z7 ?z8 ?z9 ?z10 ?z11 ?z12 ?z13 ?z14 ?z15 ?z16 ?z17 ?z18
    (case a1 => k_is)
    (case F1 => (refine' L2.fun_mk ?l ?c ?k; (case l => k_is); (case c => k_is); (case k => k_is)))
    (case a2 => k_is)
    (case F2 => (refine' L2.fun_mk ?l ?c ?k; (case l => k_is); (case c => k_is); (case k => k_is)))
    (case a3 => k_is)
    (case F3 => (refine' L2.fun_mk ?l ?c ?k; (case l => k_is); (case c => k_is); (case k => k_is)))
    (case a4 => k_is)
    (case F4 => (refine' L2.fun_mk ?l ?c ?k; (case l => k_is); (case c => k_is); (case k => k_is)))
    (case a5 => k_is)
    (case F5 => (refine' L2.fun_mk ?l ?c ?k; (case l => k_is); (case c => k_is); (case k => k_is)))
    (case a6 => k_is)
    (case F6 => (refine' L2.fun_mk ?l ?c ?k; (case l => k_is); (case c => k_is); (case k => k_is)))
    (case a7 => k_is)
    (case F7 => (refine' L2.fun_mk ?l ?c ?k; (case l => k_is); (case c => k_is); (case k => k_is)))
    (case a8 => k_is)
    (case F8 => (refine' L2.fun_mk ?l ?c ?k; (case l => k_is); (case c => k_is); (case k => k_is)))
    (case a9 => k_is)
    (case F9 => (refine' L2.fun_mk ?l ?c ?k; (case l => k_is); (case c => k_is); (case k => k_is)))
    (case a10 => k_is)
    (case F10 => (refine' L2.fun_mk ?l ?c ?k; (case l => k_is); (case c => k_is); (case k => k_is)))
    (case a11 => k_is)
    (case F11 => (refine' L2.fun_mk ?l ?c ?k; (case l => k_is); (case c => k_is); (case k => k_is)))
    (case a12 => k_is)
    (case F12 => (refine' L2.fun_mk ?l ?c ?k; (case l => k_is); (case c => k_is); (case k => k_is)))
    (case a13 => k_is)
    (case F13 => (refine' L2.fun_mk ?l ?c ?k; (case l => k_is); (case c => k_is); (case k => k_is)))
    (case a14 => k_is)
    (case F14 => (refine' L2.fun_mk ?l ?c ?k; (case l => k_is); (case c => k_is); (case k => k_is)))
    (case a15 => k_is)
    (case F15 => (refine' L2.fun_mk ?l ?c ?k; (case l => k_is); (case c => k_is); (case k => k_is)))
    (case a16 => k_is)
    (case F16 => (refine' L2.fun_mk ?l ?c ?k; (case l => k_is); (case c => k_is); (case k => k_is)))
    (case a17 => k_is)
    (case F17 => (refine' L2.fun_mk ?l ?c ?k; (case l => k_is); (case c => k_is); (case k => k_is)))
    (case a18 => k_is)
    (case F18 => (refine' L2.fun_mk ?l ?c ?k; (case l => k_is); (case c => k_is); (case k => k_is)))
    (case a19 => k_is)
    (case F19 => (refine' L2.fun_mk ?l ?c ?k; (case l => k_is); (case c => k_is); (case k => k_is)))
    (case a20 => k_is)
    (case F20 => (refine' L2.fun_mk ?l ?c ?k; (case l => k_is); (case c => k_is); (case k => k_is)))
    (case a21 => k_is)
    (case F21 => (refine' L2.fun_mk ?l ?c ?k; (case l => k_is); (case c => k_is); (case k => k_is)))
    (case a22 => k_is)
    (case F22 => (refine' L2.fun_mk ?l ?c ?k; (case l => k_is); (case c => k_is); (case k => k_is)))
    (case a23 => k_is)
    (case F23 => (refine' L2.fun_mk ?l ?c ?k; (case l => k_is); (case c => k_is); (case k => k_is)))
    (case a24 => k_is)
    (case F24 => (refine' L2.fun_mk ?l ?c ?k; (case l => k_is); (case c => k_is); (case k => k_is)))
    (case a25 => k_is)
    (case F25 => (refine' L2.fun_mk ?l ?c ?k; (case l => k_is); (case c => k_is); (case k => k_is)))
    (case z1 => k_is)
    (case z2 => k_is)
    (case z3 => k_is)
    (case z4 => k_is)
    (case z5 => k_is)
    (case z6 => k_is)
    (case z7 => k_is)
    (case z8 => k_is)
    (case z9 => k_is)
    (case z10 => k_is)
    (case z11 => k_is)
    (case z12 => k_is)
    (case z13 => k_is)
    (case z14 => k_is)
    (case z15 => k_is)
    (case z16 => k_is)
    (case z17 => k_is)
    (case z18 => k_is)
