import PyProof.Rows.All
import Wide.All
import OpenK.AllK
import Wide.FinOn
import Lean
import PyProof.EqAt
import PyProof.EqKinds
import PyProof.TupleCall
import PySem.Challenge.RW_apart_k30_rests_of_covers
set_option Elab.async false
set_option linter.all false
set_option maxRecDepth 100000
namespace L2
open PySem PySem.Spec PyProof.Rows
abbrev Key := Sum Int Str
noncomputable def keyIs : Key → Value → Bool
  | .inl k, v => Value.isInt k v
  | .inr x, v => Value.isStrOf x v
noncomputable def keyH (w : World) : Key → Int
  | .inl k => hashInt k
  | .inr x => hashStr w x
theorem keyIs_shape : ∀ {k : Key} {v : Value}, keyIs k v = true → (∃ i t, k = Sum.inl i ∧ v = Value.int i t) ∨ (∃ x t, k = Sum.inr x ∧ v = Value.str x t)
  | .inl i, v, h => by
    obtain ⟨t, e⟩ := Value.isInt_shape (k := i) (v := v) h
    exact .inl ⟨i, t, rfl, e⟩
  | .inr x, v, h => by
    obtain ⟨t, e⟩ := Value.isStrOf_shape (x := x) (v := v) h
    exact .inr ⟨x, t, rfl, e⟩
theorem key_ll (a b : Int) : decide ((Sum.inl a : Key) = Sum.inl b) = (a == b) := by
  by_cases e : a = b
  · subst e; simp
  · have h : ¬ (Sum.inl a : Key) = Sum.inl b := fun q => e (Sum.inl.inj q)
    rw [decide_eq_false h]
    exact (beq_eq_false_iff_ne.mpr e).symm
theorem key_rr (a b : Str) : decide ((Sum.inr a : Key) = Sum.inr b) = decide (a = b) := by
  by_cases e : a = b
  · subst e; simp
  · have h : ¬ (Sum.inr a : Key) = Sum.inr b := fun q => e (Sum.inr.inj q)
    rw [decide_eq_false h, decide_eq_false e]
theorem key_lr (a : Int) (b : Str) : decide ((Sum.inl a : Key) = Sum.inr b) = false := decide_eq_false (fun q => nomatch q)
theorem key_rl (a : Str) (b : Int) : decide ((Sum.inr a : Key) = Sum.inl b) = false := decide_eq_false (fun q => nomatch q)
noncomputable def mixKind (prog : Program) (w : World) : PySem.KeyKind prog w Key where
  is := keyIs
  hash := keyH w
  inj := fun v a b ha hb => by
    rcases keyIs_shape ha with ⟨i, t, rfl, rfl⟩ | ⟨x, t, rfl, rfl⟩
    · rcases keyIs_shape hb with ⟨j, u, rfl, e⟩ | ⟨y, u, rfl, e⟩
      · injection e with e1 _; rw [e1]
      · exact nomatch e
    · rcases keyIs_shape hb with ⟨j, u, rfl, e⟩ | ⟨y, u, rfl, e⟩
      · exact nomatch e
      · injection e with e1 _; rw [e1]
  byValue := fun k v h => by
    rcases keyIs_shape h with ⟨i, t, rfl, rfl⟩ | ⟨x, t, rfl, rfl⟩ <;> rfl
  pyHash := fun hv h => by
    rcases keyIs_shape hv with ⟨i, t, rfl, rfl⟩ | ⟨x, t, rfl, rfl⟩
    · exact wpAny_pyHash_int h
    · exact wpAny_pyHash_str h
  eqBool := fun hu hv h => by
    rcases keyIs_shape hu with ⟨i, t, rfl, rfl⟩ | ⟨x, t, rfl, rfl⟩
    · rcases keyIs_shape hv with ⟨j, u, rfl, rfl⟩ | ⟨y, u, rfl, rfl⟩
      · rw [key_ll] at h; exact wpAny_eqBool_int h
      · rw [key_lr] at h; exact SeqAt.EqAt.int_str i t y u _ _ _ _ h
    · rcases keyIs_shape hv with ⟨j, u, rfl, rfl⟩ | ⟨y, u, rfl, rfl⟩
      · rw [key_rl] at h; exact SeqAt.EqAt.str_int x t j u _ _ _ _ h
      · rw [key_rr] at h; exact wpAny_eqBool_str h
  «strs» := fun k x t v h => by
    rcases keyIs_shape h with ⟨i, u, rfl, e⟩ | ⟨y, u, rfl, e⟩
    · exact nomatch e
    · injection e with e1 _
      subst e1
      cases v <;> rfl
end L2
namespace L2
open PySem PySem.Spec PyProof.Rows
inductive V where
  | non | bl (b : Bool) | int (i : Int) | str (x : Str) | byt (b : Array UInt8) | flt (b : UInt64) | ref (a : Addr) | ty (n : String)
  deriving DecidableEq
noncomputable def RelV : V → Value → Prop
  | .non, u => u = Value.none
  | .bl b, u => u = Value.bool b
  | .int i, u => ∃ t, u = Value.int i t
  | .str x, u => ∃ t, u = Value.str x t
  | .byt b, u => ∃ t, u = Value.bytes b t
  | .flt b, u => ∃ t, u = Value.float b t
  | .ref a, u => u = Value.ref a
  | .ty n, u => u = Value.type n
abbrev Vals : List V → List Value → Prop := Paired RelV
theorem Vals.length {xs : List V} {us : List Value} (r : Vals xs us) : xs.length = us.length := Paired.length r
theorem Vals.get : ∀ {xs : List V} {us : List Value} {i : Nat} {x : V}, Vals xs us → xs[i]? = some x → ∃ u, us[i]? = some u ∧ RelV x u
  | _, _, _, _, .nil, e => by simp at e
  | _, _, 0, _, .cons r _, e => by simp at e; subst e; exact ⟨_, rfl, r⟩
  | _, _, i + 1, x, .cons _ t, e => by
    obtain ⟨u, h1, h2⟩ := Vals.get (i := i) (x := x) t (by simpa using e)
    exact ⟨u, by simpa using h1, h2⟩
theorem Vals.append : ∀ {xs ys : List V} {us ws : List Value}, Vals xs us → Vals ys ws → Vals (xs ++ ys) (us ++ ws)
  | _, _, _, _, .nil, s => s
  | _, _, _, _, .cons r t, s => .cons r (Vals.append t s)
theorem Vals.take : ∀ {xs : List V} {us : List Value} (n : Nat), Vals xs us → Vals (xs.take n) (us.take n)
  | _, _, 0, _ => .nil
  | _, _, _ + 1, .nil => .nil
  | _, _, n + 1, .cons r t => .cons r (Vals.take n t)
theorem Vals.drop : ∀ {xs : List V} {us : List Value} (n : Nat), Vals xs us → Vals (xs.drop n) (us.drop n)
  | _, _, 0, r => r
  | _, _, _ + 1, .nil => .nil
  | _, _, n + 1, .cons _ t => Vals.drop n t
noncomputable def RelO : Option V → Option Value → Prop
  | some v, some u => RelV v u
  | none, none => True
  | _, _ => False
noncomputable def KV {κ : Type} : List (κ × V) → List (κ × Value) → Prop := Paired fun (p : κ × V) (q : κ × Value) => p.1 = q.1 ∧ RelV p.2 q.2
noncomputable def kV : Key → V
  | .inl i => .int i
  | .inr x => .str x
inductive HO where
  /-- a list -/
  | lst (xs : List V)
  /-- a tuple (never changes) -/
  | tup (xs : List V)
  /-- a dict whose keys are ints and texts; one whose keys are tuples of ints and texts (the empty one is both) -/
  | dK (kvs : List (Key × V)) | dT (kvs : List (List Key × V))
  /-- a set of ints: its members, its size -/
  | set (S : Int → Bool) (n : Nat)
  /-- an instance of the class at C, its dict at dx, its attributes -/
  | ins (C dx : Addr) (fs : List (Str × V))
  /-- the dict of the instance at x -/
  | own (x : Addr)
  /-- the dict of an exception -/
  | xd (fs : List (Str × V))
  /-- a bound method, f of x -/
  | met (f x : Addr)
  /-- a range object lo, lo + 1, .. below hi -/
  | rng (lo hi : Int)
  /-- a thing that is known to the object (the script; a dict while a loop walks it): read, never written while it is so -/
  | frz (o : Obj) (u : HO)
  /-- a code object's table -/
  | tbl (ps : Array Value)
  /-- any other thing, by what is true of its one object (a def of one's own: SetO a S n := HO.ext fun h => ..) -/
  | ext (φ : Heap → Prop)
abbrev Hp := Addr → Option HO
noncomputable def upd (H : Hp) (a : Addr) (o : HO) : Hp := fun b => if b = a then some o else H b
theorem upd_same {H : Hp} {a : Addr} {o : HO} : upd H a o a = some o := by unfold upd; rw [if_pos rfl]
theorem upd_ne {H : Hp} {a b : Addr} {o : HO} (h : b ≠ a) : upd H a o b = H b := by unfold upd; rw [if_neg h]
theorem ne_of_none {H : Hp} {a b : Addr} {o : HO} (h : H a = some o) (h' : H b = none) : a ≠ b := by
  intro e; subst e; rw [h] at h'; cases h'
section
variable (P : Program) (w : World)
noncomputable def ObjOk (H : Hp) (h : Heap) (a : Addr) : HO → Prop
  | .lst xs => xs.length ≤ sizeLine ∧ ∃ (its : List Value) (n : Nat), Vals xs its ∧ h.get? a = some { cls := .type "list", data := .seq its.toArray n }
  | .tup xs => xs.length ≤ sizeLine ∧ ∃ its : List Value, Vals xs its ∧ IsTup h a its.toArray
  | .dK kvs => kvs.length ≤ sizeLine ∧ (a == sysModules) = false ∧ ∃ vs, KV kvs vs ∧ h.DictOf (mixKind P w) a vs
  | .dT kvs => kvs.length ≤ sizeLine ∧ (a == sysModules) = false ∧ ∃ xs : List (List Key × Addr × Value),
      Paired (fun (p : List Key × V) (q : List Key × Addr × Value) => p.1 = q.1 ∧ H q.2.1 = some (.tup (p.1.map kV)) ∧ RelV p.2 q.2.2) kvs xs ∧
      ∃ o es ep, h.get? a = some o ∧ o.ExactDict ∧ o.data = .dict es ep ∧ es.toList = xs.map (entryOfKey (tupleKind (mixKind P w))) ∧ (xs.map (·.1)).Nodup
  | .set S n => h.SetOf (intKind P w) a S n
  | .ins C dx fs => H dx = some (.own a) ∧ fs.length ≤ 1000 ∧ dx ≠ a ∧ h.get? a = some (PySem.W.instObj C dx) ∧
      ∃ mA, h.Ns1 dx mA ∧ (∀ f, RelO (fs.lookup f) (mA f)) ∧ PySem.Within mA (fs.map (·.1))
  | .own _ => ∃ o, h.get? a = some o
  | .xd fs => ∃ mA, h.Ns1 a mA ∧ ∀ f, RelO (fs.lookup f) (mA f)
  | .rng lo hi => ∃ t u v, h.get? a = some { cls := .type "range", data := .fields #[.int lo t, .int hi u, .int 1 v] }
  | .frz o u => h.get? a = some o ∧ ObjOk H h a u
  | .tbl ps => h.get? a = some { cls := .none, data := .fields ps }
  | .met f x => h.get? a = some (PySem.W.methodObj (.ref f) (.ref x))
  | .ext φ => φ h ∧ (∃ o, h.get? a = some o) ∧ ∀ h1 h2 : Heap, φ h1 → (∀ o, h1.get? a = some o → h2.get? a = some o) → φ h2
noncomputable def HOk (H : Hp) (h : Heap) : Prop := ∀ a o, H a = some o → ObjOk P w H h a o
end
section
variable {P : Program} {w : World} {H H' : Hp} {h h' : Heap} {a : Addr} {o : HO}
theorem ObjOk.lt (x : ObjOk P w H h a o) : a < h.objs.size := by
  cases o with
  | lst xs => obtain ⟨_, _, _, _, e⟩ := x; exact Heap.lt_size e
  | tup xs => obtain ⟨_, _, _, p⟩ := x; exact p.lt
  | dK kvs => obtain ⟨_, _, _, _, o, _, _, e, _⟩ := x; exact Heap.lt_size e
  | dT kvs => obtain ⟨_, _, _, _, o, _, _, e, _⟩ := x; exact Heap.lt_size e
  | set S n => obtain ⟨o, _, _, _, e, _⟩ := x; exact Heap.lt_size e
  | ins C dx fs => obtain ⟨_, _, _, e, _⟩ := x; exact Heap.lt_size e
  | own y => obtain ⟨_, e⟩ := x; exact Heap.lt_size e
  | xd fs => obtain ⟨_, ⟨_, _, _, e, _⟩, _⟩ := x; exact Heap.lt_size e
  | rng lo hi => obtain ⟨_, _, _, e⟩ := x; exact Heap.lt_size e
  | frz ob u => obtain ⟨e, _⟩ := x; exact Heap.lt_size e
  | tbl ps => exact Heap.lt_size (show h.get? a = some _ from x)
  | met f y => exact Heap.lt_size (show h.get? a = some _ from x)
  | ext φ => obtain ⟨_, ⟨_, e⟩, _⟩ := x; exact Heap.lt_size e
theorem Paired.mapP {α β : Type} {F G : α → β → Prop} : ∀ {l₁ : List α} {l₂ : List β}, Paired F l₁ l₂ → (∀ a b, F a b → G a b) → Paired G l₁ l₂
  | _, _, .nil, _ => .nil
  | _, _, .cons r t, f => .cons (f _ _ r) (Paired.mapP t f)
theorem ObjOk.stay (x : ObjOk P w H h a o) (k : ∀ b u, (b = a ∨ H b = some (.own a)) → h.get? b = some u → h'.get? b = some u)
    (ho : ∀ b, H b = some (.own a) → H' b = some (.own a)) (ht : ∀ b xs, H b = some (.tup xs) → H' b = some (.tup xs)) : ObjOk P w H' h' a o := by
  induction o with
  | lst xs => obtain ⟨z, its, n, r, e⟩ := x; exact ⟨z, its, n, r, k _ _ (.inl rfl) e⟩
  | tup xs => obtain ⟨z, its, r, ob, e, c⟩ := x; exact ⟨z, its, r, ob, k _ _ (.inl rfl) e, c⟩
  | dK kvs => obtain ⟨z, y, vs, r, ob, es, ep, e, c⟩ := x; exact ⟨z, y, vs, r, ob, es, ep, k _ _ (.inl rfl) e, c⟩
  | dT kvs =>
    obtain ⟨z, y, xs, r, ob, es, ep, e, c⟩ := x
    exact ⟨z, y, xs, Paired.mapP r fun p q z => ⟨z.1, ht _ _ z.2.1, z.2.2⟩, ob, es, ep, k _ _ (.inl rfl) e, c⟩
  | set S n => obtain ⟨ob, es, ep, t, e, c⟩ := x; exact ⟨ob, es, ep, t, k _ _ (.inl rfl) e, c⟩
  | ins C dx fs =>
    obtain ⟨d, z, ne, e, mA, ⟨od, es, ep, e2, c⟩, r⟩ := x
    exact ⟨ho _ d, z, ne, k _ _ (.inl rfl) e, mA, ⟨od, es, ep, k _ _ (.inr d) e2, c⟩, r⟩
  | own y => obtain ⟨ob, e⟩ := x; exact ⟨ob, k _ _ (.inl rfl) e⟩
  | xd fs => obtain ⟨mA, ⟨od, es, ep, e, c⟩, r⟩ := x; exact ⟨mA, ⟨od, es, ep, k _ _ (.inl rfl) e, c⟩, r⟩
  | rng lo hi => obtain ⟨t, u, v, e⟩ := x; exact ⟨t, u, v, k _ _ (.inl rfl) e⟩
  | frz ob u ih => obtain ⟨e, q⟩ := x; exact ⟨k _ _ (.inl rfl) e, ih q⟩
  | tbl ps =>
    have e : h.get? a = some { cls := .none, data := .fields ps } := x
    show h'.get? a = some { cls := .none, data := .fields ps }
    exact k a _ (.inl rfl) e
  | met f y =>
    have e : h.get? a = some (PySem.W.methodObj (.ref f) (.ref y)) := x
    show h'.get? a = some (PySem.W.methodObj (.ref f) (.ref y))
    exact k a _ (.inl rfl) e
  | ext φ => obtain ⟨p, ⟨o, e⟩, st⟩ := x; exact ⟨st _ _ p fun o q => k _ _ (.inl rfl) q, ⟨o, k _ _ (.inl rfl) e⟩, st⟩
theorem HOk.lt (x : HOk P w H h) (e : H a = some o) : a < h.objs.size := (x a o e).lt
theorem HOk.fresh (x : HOk P w H h) (e : h.objs.size ≤ a) : H a = none := by
  cases q : H a with
  | none => rfl
  | some u => exact absurd (Nat.lt_of_lt_of_le (x.lt q) e) (Nat.lt_irrefl _)
theorem HOk.kept (x : HOk P w H h) (k : ∀ b u, h.get? b = some u → h'.get? b = some u) : HOk P w H h' := fun a o e =>
  (x a o e).stay (fun b u _ q => k b u q) (fun _ q => q) fun _ _ q => q
theorem HOk.laid (x : HOk P w H h) (k : ∀ b u, h.get? b = some u → h'.get? b = some u) (hp : h.objs.size ≤ a) (new : ObjOk P w (upd H a o) h' a o) : HOk P w (upd H a o) h' := fun b u e => by
  have hn := x.fresh hp
  by_cases hb : b = a
  · subst hb; rw [upd_same] at e; cases e; exact new
  · rw [upd_ne hb] at e
    exact (x b u e).stay (fun c v _ q => k c v q) (fun c q => by rw [upd_ne (ne_of_none q hn)]; exact q) fun c xs q => by rw [upd_ne (ne_of_none q hn)]; exact q
end
noncomputable def Rd (H : Hp) (a : Addr) (u : HO) : Prop := H a = some u ∨ ∃ o, H a = some (.frz o u)
theorem Rd.ok {P : Program} {w : World} {H : Hp} {h : Heap} {a : Addr} {u : HO} (r : Rd H a u) (x : HOk P w H h) : ObjOk P w H h a u := by
  rcases r with r | ⟨o, r⟩
  · exact x a u r
  · obtain ⟨_, q⟩ := x a _ r
    exact q
noncomputable def Mut : Option HO → Prop
  | some (.lst _) => True
  | some (.dK _) => True
  | some (.dT _) => True
  | some (.set _ _) => True
  | some (.ins _ _ _) => True
  | some (.ext _) => True
  | _ => False
section
variable {P : Program} {w : World} {H : Hp} {h h' : Heap} {x e : Addr} {o' : HO}
theorem HOk.write (ok : HOk P w H h) (mu : Mut (H x)) (he : e = x ∨ H e = some (.own x)) (k : ∀ b u, b ≠ e → h.get? b = some u → h'.get? b = some u) (heo : ∃ u, h'.get? e = some u)
    (new : ObjOk P w (upd H x o') h' x o') : HOk P w (upd H x o') h' := fun b u q => by
  have nown : ∀ c y, H c = some (.own y) → c ≠ x := fun c y r z => by subst z; rw [r] at mu; exact mu
  have ntup : ∀ c xs, H c = some (.tup xs) → c ≠ x := fun c xs r z => by subst z; rw [r] at mu; exact mu
  by_cases hb : b = x
  · subst hb; rw [upd_same] at q; cases q; exact new
  · rw [upd_ne hb] at q
    by_cases hbe : b = e
    · have q' : H b = some (.own x) := by
        rcases he with z | z
        · exact absurd (hbe.trans z) hb
        · rw [hbe]; exact z
      rw [q] at q'; cases q'
      obtain ⟨v, hv⟩ := heo
      exact ⟨v, by rw [hbe]; exact hv⟩
    · refine (ok b u q).stay (fun c v hc r => k c v ?_ r) (fun c r => by rw [upd_ne (nown c b r)]; exact r) fun c xs r => by rw [upd_ne (ntup c xs r)]; exact r
      rcases hc with rfl | hc
      · exact hbe
      · rintro rfl
        rcases he with z | z
        · exact nown c b hc z
        · rw [hc] at z; cases z; exact hb rfl
end
structure Un (fs ex : List Addr) (H H' : Hp) (h h' : Heap) : Prop where
  keep : ∀ b o, h.get? b = some o → H b = none → b ∉ fs → b ∉ ex → h'.get? b = some o
  slot : ∀ b o, h.get? b = some o → H b = none → b ∈ fs → b ∉ ex → ∃ sl, h'.get? b = some { o with slots := sl }
  free : ∀ b o, h.get? b = some o → H b = none → b ∉ ex → H' b = none
  there : ∀ b o, h.get? b = some o → b ∉ ex → ∃ o', h'.get? b = some o'
  tups : ∀ b xs, H b = some (.tup xs) → H' b = some (.tup xs)
  frzs : ∀ b o u, H b = some (.frz o u) → H' b = some (.frz o u)
  tbls : ∀ b ps, H b = some (.tbl ps) → ∃ more, H' b = some (.tbl (ps ++ more))
section
variable {fs fs' ex ex' : List Addr} {H H1 H2 : Hp} {h h1 h2 h' : Heap} {a x e : Addr} {o : HO}
theorem Un.any (u : Un fs ex H H1 h h1) {b : Addr} {ob : Obj} (q : h.get? b = some ob) (n : H b = none) (hx : b ∉ ex) : ∃ sl, h1.get? b = some { ob with slots := sl } := by
  by_cases hb : b ∈ fs
  · exact u.slot b ob q n hb hx
  · exact ⟨ob.slots, u.keep b ob q n hb hx⟩
theorem Un.kept (k : ∀ b u, h.get? b = some u → h'.get? b = some u) : Un fs ex H H h h' :=
  ⟨fun b ob q _ _ _ => k b ob q, fun b ob q _ _ _ => ⟨ob.slots, k b ob q⟩, fun _ _ _ n _ => n, fun b ob q _ => ⟨ob, k b ob q⟩, fun _ _ q => q, fun _ _ _ q => q, fun _ ps q => ⟨#[], by rw [q]; simp⟩⟩
theorem Un.refl : Un fs ex H H h h := Un.kept fun _ _ q => q
theorem Un.laid (k : ∀ b u, h.get? b = some u → h'.get? b = some u) (hp : h.objs.size ≤ a) (hn : H a = none) : Un fs ex H (upd H a o) h h' where
  keep := fun b u q _ _ _ => k b u q
  slot := fun b u q _ _ _ => ⟨u.slots, k b u q⟩
  free := fun b u q n _ => by rw [upd_ne (Nat.ne_of_lt (Nat.lt_of_lt_of_le (Heap.lt_size q) hp))]; exact n
  there := fun b u q _ => ⟨u, k b u q⟩
  tups := fun b xs q => by rw [upd_ne (ne_of_none q hn)]; exact q
  frzs := fun b u xs q => by rw [upd_ne (ne_of_none q hn)]; exact q
  tbls := fun b ps q => ⟨#[], by rw [upd_ne (ne_of_none q hn), q]; simp⟩
theorem Un.write (mu : Mut (H x)) (he : e = x ∨ H e = some (.own x)) (k : ∀ b u, b ≠ e → h.get? b = some u → h'.get? b = some u) (heo : ∃ u, h'.get? e = some u) : Un fs ex H (upd H x o) h h' := by
  have hx : ∀ b, H b = none → b ≠ x := fun b n z => by subst z; rw [n] at mu; exact mu
  have hb : ∀ b, H b = none → b ≠ e := fun b n z => by
    subst z
    rcases he with r | r
    · exact hx b n r
    · rw [n] at r; cases r
  have hm : ∀ b u, H b = some u → ¬ Mut (some u) → b ≠ x := fun b u q nm z => by subst z; rw [q] at mu; exact nm mu
  refine ⟨fun b u q n _ _ => k b u (hb b n) q, fun b u q n _ _ => ⟨u.slots, k b u (hb b n) q⟩, fun b u q n _ => by rw [upd_ne (hx b n)]; exact n, fun b u q _ => ?_,
    fun b xs q => by rw [upd_ne (hm b _ q fun z => z)]; exact q, fun b u xs q => by rw [upd_ne (hm b _ q fun z => z)]; exact q, fun b ps q => ⟨#[], by rw [upd_ne (hm b _ q fun z => z), q]; simp⟩⟩
  by_cases hbe : b = e
  · subst hbe; exact heo
  · exact ⟨u, k b u hbe q⟩
end
noncomputable def trk (h : Heap) (H : Hp) : List Addr := (List.range h.objs.size).filter fun a => (H a).isSome
noncomputable def hidT (h : Heap) (H : Hp) : Heap := PySem.W.hideAll h (trk h H)
theorem hidT_size (h : Heap) (H : Hp) : (hidT h H).objs.size = h.objs.size := PySem.W.hideAll_size _ _
theorem hidT_get {h : Heap} {H : Hp} {b : Addr} {o : Obj} (e : h.get? b = some o) (n : H b = none) : (hidT h H).get? b = some o :=
  PySem.W.hideAll_get _ e fun hm => by
    have q : (H b).isSome = true := (List.mem_filter.mp hm).2
    rw [n] at q; simp at q
theorem of_hidT {h : Heap} {H : Hp} {b : Addr} {o : Obj} (e : (hidT h H).get? b = some o) : h.get? b = some o ∧ H b = none := by
  have e' : h.get? b = some o := PySem.W.of_hideAll (trk h H) e
  refine ⟨e', ?_⟩
  cases q : H b with
  | none => rfl
  | some x =>
    have hm : b ∈ trk h H := List.mem_filter.mpr ⟨List.mem_range.mpr (Heap.lt_size e'), by simp [q]⟩
    have z : (hidT h H).get? b = none := PySem.W.hideAll_none (trk h H) hm
    rw [z] at e; cases e
noncomputable def allNews (g h : Heap) (L : Addr) : List (Addr × Obj) := (List.range h.objs.size).filterMap fun a => if a = L ∨ (g.get? a).isSome = true then none else (h.get? a).map fun o => (a, o)
noncomputable def rest (g h : Heap) (L d : Addr) : List (Addr × Obj) := (allNews g h L).filter fun p => decide (p.1 ≠ d)
end L2
namespace L2
open PySem PySem.Spec PyProof.Rows
structure Mod (K : PySem.W.Frag) (mg : Str → Option Value) (base : Heap) : Prop where
  kin : K.In base
  glob : base.Ns mainGlobals mg
  blt : ∃ mb, base.Ns builtinsNs mb ∧ ∀ x : Str, x ≠ "__name__" → mb x = bootBuiltins x
  nolimit : base.NoLimit
structure Cx where
  prog : Program
  w : World
  K : PySem.W.Frag
  mg : Str → Option Value
  base : Heap
  A : Around
  N : List Str
  s₀ : Shared
  H₀ : Hp
  env : Env
  outer : List Env
  stack : List Env
  ex : List Addr
  fn : Str → Bool
  calm : Bool
  pn : List (Addr × Obj)
  xe : Value → Shared → Prop
noncomputable def frs (l : List Env) : List Addr := l.filterMap (·.frame)
noncomputable abbrev Cx.fs (X : Cx) : List Addr := frs X.outer
noncomputable def Vis (sc : Scope) (x : Str) : Prop := sc.names.lookup x = some .local ∨ sc.names.lookup x = some .cell ∨ sc.names.lookup x = some .free
noncomputable def Loc (sc : Scope) (x : Str) : Prop := sc.names.lookup x = some .local ∨ sc.names.lookup x = some .cell
noncomputable def Look (env : Env) (h : Heap) (m : Str → Option Value) (x : Str) (u : Value) : Prop :=
  (env.kindOf x = some .local ∧ m x = some u) ∨ ((env.kindOf x = some .cell ∨ env.kindOf x = some .free) ∧ ∃ c, env.cells.lookup x = some c ∧ h.IsCell c (some u))
structure Cx.Ok (X : Cx) : Prop where
  mod : Mod X.K X.mg X.base
  kind : X.env.scope.kind = .function
  glob : X.env.globals = mainGlobals
  blt : X.env.builtins = builtinsNs
  above : X.s₀.heap.objs.size ≤ X.env.locals
  inj : ∀ x y c, X.env.cells.lookup x = some c → X.env.cells.lookup y = some c → x = y
  has : ∀ x, (X.env.kindOf x = some .cell ∨ X.env.kindOf x = some .free) → ∃ c, X.env.cells.lookup x = some c
  cab : ∀ x c, X.fn x = true → X.env.cells.lookup x = some c → X.s₀.heap.objs.size ≤ c
  hd : X.calm = true → X.A.handled = none
  frames : X.A.frames = some X.stack
  stk : X.stack = X.outer ∨ (X.stack = X.env :: X.outer ∧ X.env.frame = some X.env.locals)
  exf : ∀ b ∈ X.ex, b ≠ X.env.locals ∧ ∀ x c, X.env.cells.lookup x = some c → c ≠ b
  bs : ∀ b o, X.base.get? b = some o → X.s₀.heap.get? b = some o ∧ X.H₀ b = none
  bsz : X.base.objs.size ≤ X.s₀.heap.objs.size
  noex : ∀ b o, X.base.get? b = some o → b ∉ X.ex
  exfs : ∀ b ∈ X.ex, b ∉ X.fs
  funs : X.s₀.heap.FunFrames X.base X.outer
  frf : ∀ b ∈ X.fs, X.H₀ b = none
structure Inv (X : Cx) (pins : List (Addr × Obj)) (σ : List (Option V)) (H : Hp) (s : Shared) : Prop where
  ok : X.Ok
  os : s.os = X.s₀.os
  bare : AllBare s.gens
  base : Un X.fs X.ex X.H₀ H X.s₀.heap s.heap
  loc : ∃ m, s.heap.Ns X.env.locals m ∧ ∀ (i : Nat) (x : Str) (v : V), X.N[i]? = some x → σ[i]? = some (some v) → Vis X.env.scope x → ∃ u, RelV v u ∧ Look X.env s.heap m x u
  cell : ∀ x c, X.env.cells.lookup x = some c → ∃ v, s.heap.IsCell c v
  free : H X.env.locals = none
  freeC : ∀ x c, X.env.cells.lookup x = some c → H c = none
  pin : ∀ p ∈ X.pn ++ pins, s.heap.get? p.1 = some p.2 ∧ H p.1 = none ∧ p.1 ≠ X.env.locals ∧ p.1 ∉ X.fs ∧ ∀ v, p.2.data ≠ .cell v
  hok : HOk X.prog X.w H s.heap
  len : σ.length = X.N.length
section
variable {X : Cx} {pins : List (Addr × Obj)} {σ : List (Option V)} {H H' : Hp} {s : Shared} {h' : Heap}
theorem Cx.Ok.nofr (ok : X.Ok) {b : Addr} {o : Obj} (e : X.base.get? b = some o) : b ∉ X.fs := fun hb => by
  have := (ok.funs.mem hb).1
  rw [e] at this; cases this
theorem Inv.bs (I : Inv X pins σ H s) : ∀ b o, X.base.get? b = some o → s.heap.get? b = some o ∧ H b = none := fun b o e =>
  ⟨I.base.keep b o (I.ok.bs b o e).1 (I.ok.bs b o e).2 (I.ok.nofr e) (I.ok.noex b o e), I.base.free b o (I.ok.bs b o e).1 (I.ok.bs b o e).2 (I.ok.noex b o e)⟩
theorem Inv.bk (I : Inv X pins σ H s) : ∀ b o, X.base.get? b = some o → s.heap.get? b = some o := fun b o e => (I.bs b o e).1
theorem Inv.mod (I : Inv X pins σ H s) : Mod X.K X.mg X.base := I.ok.mod
theorem Inv.kIn (I : Inv X pins σ H s) : X.K.In s.heap := I.ok.mod.kin.keeps I.bk
theorem Inv.lt (I : Inv X pins σ H s) : X.env.locals < s.heap.objs.size := let ⟨_, hn, _⟩ := I.loc; hn.lt
theorem Inv.sz (I : Inv X pins σ H s) : X.s₀.heap.objs.size ≤ s.heap.objs.size := Nat.le_trans I.ok.above (Nat.le_of_lt I.lt)
theorem Inv.nofs (I : Inv X pins σ H s) {a : Addr} (h : s.heap.objs.size ≤ a) : a ∉ X.fs := fun hb => by
  obtain ⟨_, o, ho, _⟩ := I.ok.funs.mem hb
  exact absurd (Nat.lt_of_lt_of_le (Heap.lt_size ho) (Nat.le_trans I.sz h)) (Nat.lt_irrefl _)
theorem Inv.cne (I : Inv X pins σ H s) : ∀ x c, X.env.cells.lookup x = some c → c ≠ X.env.locals := fun x c e z => by
  obtain ⟨v, o, ho, hd⟩ := I.cell x c e
  obtain ⟨m, ⟨o', es, ep, ho', hd', _⟩, _⟩ := I.loc
  rw [z, ho'] at ho; cases ho; rw [hd'] at hd; cases hd
theorem Inv.funs (I : Inv X pins σ H s) : s.heap.FunFrames X.base X.outer := by
  have all : ∀ (l : List Env), (∀ b ∈ frs l, b ∈ X.fs) → X.s₀.heap.FunFrames X.base l → s.heap.FunFrames X.base l := by
    intro l
    induction l with
    | nil => intro _ _; trivial
    | cons env r ih =>
      intro hs hl
      obtain ⟨hk, ⟨L, o, hf, hn, ho, hd⟩, hr⟩ := hl
      have hL : L ∈ X.fs := hs L (by unfold frs; rw [List.filterMap_cons, hf]; exact List.mem_cons_self)
      obtain ⟨sl, e⟩ := I.base.slot L o ho (I.ok.frf L hL) hL fun z => I.ok.exfs L z hL
      exact ⟨hk, ⟨L, _, hf, hn, e, hd⟩, ih (fun b hb => hs b (by unfold frs; rw [List.filterMap_cons, hf]; exact List.mem_cons_of_mem _ hb)) hr⟩
  exact all X.outer (fun _ hb => hb) I.ok.funs
theorem Inv.stack (I : Inv X pins σ H s) : s.heap.FunFrames X.base X.stack := by
  rcases I.ok.stk with e | ⟨e, hf⟩
  · rw [e]; exact I.funs
  · rw [e]
    obtain ⟨m, hn, _⟩ := I.loc
    refine .cons (by rw [I.ok.kind]; decide) hf hn ?_ I.funs
    exact Heap.get?_none_of_le (Nat.le_trans I.ok.bsz I.ok.above)
theorem Inv.stkSub (I : Inv X pins σ H s) : ∀ b ∈ frs X.stack, b ∈ X.env.locals :: X.fs := fun b hb => by
  rcases I.ok.stk with e | ⟨e, hf⟩
  · rw [e] at hb; exact List.mem_cons_of_mem _ hb
  · rw [e] at hb
    unfold frs at hb
    rw [List.filterMap_cons, hf] at hb
    exact hb
theorem Inv.stkFree (I : Inv X pins σ H s) : ∀ b ∈ frs X.stack, H b = none := fun b hb => by
  rcases List.mem_cons.mp (I.stkSub b hb) with e | hb
  · rw [e]; exact I.free
  · obtain ⟨_, o, ho, _⟩ := I.ok.funs.mem hb
    exact I.base.free b o ho (I.ok.frf b hb) fun z => I.ok.exfs b z hb
theorem Inv.step {g' : Array GenState} {t' : Nat} {d' : Drawn} {ch : List Addr} (I : Inv X pins σ H s)
    (hch : ∀ b ∈ ch, (b ∈ X.ex ∨ X.s₀.heap.objs.size ≤ b) ∧ b ≠ X.env.locals ∧ (∀ x c, X.env.cells.lookup x = some c → c ≠ b) ∧ ∀ p ∈ X.pn ++ pins, p.1 ≠ b)
    (keep : ∀ b o, b ≠ X.env.locals → b ∉ X.fs → b ∉ ch → s.heap.get? b = some o → H b = none → h'.get? b = some o)
    (slot : ∀ b o, b ≠ X.env.locals → b ∈ X.fs → b ∉ ch → s.heap.get? b = some o → H b = none → ∃ sl, h'.get? b = some { o with slots := sl }) (free : ∀ b o, b ∉ ch → s.heap.get? b = some o → H b = none → H' b = none)
    (there : ∀ b o, b ∉ ch → s.heap.get? b = some o → ∃ o', h'.get? b = some o')
    (tups : ∀ b xs, H b = some (.tup xs) → H' b = some (.tup xs)) (frzs : ∀ b o u, H b = some (.frz o u) → H' b = some (.frz o u)) (tbls : ∀ b ps, H b = some (.tbl ps) → ∃ more, H' b = some (.tbl (ps ++ more)))
    (ns : ∀ m, s.heap.Ns X.env.locals m → h'.Ns X.env.locals m) (hok : HOk X.prog X.w H' h') (hg : AllBare g') :
    Inv X pins σ H' { s with heap := h', gens := g', drawn := d', toks := t' } := by
  have neL : ∀ b o, X.s₀.heap.get? b = some o → b ≠ X.env.locals := fun b o e => Nat.ne_of_lt (Nat.lt_of_lt_of_le (Heap.lt_size e) I.ok.above)
  have neC : ∀ b o, X.s₀.heap.get? b = some o → b ∉ X.ex → b ∉ ch := fun b o e hx hb => by
    rcases (hch b hb).1 with z | z
    · exact hx z
    · exact absurd (Nat.lt_of_lt_of_le (Heap.lt_size e) z) (Nat.lt_irrefl _)
  have cellK : ∀ x c, X.env.cells.lookup x = some c → ∀ v, s.heap.IsCell c v → h'.IsCell c v := fun x c e v ⟨o, ho, hd⟩ => by
    have nch : c ∉ ch := fun z => (hch c z).2.2.1 x c e rfl
    by_cases hc : c ∈ X.fs
    · obtain ⟨sl, q⟩ := slot c o (I.cne x c e) hc nch ho (I.freeC x c e)
      exact ⟨_, q, hd⟩
    · exact ⟨o, keep c o (I.cne x c e) hc nch ho (I.freeC x c e), hd⟩
  refine ⟨I.ok, I.os, hg, ⟨fun b o e n hb hx => ?_, fun b o e n hb hx => ?_, fun b o e n hx => ?_, fun b o e hx => ?_, fun b xs e => tups b xs (I.base.tups b xs e), fun b o xs e => frzs b o xs (I.base.frzs b o xs e), fun b ps e => ?_⟩, ?_, fun x c e => ?_, ?_, fun x c e => ?_, fun p hp => ?_, hok, I.len⟩
  · exact keep b o (neL b o e) hb (neC b o e hx) (I.base.keep b o e n hb hx) (I.base.free b o e n hx)
  · obtain ⟨sl, e1⟩ := I.base.slot b o e n hb hx
    obtain ⟨sl', e2⟩ := slot b _ (neL b o e) hb (neC b o e hx) e1 (I.base.free b o e n hx)
    exact ⟨sl', e2⟩
  · obtain ⟨o', e1⟩ := I.base.there b o e hx
    exact free b o' (neC b o e hx) e1 (I.base.free b o e n hx)
  · obtain ⟨o', e1⟩ := I.base.there b o e hx
    exact there b o' (neC b o e hx) e1
  · obtain ⟨m1, e1⟩ := I.base.tbls b ps e
    obtain ⟨m2, e2⟩ := tbls b _ e1
    exact ⟨m1 ++ m2, by rw [e2, Array.append_assoc]⟩
  · obtain ⟨m, hn, hl⟩ := I.loc
    refine ⟨m, ns m hn, fun i x v e1 e2 e3 => ?_⟩
    obtain ⟨u, r, l⟩ := hl i x v e1 e2 e3
    refine ⟨u, r, ?_⟩
    rcases l with l | ⟨k, c, e, z⟩
    · exact .inl l
    · exact .inr ⟨k, c, e, cellK x c e _ z⟩
  · obtain ⟨v, z⟩ := I.cell x c e
    exact ⟨v, cellK x c e v z⟩
  · obtain ⟨m, ⟨o, _, _, ho, _⟩, _⟩ := I.loc
    exact free _ o (fun z => (hch _ z).2.1 rfl) ho I.free
  · obtain ⟨v, o, ho, hd⟩ := I.cell x c e
    exact free c o (fun z => (hch c z).2.2.1 x c e rfl) ho (I.freeC x c e)
  · obtain ⟨e, n, ne, nf, d⟩ := I.pin p hp
    have nch : p.1 ∉ ch := fun z => (hch p.1 z).2.2.2 p hp rfl
    exact ⟨keep p.1 p.2 ne nf nch e n, free p.1 p.2 nch e n, ne, nf, d⟩
theorem Inv.un {t' : Nat} (I : Inv X pins σ H s) (u : Un X.fs [] H H' s.heap h') (hok : HOk X.prog X.w H' h') : Inv X pins σ H' { s with heap := h', toks := t' } := by
  obtain ⟨m, ⟨o, es, ep, ho, r⟩, _⟩ := id I.loc
  obtain ⟨sl, hL⟩ := u.any ho I.free (by simp)
  exact I.step (g' := s.gens) (d' := s.drawn) (ch := []) (fun _ z => nomatch z) (fun b o _ hb _ e n => u.keep b o e n hb (by simp)) (fun b o _ hb _ e n => u.slot b o e n hb (by simp)) (fun b o _ e n => u.free b o e n (by simp)) (fun b o _ e => u.there b o e (by simp)) u.tups u.frzs u.tbls (fun m' hm => by
    obtain ⟨o', es', ep', ho', r'⟩ := hm
    rw [ho] at ho'; cases ho'
    exact ⟨_, es', ep', hL, r'⟩) hok I.bare
theorem Inv.call {g' : Array GenState} {t' : Nat} {d' : Drawn} {ch : List Addr} (I : Inv X pins σ H s) (u : Un (frs X.stack) ch H H' s.heap h') (hok : HOk X.prog X.w H' h') (hg : AllBare g')
    (hch : ∀ b ∈ ch, (b ∈ X.ex ∨ X.s₀.heap.objs.size ≤ b) ∧ b ≠ X.env.locals ∧ (∀ x c, X.env.cells.lookup x = some c → c ≠ b) ∧ ∀ p ∈ X.pn ++ pins, p.1 ≠ b) :
    Inv X pins σ H' { s with heap := h', gens := g', drawn := d', toks := t' } := by
  obtain ⟨m, ⟨o, es, ep, ho, r⟩, _⟩ := id I.loc
  obtain ⟨sl, hL⟩ := u.any ho I.free fun z => (hch _ z).2.1 rfl
  exact I.step (ch := ch) hch (fun b o hL hb hc e n => u.keep b o e n (fun z => (List.mem_cons.mp (I.stkSub b z)).elim hL hb) hc) (fun b o _ _ hc e n => u.any e n hc) (fun b o hc e n => u.free b o e n hc) (fun b o hc e => u.there b o e hc) u.tups u.frzs u.tbls (fun m' hm => by
    obtain ⟨o', es', ep', ho', r'⟩ := hm
    rw [ho] at ho'; cases ho'
    exact ⟨_, es', ep', hL, r'⟩) hok hg
theorem Inv.turned {t' : Nat} {it : Addr} (I : Inv X pins σ H s) (k : ∀ b o, b ≠ it → s.heap.get? b = some o → h'.get? b = some o) (hn : H it = none) (hL : it ≠ X.env.locals)
    (h1 : it ∈ X.ex ∨ X.s₀.heap.objs.size ≤ it) (h2 : ∀ x c, X.env.cells.lookup x = some c → c ≠ it) (h3 : ∀ p ∈ X.pn ++ pins, p.1 ≠ it) : Inv X pins σ H { s with heap := h', toks := t' } := by
  have nit : ∀ b u, H b = some u → b ≠ it := fun b u e z => by rw [z, hn] at e; cases e
  refine I.step (g' := s.gens) (d' := s.drawn) (ch := [it]) (fun b hb => ?_) (fun b o _ _ hc e _ => k b o (fun z => hc (by simp [z])) e) (fun b o _ _ hc e _ => ⟨o.slots, k b o (fun z => hc (by simp [z])) e⟩) (fun _ _ _ _ n => n)
    (fun b o hc e => ⟨o, k b o (fun z => hc (by simp [z])) e⟩) (fun _ _ e => e) (fun _ _ _ e => e) (fun b ps e => ⟨#[], by rw [e]; simp⟩) (fun m hm => ?_) (fun b u e => ?_) I.bare
  · have e : b = it := by simpa using hb
    subst e
    exact ⟨h1, hL, h2, h3⟩
  · obtain ⟨o, es, ep, ho, r⟩ := hm
    exact ⟨o, es, ep, k _ o (Ne.symm hL) ho, r⟩
  · refine (I.hok b u e).stay (fun c v hc q => k c v ?_ q) (fun _ q => q) fun _ _ q => q
    rcases hc with z | z
    · rw [z]; exact nit b u e
    · exact nit c _ z
theorem Inv.tok (I : Inv X pins σ H s) (t : Nat) : Inv X pins σ H { s with toks := t } := I.un (h' := s.heap) (t' := t) Un.refl I.hok
theorem Inv.kept {t' : Nat} (I : Inv X pins σ H s) (k : ∀ b u, s.heap.get? b = some u → h'.get? b = some u) : Inv X pins σ H { s with heap := h', toks := t' } := I.un (Un.kept k) (I.hok.kept k)
theorem Inv.laid {a : Addr} {o : HO} {t' : Nat} (I : Inv X pins σ H s) (k : ∀ b u, s.heap.get? b = some u → h'.get? b = some u) (hp : s.heap.objs.size ≤ a) (new : ObjOk X.prog X.w (upd H a o) h' a o) :
    Inv X pins σ (upd H a o) { s with heap := h', toks := t' } := I.un (Un.laid k hp (I.hok.fresh hp)) (I.hok.laid k hp new)
theorem Inv.write {x e : Addr} {o : HO} {t' : Nat} (I : Inv X pins σ H s) (mu : Mut (H x)) (he : e = x ∨ H e = some (.own x)) (k : ∀ b u, b ≠ e → s.heap.get? b = some u → h'.get? b = some u) (heo : ∃ u, h'.get? e = some u)
    (new : ObjOk X.prog X.w (upd H x o) h' x o) : Inv X pins σ (upd H x o) { s with heap := h', toks := t' } := I.un (Un.write mu he k heo) (I.hok.write mu he k heo new)
theorem Inv.pins_of {pins' : List (Addr × Obj)} (I : Inv X pins σ H s) (h : ∀ p ∈ pins', s.heap.get? p.1 = some p.2 ∧ H p.1 = none ∧ p.1 ≠ X.env.locals ∧ p.1 ∉ X.fs ∧ ∀ v, p.2.data ≠ .cell v) : Inv X pins' σ H s :=
  ⟨I.ok, I.os, I.bare, I.base, I.loc, I.cell, I.free, I.freeC, fun p hp => (List.mem_append.mp hp).elim (fun z => I.pin p (List.mem_append_left _ z)) (h p), I.hok, I.len⟩
theorem nodup_ix {N : List Str} (hN : N.Nodup) {i j : Nat} {x : Str} (a : N[i]? = some x) (b : N[j]? = some x) : i = j := by
  obtain ⟨h1, e1⟩ := List.getElem?_eq_some_iff.mp a
  obtain ⟨h2, e2⟩ := List.getElem?_eq_some_iff.mp b
  exact (List.getElem_inj hN).mp (e1.trans e2.symm)
theorem store_ok2 {M : Model} {A : Around} {E : Value → Shared → Prop} {i : Nat} {x : Str} {v : V} {u : Value} {Q : Unit → Shared → Prop} (I : Inv X pins σ H s) (hN : X.N.Nodup) (hi : X.N[i]? = some x) (hx : Loc X.env.scope x) (r : RelV v u)
    (h : ∀ s', Inv X pins (σ.set i (some v)) H s' → (∃ a, Heap.SameBut a s.heap s'.heap ∧ (a = X.env.locals ∨ X.env.cells.lookup x = some a)) → Q () s') (hf : X.fn x = true ∨ X.env.scope.names.lookup x = some .local := by first | exact .inl rfl | exact .inr rfl | assumption) : wpAny M A (storeName X.env x u) Q E s := by
  obtain ⟨m, hn, hl⟩ := id I.loc
  have hcls : (X.env.scope.kind == .class || (X.env.scope.kind == .module && X.env.locals != X.env.globals)) = false := by rw [I.ok.kind]; rfl
  have hiσ : i < σ.length := by rw [I.len]; exact (List.getElem?_eq_some_iff.mp hi).1
  have cne := I.cne
  have tracked : ∀ {a : Addr} {h' : Heap}, (∃ o, s.heap.get? a = some o ∧ H a = none) → Heap.SameBut a s.heap h' → HOk X.prog X.w H h' := fun {a h'} ha hs b ob e => by
    obtain ⟨_, _, hfree⟩ := ha
    refine (I.hok b ob e).stay (fun c w' hc q => (hs.2 c ?_).trans q) (fun _ q => q) fun _ _ q => q
    rintro rfl
    rcases hc with rfl | hc
    · rw [hfree] at e; cases e
    · rw [hfree] at hc; cases hc
  rcases hx with hk | hk
  · refine wpAny_storeName_local hk hn (fun h' hn' hs => ?_) hcls
    obtain ⟨oL, _, _, hoL, _⟩ := id hn
    refine h _ ⟨I.ok, I.os, I.bare, ⟨fun b o e n hb hx => ?_, fun b o e n hb hx => ?_, I.base.free, fun b o e hx => ?_, I.base.tups, I.base.frzs, I.base.tbls⟩, ⟨_, hn', fun j y v' e1 e2 e3 => ?_⟩, fun y c e => ?_, I.free, I.freeC, fun p hp => ?_, tracked ⟨oL, hoL, I.free⟩ hs, by simpa using I.len⟩ ⟨_, hs, .inl rfl⟩
    · exact (hs.2 b (Nat.ne_of_lt (Nat.lt_of_lt_of_le (Heap.lt_size e) I.ok.above))).trans (I.base.keep b o e n hb hx)
    · obtain ⟨sl, e1⟩ := I.base.slot b o e n hb hx
      exact ⟨sl, (hs.2 b (Nat.ne_of_lt (Nat.lt_of_lt_of_le (Heap.lt_size e) I.ok.above))).trans e1⟩
    · obtain ⟨o', e1⟩ := I.base.there b o e hx
      exact ⟨o', (hs.2 b (Nat.ne_of_lt (Nat.lt_of_lt_of_le (Heap.lt_size e) I.ok.above))).trans e1⟩
    · by_cases hj : j = i
      · subst hj
        rw [hi] at e1; cases e1
        rw [List.getElem?_set_self hiσ] at e2
        cases e2
        exact ⟨u, r, .inl ⟨hk, by simp⟩⟩
      · rw [List.getElem?_set_ne (Ne.symm hj)] at e2
        obtain ⟨u', r', q⟩ := hl j y v' e1 e2 e3
        refine ⟨u', r', ?_⟩
        rcases q with ⟨k, e⟩ | ⟨k, c, e, z⟩
        · refine .inl ⟨k, ?_⟩
          have : y ≠ x := fun e => hj (nodup_ix hN e1 (e ▸ hi))
          simp [this, e]
        · exact .inr ⟨k, c, e, z.sameBut hs (cne y c e)⟩
    · obtain ⟨w', z⟩ := I.cell y c e
      exact ⟨w', z.sameBut hs (cne y c e)⟩
    · obtain ⟨e, n, ne, nf, d⟩ := I.pin p hp
      exact ⟨(hs.2 p.1 ne).trans e, n, ne, nf, d⟩
  · have hfn : X.fn x = true := by
      rcases hf with z | z
      · exact z
      · rw [z] at hk; cases hk
    obtain ⟨c, hc⟩ := I.ok.has x (.inl hk)
    obtain ⟨w', z⟩ := I.cell x c hc
    refine wpAny_storeName_cell I.ok.kind hk hc z (fun h' hc' hs => ?_)
    obtain ⟨oc, hoc, hocd⟩ := id z
    refine h { s with heap := h' } ⟨I.ok, I.os, I.bare, ⟨fun b o e n hb hx => ?_, fun b o e n hb hx => ?_, I.base.free, fun b o e hx => ?_, I.base.tups, I.base.frzs, I.base.tbls⟩, ⟨m, hn.sameBut hs (Ne.symm (cne x c hc)), fun j y v' e1 e2 e3 => ?_⟩, fun y c' e => ?_, I.free, I.freeC, fun p hp => ?_, tracked ⟨oc, hoc, I.freeC x c hc⟩ hs, by simpa using I.len⟩ ⟨c, hs, .inr hc⟩
    · exact (hs.2 b (Nat.ne_of_lt (Nat.lt_of_lt_of_le (Heap.lt_size e) (I.ok.cab x c hfn hc)))).trans (I.base.keep b o e n hb hx)
    · obtain ⟨sl, e1⟩ := I.base.slot b o e n hb hx
      exact ⟨sl, (hs.2 b (Nat.ne_of_lt (Nat.lt_of_lt_of_le (Heap.lt_size e) (I.ok.cab x c hfn hc)))).trans e1⟩
    · obtain ⟨o', e1⟩ := I.base.there b o e hx
      exact ⟨o', (hs.2 b (Nat.ne_of_lt (Nat.lt_of_lt_of_le (Heap.lt_size e) (I.ok.cab x c hfn hc)))).trans e1⟩
    · by_cases hj : j = i
      · subst hj
        rw [hi] at e1; cases e1
        rw [List.getElem?_set_self hiσ] at e2
        cases e2
        exact ⟨u, r, .inr ⟨.inl hk, c, hc, hc'⟩⟩
      · rw [List.getElem?_set_ne (Ne.symm hj)] at e2
        obtain ⟨u', r', q⟩ := hl j y v' e1 e2 e3
        refine ⟨u', r', ?_⟩
        rcases q with q | ⟨k, c', e, z'⟩
        · exact .inl q
        · refine .inr ⟨k, c', e, z'.sameBut hs ?_⟩
          rintro rfl
          exact hj (nodup_ix hN e1 (I.ok.inj _ _ _ e hc ▸ hi))
    · by_cases hcc : c' = c
      · subst hcc; exact ⟨_, hc'⟩
      · obtain ⟨w2, z2⟩ := I.cell y c' e
        exact ⟨w2, z2.sameBut hs hcc⟩
    · obtain ⟨e, n, ne, nf, d⟩ := I.pin p hp
      refine ⟨(hs.2 p.1 ?_).trans e, n, ne, nf, d⟩
      intro q
      rw [q, hoc] at e
      have q' : oc = p.2 := Option.some.inj e
      exact d w' (by rw [← q']; exact hocd)
theorem store_ok {M : Model} {A : Around} {E : Value → Shared → Prop} {i : Nat} {x : Str} {v : V} {u : Value} {Q : Unit → Shared → Prop} (I : Inv X pins σ H s) (hN : X.N.Nodup) (hi : X.N[i]? = some x) (hx : Loc X.env.scope x) (r : RelV v u)
    (h : ∀ s', Inv X pins (σ.set i (some v)) H s' → Q () s') (hf : X.fn x = true ∨ X.env.scope.names.lookup x = some .local := by first | exact .inl rfl | exact .inr rfl | assumption) : wpAny M A (storeName X.env x u) Q E s :=
  store_ok2 I hN hi hx r (fun s' I' _ => h s' I') hf
theorem Inv.call' {s' : Shared} {ch : List Addr} (I : Inv X pins σ H s) (ho : s'.os = s.os) (u : Un (frs X.stack) ch H H' s.heap s'.heap) (hok : HOk X.prog X.w H' s'.heap) (hg : AllBare s'.gens)
    (hch : ∀ b ∈ ch, (b ∈ X.ex ∨ X.s₀.heap.objs.size ≤ b) ∧ b ≠ X.env.locals ∧ (∀ x c, X.env.cells.lookup x = some c → c ≠ b) ∧ ∀ p ∈ X.pn ++ pins, p.1 ≠ b) : Inv X pins σ H' s' := by
  obtain ⟨h', g', d', t', o'⟩ := s'
  have e : o' = s.os := ho
  subst e
  exact I.call (g' := g') (t' := t') (d' := d') u hok hg hch
end
abbrev XK := Value → Option Addr → Hp → Prop
abbrev St := List (Option V)
abbrev VK := V → Hp → Prop
abbrev TE := St → Hp → VK → Prop
abbrev TT := St → Hp → (Bool → Hp → Prop) → Prop
abbrev TA := St → Hp → (List V → Hp → Prop) → Prop
structure Ends where
  nx : St → Hp → Prop
  rt : VK
  bk : St → Hp → Prop := fun _ _ => False
  ct : St → Hp → Prop := fun _ _ => False
abbrev TS := Ends → St → Hp → Prop
noncomputable def EP (X : Cx) (pins : List (Addr × Obj)) (σ : St) (Q : VK) (u : Value) (s' : Shared) : Prop := ∃ v H', Inv X pins σ H' s' ∧ RelV v u ∧ Q v H'
noncomputable def TP (X : Cx) (pins : List (Addr × Obj)) (σ : St) (Q : Bool → Hp → Prop) (b : Bool) (s' : Shared) : Prop := ∃ H', Inv X pins σ H' s' ∧ Q b H'
noncomputable def AP (X : Cx) (pins : List (Addr × Obj)) (σ : St) (Q : List V → Hp → Prop) (us : List Value) (s' : Shared) : Prop := ∃ vs H', Inv X pins σ H' s' ∧ Vals vs us ∧ Q vs H'
noncomputable def SP (X : Cx) (pins : List (Addr × Obj)) (D : Ends) (f : Flow) (s' : Shared) : Prop :=
  match f with
  | .next => ∃ σ' H', Inv X pins σ' H' s' ∧ D.nx σ' H'
  | .brk => ∃ σ' H', Inv X pins σ' H' s' ∧ D.bk σ' H'
  | .cont => ∃ σ' H', Inv X pins σ' H' s' ∧ D.ct σ' H'
  | .ret u => ∃ v σ' H', Inv X pins σ' H' s' ∧ RelV v u ∧ D.rt v H'
noncomputable def PE (X : Cx) (e : Expr) (t : TE) : Prop :=
  ∀ (pins : List (Addr × Obj)) (s : Shared) (σ : St) (H : Hp) (Q : VK), Inv X pins σ H s → t σ H Q → wpAny (model X.prog X.w) X.A (eval e X.env) (EP X pins σ Q) X.xe s
noncomputable def PT (X : Cx) (e : Expr) (t : TT) : Prop :=
  ∀ (pins : List (Addr × Obj)) (s : Shared) (σ : St) (H : Hp) (Q : Bool → Hp → Prop), Inv X pins σ H s → t σ H Q → wpAny (model X.prog X.w) X.A (isTrue e X.env (eval e X.env)) (TP X pins σ Q) X.xe s
noncomputable def PW (X : Cx) (e : Expr) (t : TT) : Prop :=
  ∀ (whole : Sem Value) (pins : List (Addr × Obj)) (s : Shared) (σ : St) (H : Hp) (Q : Bool → Hp → Prop), Inv X pins σ H s → t σ H Q → wpAny (model X.prog X.w) X.A (isTrue e X.env whole) (TP X pins σ Q) X.xe s
theorem PW.pt {X : Cx} {e : Expr} {t : TT} (h : PW X e t) : PT X e t := h _
noncomputable def PA (X : Cx) (es : List Expr) (t : TA) : Prop :=
  ∀ (pos : Pos) (pins : List (Addr × Obj)) (s : Shared) (σ : St) (H : Hp) (Q : List V → Hp → Prop), Inv X pins σ H s → t σ H Q → wpAny (model X.prog X.w) X.A (spliced (backTo pos (starEach es X.env))) (AP X pins σ Q) X.xe s
noncomputable def PS (X : Cx) (st : Stmt) (t : TS) : Prop :=
  ∀ (pins : List (Addr × Obj)) (s : Shared) (σ : St) (H : Hp) (D : Ends), Inv X pins σ H s → t D σ H → wpAny (model X.prog X.w) X.A (exec st X.env) (SP X pins D) X.xe s
noncomputable def PSs (X : Cx) (st : List Stmt) (t : TS) : Prop :=
  ∀ (pins : List (Addr × Obj)) (s : Shared) (σ : St) (H : Hp) (D : Ends), Inv X pins σ H s → t D σ H → wpAny (model X.prog X.w) X.A (execs st X.env) (SP X pins D) X.xe s
theorem thn {α : Type} {t : Sem α} {Q Q' : α → Shared → Prop} {M : Model} {A : Around} {E : Value → Shared → Prop} {s : Shared} (h : wpAny M A t Q E s) (hQ : ∀ a s, Q a s → Q' a s) : wpAny M A t Q' E s := wpAny_mono h hQ fun _ _ x => x
end L2
namespace L2
open PySem PySem.Spec PyProof.Rows
section
variable {X : Cx}
noncomputable def tVar (i : Nat) : TE := fun σ H Q => ∃ v, σ[i]? = some (some v) ∧ Q v H
noncomputable def tC (v : V) : TE := fun _ H Q => Q v H
theorem pe_var {i : Nat} {x : Str} {pos : Pos} (hN : X.N[i]? = some x) (hv : Vis X.env.scope x) (hd : (x == ("__debug__" : Str)) = false := by decide) (hcd : (x == ("__classdict__" : Str)) = false := by decide) : PE X (.Name x pos) (tVar i) := by
  intro pins s σ H Q I h
  obtain ⟨v, e, h⟩ := h
  obtain ⟨m, hn, hl⟩ := I.loc
  obtain ⟨u, r, l⟩ := hl i x v hN e hv
  have fin : EP X pins σ Q u s := ⟨v, H, I, r, h⟩
  rcases l with ⟨hk, hm⟩ | ⟨hk, c, hc, hcell⟩
  · exact wpAny_Name (wpAny_loadName_local I.ok.kind hk hn hm fin) hd
  · rcases hk with hk | hk
    · exact wpAny_Name (wpAny_loadName_cell I.ok.kind hk hc hcell fin) hd
    · exact wpAny_Name (wpAny_loadName_free I.ok.kind hk hc hcell fin hcd) hd
theorem pe_int {i j pos} : PE X (.Constant (.int i) j pos) (tC (.int i)) := fun _ _ _ H _ I h => wpAny_Constant_int ⟨.int i, H, I.tok _, ⟨_, rfl⟩, h⟩
theorem pe_bl {b j pos} : PE X (.Constant (.bool b) j pos) (tC (.bl b)) := fun _ _ _ H _ I h => Constant_bool ⟨.bl b, H, I, rfl, h⟩
theorem pe_str {x j pos} : PE X (.Constant (.str x) j pos) (tC (.str x)) := fun _ _ _ H _ I h => Calls.Constant_str ⟨.str x, H, I.tok _, ⟨_, rfl⟩, h⟩
noncomputable def Gl (X : Cx) (x : Str) : Prop := X.env.kindOf x = some .globalImplicit
theorem ld_glob {E : Value → Shared → Prop} {pins : List (Addr × Obj)} {s : Shared} {σ : St} {H : Hp} {x : Str} {u : Value} {pos : Pos} {Q : Value → Shared → Prop} (I : Inv X pins σ H s) (hg : Gl X x) (hm : X.mg x = some u) (h : Q u s)
    (hd : (x == ("__debug__" : Str)) = false := by decide) : wpAny (model X.prog X.w) X.A (eval (.Name x pos) X.env) Q E s :=
  Calls.Name_function_global I.ok.kind hg (Calls.loadGlobal_global (by rw [I.ok.glob]; exact I.mod.glob.keeps I.bk) hm h) hd
theorem ld_blt {E : Value → Shared → Prop} {pins : List (Addr × Obj)} {s : Shared} {σ : St} {H : Hp} {x : Str} {u : Value} {pos : Pos} {Q : Value → Shared → Prop} (I : Inv X pins σ H s) (hg : Gl X x) (hm : X.mg x = none) (hv : bootBuiltins x = some u) (h : Q u s)
    (hn : x ≠ "__name__" := by decide) (hd : (x == ("__debug__" : Str)) = false := by decide) : wpAny (model X.prog X.w) X.A (eval (.Name x pos) X.env) Q E s := by
  obtain ⟨mb, h1, h2⟩ := I.mod.blt
  exact Calls.Name_function_global I.ok.kind hg (Calls.loadGlobal_builtin (by rw [I.ok.glob]; exact I.mod.glob.keeps I.bk) hm (by rw [I.ok.blt]; exact h1.keeps I.bk) ((h2 x hn).trans hv) h) hd
theorem pe_bltn {x : Str} {v : V} {u : Value} {pos : Pos} (hg : Gl X x) (hm : X.mg x = none) (hv : bootBuiltins x = some u) (r : RelV v u) (hn : x ≠ "__name__" := by decide) (hd : (x == ("__debug__" : Str)) = false := by decide) : PE X (.Name x pos) (tC v) :=
  fun _ _ _ H _ I h => ld_blt I hg hm hv ⟨v, H, I, r, h⟩ hn hd
variable {a b : Expr} {ta tb : TE} {pos : Pos}
noncomputable def tB (t : TE) : TT := fun σ H Q => t σ H fun x H1 => ∃ c, x = .bl c ∧ Q c H1
theorem pt_val {e : Expr} {t : TE} (h : PE X e t) (he : ∀ whole, isTrue e X.env whole = (do let v ← whole; standAt e.pos; holding [v] (truthy v)) := by intro _; rfl) : PT X e (tB t) := by
  intro pins s σ H Q I hw
  refine isTrue_plain (thn (h pins s σ H _ I hw) fun v s1 ⟨x, H1, I1, r1, q1⟩ => ?_) (he _)
  obtain ⟨d, rfl, q⟩ := q1
  cases r1
  exact wpAny_truthy_bool ⟨H1, I1, q⟩
variable {tA tB' : TT} {rest : List Expr}
noncomputable def tAnd (t u : TT) : TT := fun σ H Q => t σ H fun c H1 => if c = true then u σ H1 Q else Q false H1
noncomputable def tOr (t u : TT) : TT := fun σ H Q => t σ H fun c H1 => if c = true then Q true H1 else u σ H1 Q
noncomputable def tNot (t : TT) : TT := fun σ H Q => t σ H fun c H1 => Q (!c) H1
theorem pw_and1 (ha : PT X a tA) : PW X (.BoolOp .And [a] pos) tA := by
  intro wh pins s σ H Q I h
  refine isTrue_and (thn (ha pins s σ H Q I h) fun c s1 e => ?_)
  cases c with
  | true => exact isTrue_and_nil e
  | false => exact e
theorem pw_or1 (ha : PT X a tA) : PW X (.BoolOp .Or [a] pos) tA := by
  intro wh pins s σ H Q I h
  refine isTrue_or (thn (ha pins s σ H Q I h) fun c s1 e => ?_)
  cases c with
  | false => exact isTrue_or_nil e
  | true => exact e
theorem pw_and (ha : PT X a tA) (hb : PW X (.BoolOp .And (b :: rest) pos) tB') : PW X (.BoolOp .And (a :: b :: rest) pos) (tAnd tA tB') := by
  intro wh pins s σ H Q I h
  refine isTrue_and (thn (ha pins s σ H _ I h) fun c s1 ⟨H1, I1, q1⟩ => ?_)
  cases c with
  | true => exact hb wh pins s1 σ H1 Q I1 q1
  | false => exact ⟨H1, I1, q1⟩
theorem pw_or (ha : PT X a tA) (hb : PW X (.BoolOp .Or (b :: rest) pos) tB') : PW X (.BoolOp .Or (a :: b :: rest) pos) (tOr tA tB') := by
  intro wh pins s σ H Q I h
  refine isTrue_or (thn (ha pins s σ H _ I h) fun c s1 ⟨H1, I1, q1⟩ => ?_)
  cases c with
  | true => exact ⟨H1, I1, q1⟩
  | false => exact hb wh pins s1 σ H1 Q I1 q1
theorem pt_not (ha : PT X a tA) : PT X (.UnaryOp .Not a pos) (tNot tA) := by
  intro pins s σ H Q I h
  exact isTrue_not (ha pins s σ H (fun c H1 => Q (!c) H1) I h)
end
end L2
namespace L2
open PySem PySem.Spec PyProof.Rows
noncomputable def SqL (K : PySem.W.Frag) (H : Hp) (a : Addr) (xs : List V) : Prop :=
  Rd H a (.lst xs) ∨
    ∃ (o : Obj) (its : Array Value) (n : Nat), K.lookup a = some o ∧ o.cls = .type "list" ∧ o.dict = none ∧ o.data = .seq its n ∧ its.size ≤ sizeLine ∧ Vals xs its.toList
noncomputable def SqT (K : PySem.W.Frag) (H : Hp) (a : Addr) (xs : List V) : Prop :=
  Rd H a (.tup xs) ∨
    ∃ (o : Obj) (its : Array Value) (n : Nat), K.lookup a = some o ∧ o.cls = .type "tuple" ∧ o.data = .seq its n ∧ its.size ≤ sizeLine ∧ Vals xs its.toList
noncomputable def absV : Value → Option V
  | .none => some .non
  | .bool b => some (.bl b)
  | .int i _ => some (.int i)
  | .str x _ => some (.str x)
  | .bytes b _ => some (.byt b)
  | .float b _ => some (.flt b)
  | .ref a => some (.ref a)
  | .type n => some (.ty n)
  | _ => none
theorem RelV.abs {x : V} {u : Value} (r : RelV x u) : absV u = some x := by
  cases x with
  | non => cases r; rfl
  | bl _ => cases r; rfl
  | int _ => obtain ⟨t, rfl⟩ := r; rfl
  | str _ => obtain ⟨t, rfl⟩ := r; rfl
  | byt _ => obtain ⟨t, rfl⟩ := r; rfl
  | flt _ => obtain ⟨t, rfl⟩ := r; rfl
  | ref _ => cases r; rfl
  | ty _ => cases r; rfl
theorem RelV.inj {x y : V} {u : Value} (r : RelV x u) (q : RelV y u) : x = y := Option.some.inj (r.abs.symm.trans q.abs)
theorem Vals.inj : ∀ {xs ys : List V} {us : List Value}, Vals xs us → Vals ys us → xs = ys
  | _, _, _, .nil, .nil => rfl
  | _, _, _, .cons r t, .cons r' t' => by rw [r.inj r', Vals.inj t t']
section
variable {X : Cx} {pins : List (Addr × Obj)} {σ : St} {H : Hp} {s : Shared} {a : Addr} {xs ys : List V}
theorem SqL.of {K : PySem.W.Frag} (h : H a = some (.lst xs)) : SqL K H a xs := .inl (.inl h)
theorem SqT.of {K : PySem.W.Frag} (h : H a = some (.tup xs)) : SqT K H a xs := .inl (.inl h)
theorem Inv.list (I : Inv X pins σ H s) (h : SqL X.K H a xs) : ∃ its : List Value, Vals xs its ∧ PlainL s.heap a its.toArray ∧ xs.length ≤ sizeLine := by
  rcases h with h | ⟨o, its, n, hk, hc, hd, hs, hz, r⟩
  · obtain ⟨z, its, n, r, e⟩ := h.ok I.hok
    exact ⟨its, r, ⟨_, n, e, rfl, rfl, rfl⟩, z⟩
  · refine ⟨its.toList, r, ⟨o, n, I.kIn a o hk, hc, hd, by simpa using hs⟩, ?_⟩
    have e := r.length
    simp only [Array.length_toList] at e
    lia
theorem Inv.tuple (I : Inv X pins σ H s) (h : SqT X.K H a xs) : ∃ its : List Value, Vals xs its ∧ IsTup s.heap a its.toArray ∧ xs.length ≤ sizeLine := by
  rcases h with h | ⟨o, its, n, hk, hc, hs, hz, r⟩
  · obtain ⟨z, its, r, p⟩ := h.ok I.hok
    exact ⟨its, r, p, z⟩
  · refine ⟨its.toList, r, ⟨o, I.kIn a o hk, hc, n, by simpa using hs⟩, ?_⟩
    have e := r.length
    simp only [Array.length_toList] at e
    lia
theorem Inv.list_inj (I : Inv X pins σ H s) (h : SqL X.K H a xs) (h' : SqL X.K H a ys) : xs = ys := by
  obtain ⟨its, r, ⟨o, n, e, _, _, d⟩, _⟩ := I.list h
  obtain ⟨its', r', ⟨o', n', e', _, _, d'⟩, _⟩ := I.list h'
  rw [e] at e'; cases e'
  rw [d] at d'
  injection d' with d1 _
  have : its = its' := by simpa using congrArg Array.toList d1
  subst this
  exact r.inj r'
theorem Inv.tuple_inj (I : Inv X pins σ H s) (h : SqT X.K H a xs) (h' : SqT X.K H a ys) : xs = ys := by
  obtain ⟨its, r, ⟨o, e, _, n, d⟩, _⟩ := I.tuple h
  obtain ⟨its', r', ⟨o', e', _, n', d'⟩, _⟩ := I.tuple h'
  rw [e] at e'; cases e'
  rw [d] at d'
  injection d' with d1 _
  have : its = its' := by simpa using congrArg Array.toList d1
  subst this
  exact r.inj r'
end
noncomputable abbrev Cx.wish (X : Cx) (E : Value → Shared → Prop) : Cx := { X with xe := E }
noncomputable abbrev Cx.nox (X : Cx) : Cx := X.wish fun _ _ => False
theorem Cx.Ok.wish {X : Cx} (ok : X.Ok) (E : Value → Shared → Prop) : (X.wish E).Ok :=
  ⟨ok.mod, ok.kind, ok.glob, ok.blt, ok.above, ok.inj, ok.has, ok.cab, ok.hd, ok.frames, ok.stk, ok.exf, ok.bs, ok.bsz, ok.noex, ok.exfs, ok.funs, ok.frf⟩
theorem Cx.Ok.unwish {X : Cx} {E : Value → Shared → Prop} (ok : (X.wish E).Ok) : X.Ok :=
  ⟨ok.mod, ok.kind, ok.glob, ok.blt, ok.above, ok.inj, ok.has, ok.cab, ok.hd, ok.frames, ok.stk, ok.exf, ok.bs, ok.bsz, ok.noex, ok.exfs, ok.funs, ok.frf⟩
section
variable {X : Cx} {pins : List (Addr × Obj)} {σ : St} {H : Hp} {s : Shared} {E : Value → Shared → Prop}
theorem Inv.wish (I : Inv X pins σ H s) (E : Value → Shared → Prop) : Inv (X.wish E) pins σ H s := ⟨I.ok.wish E, I.os, I.bare, I.base, I.loc, I.cell, I.free, I.freeC, I.pin, I.hok, I.len⟩
theorem Inv.unwish (I : Inv (X.wish E) pins σ H s) : Inv X pins σ H s := ⟨I.ok.unwish, I.os, I.bare, I.base, I.loc, I.cell, I.free, I.freeC, I.pin, I.hok, I.len⟩
theorem SP.unwish {D : Ends} {f : Flow} {s' : Shared} (h : SP (X.wish E) pins D f s') : SP X pins D f s' := by
  cases f with
  | next => obtain ⟨σ', H', I, q⟩ := h; exact ⟨σ', H', I.unwish, q⟩
  | brk => obtain ⟨σ', H', I, q⟩ := h; exact ⟨σ', H', I.unwish, q⟩
  | cont => obtain ⟨σ', H', I, q⟩ := h; exact ⟨σ', H', I.unwish, q⟩
  | ret u => obtain ⟨v, σ', H', I, r, q⟩ := h; exact ⟨v, σ', H', I.unwish, r, q⟩
theorem PSs.nox {st : List Stmt} {t : TS} (h : PSs X.nox st t) : PSs X st t := fun pins s σ H D I hw =>
  wpAny_mono (h pins s σ H D (I.wish _) hw) (fun _ _ q => q.unwish) fun _ _ z => False.elim z
end
section
variable {X : Cx} {st : Stmt} {rest : List Stmt} {t u : TS} {e : Expr} {te : TE} {pos : Pos}
noncomputable def tNext : TS := fun D σ H => D.nx σ H
noncomputable def tSeq (t u : TS) : TS := fun D σ H => t { D with nx := u D } σ H
theorem pss_nil : PSs X [] tNext := fun _ _ σ H _ I h => wpAny_execs_nil ⟨σ, H, I, h⟩
theorem pss_cons (h1 : PS X st t) (h2 : PSs X rest u) : PSs X (st :: rest) (tSeq t u) := by
  intro pins s σ H D I h
  refine wpAny_execs_cons (thn (h1 pins s σ H { D with nx := u D } I h) fun f s1 q => ?_)
  cases f with
  | next =>
    obtain ⟨σ', H', I', q⟩ := q
    exact h2 pins s1 σ' H' D I' q
  | ret v => exact q
  | brk => exact q
  | cont => exact q
theorem pss_one (h1 : PS X st t) : PSs X [st] t := by
  intro pins s σ H D I h
  refine wpAny_execs_cons (thn (h1 pins s σ H D I h) fun f s1 q => ?_)
  cases f with
  | next => exact wpAny_execs_nil q
  | ret v => exact q
  | brk => exact q
  | cont => exact q
noncomputable def tBreak : TS := fun D σ H => D.bk σ H
theorem ps_break : PS X (.Break pos) tBreak := fun _ _ σ H _ I h => wpAny_Break ⟨σ, H, I, h⟩
theorem Inv.quiet {pins : List (Addr × Obj)} {σ : St} {H : Hp} {s : Shared} (I : Inv X pins σ H s) : interactive X.env = false := by simp [interactive, I.ok.kind]
noncomputable def tDrop (te : TE) : TS := fun D σ H => te σ H fun _ H1 => D.nx σ H1
theorem ps_expr (he : PE X e te) (hs : swapsWith e none pos.line X.env = pure false := by rfl) : PS X (.Expr e pos) (tDrop te) := by
  intro pins s σ H D I h
  exact wpAny_Expr_any (thn (he pins s σ H _ I h) fun v s1 ⟨x, H1, I1, r1, q1⟩ => ⟨σ, H1, I1, q1⟩) I.quiet hs
noncomputable def tRet (te : TE) : TS := fun D σ H => te σ H D.rt
theorem ps_ret (he : PE X e te) : PS X (.Return (some e) pos) (tRet te) := by
  intro pins s σ H D I h
  exact wpAny_Return_some (thn (he pins s σ H _ I h) fun v s1 ⟨x, H1, I1, r1, q1⟩ => ⟨x, σ, H1, I1, r1, q1⟩)
noncomputable def tIfS (c : TT) (t u : TS) : TS := fun D σ H => c σ H fun b H1 => if b = true then t D σ H1 else u D σ H1
theorem ps_if {c : Expr} {a b : List Stmt} {tc : TT} (hc : PT X c tc) (ha : PSs X a t) (hb : PSs X b u) : PS X (.If c a b pos) (tIfS tc t u) := by
  intro pins s σ H D I h
  refine wpAny_If (thn (hc pins s σ H _ I h) fun d s1 ⟨H1, I1, q1⟩ => ?_)
  cases d with
  | true => exact ha pins s1 σ H1 D I1 q1
  | false => exact hb pins s1 σ H1 D I1 q1
end
abbrev TG := V → St → Hp → (St → Hp → Prop) → Prop
abbrev TGs := List V → St → Hp → (St → Hp → Prop) → Prop
noncomputable def PG (X : Cx) (target : Expr) (t : TG) : Prop :=
  ∀ (pins : List (Addr × Obj)) (s : Shared) (σ : St) (H : Hp) (v : V) (u : Value) (Q : St → Hp → Prop), Inv X pins σ H s → RelV v u → t v σ H Q →
    wpAny (model X.prog X.w) X.A (assign target X.env u) (fun _ s' => ∃ σ' H', Inv X pins σ' H' s' ∧ Q σ' H') X.xe s
noncomputable def PGs (X : Cx) (ts : List Expr) (t : TGs) : Prop :=
  ∀ (pins : List (Addr × Obj)) (s : Shared) (σ : St) (H : Hp) (vs : List V) (us : List Value) (Q : St → Hp → Prop), Inv X pins σ H s → Vals vs us → t vs σ H Q →
    wpAny (model X.prog X.w) X.A (assignInOrder ((assignEach ts X.env).map (·.2)) us) (fun _ s' => ∃ σ' H', Inv X pins σ' H' s' ∧ Q σ' H') X.xe s
section
variable {X : Cx} {pos : Pos}
noncomputable def gName (i : Nat) : TG := fun v σ H Q => Q (σ.set i (some v)) H
theorem pg_name {i : Nat} {x : Str} (hN : X.N.Nodup) (hi : X.N[i]? = some x) (hx : Loc X.env.scope x) (hf : X.fn x = true ∨ X.env.scope.names.lookup x = some .local := by first | exact .inl rfl | exact .inr rfl | assumption) : PG X (.Name x pos) (gName i) := by
  intro pins s σ H v u Q I r h
  exact wpAny_assign_Name (store_ok I hN hi hx r (fun s' I' => ⟨_, H, I', h⟩) hf)
noncomputable def gNil : TGs := fun vs σ H Q => vs = [] ∧ Q σ H
noncomputable def gCons (t : TG) (u : TGs) : TGs := fun vs σ H Q => ∃ v r, vs = v :: r ∧ t v σ H fun σ' H' => u r σ' H' Q
theorem pgs_nil : PGs X [] gNil := by
  intro pins s σ H vs us Q I r h
  obtain ⟨e, h⟩ := h
  subst e
  cases r
  exact assignInOrder_nil ⟨σ, H, I, h⟩
theorem pgs_cons {e : Expr} {es : List Expr} {t : TG} {u : TGs} (h1 : PG X e t) (h2 : PGs X es u)
    (hs : (assignEach (e :: es) X.env).map (·.2) = assign e X.env :: (assignEach es X.env).map (·.2) := by rfl) : PGs X (e :: es) (gCons t u) := by
  intro pins s σ H vs us Q I r h
  obtain ⟨v, vr, e1, h⟩ := h
  subst e1
  cases r with
  | cons r rr =>
    rw [hs]
    refine assignInOrder_cons (thn (h1 pins s σ H _ _ _ I r h) fun _ s1 ⟨σ1, H1, I1, q1⟩ => ?_)
    exact h2 pins s1 σ1 H1 _ _ Q I1 rr q1
noncomputable def gTup (K : PySem.W.Frag) (n : Nat) (t : TGs) : TG := fun v σ H Q => ∃ a xs, v = .ref a ∧ SqT K H a xs ∧ xs.length = n ∧ t xs σ H Q
theorem pg_tup {es : List Expr} {k : Nat} {t : TGs} {n : Nat} (hc : X.calm = true) (h : PGs X es t)
    (hn : (assignEach es X.env).length = n := by rfl) (hst : (assignEach es X.env).findIdx? (·.1) = none := by rfl) : PG X (.Tuple es k pos) (gTup X.K n t) := by
  intro pins s σ H v u Q I r hw
  obtain ⟨a, xs, e1, hq, hl, hw⟩ := hw
  subst e1
  cases r
  obtain ⟨its, rv, ht, hz⟩ := I.tuple hq
  refine assign_Tuple_tuple (I.ok.hd hc) ht (by simp [hn, ← hl, rv.length]) hst fun h' hx => ?_
  have I1 : Inv X pins σ H { s with heap := h' } := I.kept (t' := s.toks) fun b o e => hx b o (Nat.ne_of_lt (Heap.lt_size e)) e
  exact h pins _ σ H xs _ Q I1 (by simpa using rv) hw
noncomputable def tAsg (te : TE) (g : TG) : TS := fun D σ H => te σ H fun x H1 => g x σ H1 D.nx
theorem ps_set {i : Nat} {x : Str} {e : Expr} {te : TE} {pos' : Pos} (hN : X.N.Nodup) (hi : X.N[i]? = some x) (hx : Loc X.env.scope x) (he : PE X e te) (hs : swapsWith e (some (.Name x pos')) pos.line X.env = pure false := by rfl) (hf : X.fn x = true ∨ X.env.scope.names.lookup x = some .local := by first | exact .inl rfl | exact .inr rfl | assumption) :
    PS X (.Assign [.Name x pos'] e pos) (tAsg te (gName i)) := by
  intro pins s σ H D I h
  refine wpAny_Assign_Name (thn (he pins s σ H _ I h) fun v s1 ⟨y, H1, I1, r1, q1⟩ => ?_) hs
  exact store_ok I1 hN hi hx r1 (fun s2 I2 => ⟨_, H1, I2, q1⟩) hf
end
section
variable {X : Cx} {pos : Pos}
end
structure It where
  go : Nat → Hp → Prop
  yld : Nat → Hp → V → Hp → Prop
  stop : Nat → Hp → Prop
noncomputable def FpOk (X : Cx) (pins : List (Addr × Obj)) (H : Hp) (b : Addr) : Prop :=
  H b = none ∧ b ≠ X.env.locals ∧ b ∉ X.fs ∧ (b ∈ X.ex ∨ X.s₀.heap.objs.size ≤ b) ∧ (∀ x c, X.env.cells.lookup x = some c → c ≠ b) ∧ ∀ p ∈ X.pn ++ pins, p.1 ≠ b
theorem Inv.fpOk {X : Cx} {pins : List (Addr × Obj)} {σ : St} {H H' : Hp} {s : Shared} {b : Addr} (I : Inv X pins σ H s) (hb : s.heap.objs.size ≤ b) (hn : H' b = none) : FpOk X pins H' b := by
  refine ⟨hn, Nat.ne_of_gt (Nat.lt_of_lt_of_le I.lt hb), I.nofs hb, .inr (Nat.le_trans I.sz hb), fun x c e z => ?_, fun p hp z => ?_⟩
  · obtain ⟨v, q⟩ := I.cell x c e
    exact absurd (Nat.lt_of_lt_of_le q.lt (by rw [z]; exact hb)) (Nat.lt_irrefl _)
  · exact absurd (Nat.lt_of_lt_of_le (Heap.lt_size (I.pin p hp).1) (by rw [z]; exact hb)) (Nat.lt_irrefl _)
structure Turn (P : Program) (w : World) (K : PySem.W.Frag) (tg : Expr) (J : It) (fp : List Addr) (it : Addr) (tn : Nat → Heap → Prop) : Prop where
  mem : it ∈ fp
  obj : ∀ i h, tn i h → ∀ b ∈ fp, ∃ o, h.get? b = some o ∧ ∀ v, o.data ≠ .cell v
  keep : ∀ i h h', tn i h → (∀ b ∈ fp, ∀ o, h.get? b = some o → h'.get? b = some o) → tn i h'
  item : ∀ (X : Cx), X.prog = P → X.w = w → X.K = K → X.calm = true → ∀ (i : Nat) (pins : List (Addr × Obj)) (s : Shared) (σ : St) (H : Hp) (E : Value → Shared → Prop), Inv X pins σ H s → (∀ b ∈ fp, FpOk X pins H b) → tn i s.heap → J.go i H →
    wpAny (model P w) X.A (pyNext (.ref it)) (fun r s1 => ∃ u, r = some u ∧
      wpAny (model P w) X.A (letOwnedTupleGo tg (.ref it) u) (fun _ s2 => ∃ x H', Inv X pins σ H' s2 ∧ RelV x u ∧ J.yld i H x H' ∧ tn (i + 1) s2.heap ∧ ∀ b ∈ fp, H' b = none) E s1) E s
  done : ∀ (X : Cx), X.prog = P → X.w = w → X.K = K → X.calm = true → ∀ (i : Nat) (pins : List (Addr × Obj)) (s : Shared) (σ : St) (H : Hp) (E : Value → Shared → Prop), Inv X pins σ H s → (∀ b ∈ fp, FpOk X pins H b) → tn i s.heap → J.stop i H →
    wpAny (model P w) X.A (pyNext (.ref it)) (fun r s1 => r = none ∧ Inv X pins σ H s1) E s
  self : ∀ (A : Around) (i : Nat) (s : Shared) (Q : Value → Shared → Prop) (E : Value → Shared → Prop), tn i s.heap → Q (.ref it) s → wpAny (model P w) A (pyIter (.ref it)) Q E s
abbrev TI := St → Hp → (It → Hp → Prop) → Prop
noncomputable def PIE (X : Cx) (pins : List (Addr × Obj)) (σ : St) (tg : Expr) (R : It → Hp → Prop) (itv : Value) (s2 : Shared) : Prop :=
  ∃ (it : Addr) (fp : List Addr) (tn : Nat → Heap → Prop) (J : It) (H' : Hp), itv = .ref it ∧ Inv X pins σ H' s2 ∧ Turn X.prog X.w X.K tg J fp it tn ∧ tn 0 s2.heap ∧ (∀ b ∈ fp, FpOk X pins H' b) ∧ R J H'
noncomputable def PI (X : Cx) (tg iter : Expr) (wi : TI) : Prop :=
  ∀ (pins : List (Addr × Obj)) (s : Shared) (σ : St) (H : Hp) (R : It → Hp → Prop), Inv X pins σ H s → wi σ H R →
    wpAny (model X.prog X.w) X.A (eval iter X.env) (fun v s1 => wpAny (model X.prog X.w) X.A (pyIter v) (PIE X pins σ tg R) X.xe s1) X.xe s
theorem go_of {M : Model} {A : Around} {E : Value → Shared → Prop} {s : Shared} {tg : Expr} {it : Addr} {u : Value} {o : Obj} {n : String} {vs : Array Value} {Q : Unit → Shared → Prop} (ho : s.heap.get? it = some o) (hc : o.cls = .type n) (hd : o.data = .fields vs)
    (hn : ["enumerate", "zip", "dict_itemiterator", "dict_reverseitemiterator", "odict_iterator", "itertools.zip_longest", "itertools.pairwise"].contains n = false) (hQ : Q () s) : wpAny M A (letOwnedTupleGo tg (.ref it) u) Q E s := by
  unfold letOwnedTupleGo
  cases tg <;> first
    | exact wpAny_pure hQ
    | (cases u <;> first
        | exact wpAny_pure hQ
        | (refine wpAny_bind (wpAny_load ho ?_)
           rw [hc, hd]
           show wpAny M A (if (["enumerate", "zip", "dict_itemiterator", "dict_reverseitemiterator", "odict_iterator", "itertools.zip_longest", "itertools.pairwise"].contains n && vs[0]? == some (rawInt _)) = true then _ else _) Q E s
           rw [if_neg (by intro h; rw [hn, Bool.false_and] at h; cases h)]
           exact wpAny_pure hQ))
noncomputable def Itl (K : PySem.W.Frag) (a : Addr) : It :=
  ⟨fun i H => ∃ xs x, SqL K H a xs ∧ xs[i]? = some x, fun i H x H' => H' = H ∧ ∀ xs, SqL K H a xs → xs[i]? = some x, fun i H => ∃ xs, SqL K H a xs ∧ xs.length ≤ i⟩
noncomputable def Itt (K : PySem.W.Frag) (a : Addr) : It :=
  ⟨fun i H => ∃ xs x, SqT K H a xs ∧ xs[i]? = some x, fun i H x H' => H' = H ∧ ∀ xs, SqT K H a xs → xs[i]? = some x, fun i H => ∃ xs, SqT K H a xs ∧ xs.length ≤ i⟩
noncomputable def Itr (lo : Int) (n : Nat) : It := ⟨fun i _ => i < n, fun i H x H' => H' = H ∧ x = .int (lo + i), fun i _ => n ≤ i⟩
theorem turn_list {P : Program} {w : World} {K : PySem.W.Frag} {tg : Expr} (a it : Addr) : Turn P w K tg (Itl K a) [it] it (fun i h => h.IsListIter it a i) where
  mem := by simp
  obj := fun i h st b hb => by
    have e : b = it := by simpa using hb
    subst e
    obtain ⟨o, e, c, d⟩ := st
    exact ⟨o, e, fun v z => by rw [d] at z; cases z⟩
  keep := fun i h h' st k => st.at fun o e => k it (by simp) o e
  item := by
    intro X hP hw hK hc i pins s σ H E I hf st hg
    subst hP hw hK
    obtain ⟨xs, x, hq, hx⟩ := hg
    obtain ⟨its, rv, p, hz⟩ := I.list hq
    obtain ⟨u, hu, ru⟩ := rv.get hx
    obtain ⟨f0, f1, f2, f3, f4, f5⟩ := hf it (by simp)
    refine wpAny_pyNext_list_item st p.isList (x := u) (by simpa using hu) fun h' st' sb => ?_
    have I1 : Inv X pins σ H { s with heap := h' } := I.turned (t' := s.toks) (fun b o hb e => (sb.2 b hb).trans e) f0 f1 f3 f4 f5
    obtain ⟨o, e, c, d⟩ := id st'
    exact ⟨u, rfl, go_of (s := { s with heap := h' }) e c d (by decide) ⟨x, H, I1, ru, ⟨rfl, fun ys hy => by rw [I.list_inj hy hq]; exact hx⟩, st', fun b hb => (hf b hb).1⟩⟩
  done := by
    intro X hP hw hK hc i pins s σ H E I hf st hg
    subst hP hw hK
    obtain ⟨xs, hq, hx⟩ := hg
    obtain ⟨its, rv, p, hz⟩ := I.list hq
    obtain ⟨f0, f1, f2, f3, f4, f5⟩ := hf it (by simp)
    have hl := rv.length
    exact wpAny_pyNext_list_end (I.ok.hd hc) st p.isList (by simp; lia) fun h' eb => ⟨rfl, I.turned (t' := s.toks) (fun b o hb e => eb b o hb e) f0 f1 f3 f4 f5⟩
  self := fun _ _ _ _ _ st h => wpAny_pyIter_listiter st h
theorem turn_tuple {P : Program} {w : World} {K : PySem.W.Frag} {tg : Expr} (a it : Addr) : Turn P w K tg (Itt K a) [it] it (fun i h => h.IsTupleIter it a i) where
  mem := by simp
  obj := fun i h st b hb => by
    have e : b = it := by simpa using hb
    subst e
    obtain ⟨o, e, c, d⟩ := st
    exact ⟨o, e, fun v z => by rw [d] at z; cases z⟩
  keep := fun i h h' st k => st.at fun o e => k it (by simp) o e
  item := by
    intro X hP hw hK hc i pins s σ H E I hf st hg
    subst hP hw hK
    obtain ⟨xs, x, hq, hx⟩ := hg
    obtain ⟨its, rv, p, hz⟩ := I.tuple hq
    obtain ⟨u, hu, ru⟩ := rv.get hx
    obtain ⟨f0, f1, f2, f3, f4, f5⟩ := hf it (by simp)
    refine wpAny_pyNext_tuple_item st (show s.heap.IsTuple a its.toArray from p) (x := u) (by simpa using hu) fun h' st' sb => ?_
    have I1 : Inv X pins σ H { s with heap := h' } := I.turned (t' := s.toks) (fun b o hb e => (sb.2 b hb).trans e) f0 f1 f3 f4 f5
    obtain ⟨o, e, c, d⟩ := id st'
    exact ⟨u, rfl, go_of (s := { s with heap := h' }) e c d (by decide) ⟨x, H, I1, ru, ⟨rfl, fun ys hy => by rw [I.tuple_inj hy hq]; exact hx⟩, st', fun b hb => (hf b hb).1⟩⟩
  done := by
    intro X hP hw hK hc i pins s σ H E I hf st hg
    subst hP hw hK
    obtain ⟨xs, hq, hx⟩ := hg
    obtain ⟨its, rv, p, hz⟩ := I.tuple hq
    obtain ⟨f0, f1, f2, f3, f4, f5⟩ := hf it (by simp)
    have hl := rv.length
    exact wpAny_pyNext_tuple_end (I.ok.hd hc) st (show s.heap.IsTuple a its.toArray from p) (by simp; lia) fun h' eb => ⟨rfl, I.turned (t' := s.toks) (fun b o hb e => eb b o hb e) f0 f1 f3 f4 f5⟩
  self := fun _ _ _ _ _ st h => wpAny_pyIter_tupleiter st h
theorem turn_range {P : Program} {w : World} {K : PySem.W.Frag} {tg : Expr} (it : Addr) (lo : Int) (n : Nat) : Turn P w K tg (Itr lo n) [it] it (fun i h => IsRangeIter h it (lo + (i : Nat) * 1) ((n : Int) - (i : Nat)) 1) where
  mem := by simp
  obj := fun i h st b hb => by
    have e : b = it := by simpa using hb
    subst e
    exact ⟨_, st, fun v z => by
      have z' : Data.fields _ = Data.cell v := z
      cases z'⟩
  keep := fun i h h' st k => k it (by simp) _ st
  item := by
    intro X hP hw hK hc i pins s σ H E I hf st hg
    subst hP hw hK
    obtain ⟨f0, f1, f2, f3, f4, f5⟩ := hf it (by simp)
    have W := Walks.range (prog := X.prog) (w := X.w) (I.ok.hd hc) it lo 1 n
    refine W.item i s _ _ hg st fun v h' tk hv st' kk => ?_
    obtain ⟨t, rfl⟩ := hv
    have I1 : Inv X pins σ H { s with heap := h', toks := tk } := I.turned (fun b o hb e => kk b o (by simpa using hb) e) f0 f1 f3 f4 f5
    refine ⟨_, rfl, go_of (s := { s with heap := h', toks := tk }) (n := "range_iterator") st' rfl rfl (by decide) ⟨.int (lo + i), H, I1, ⟨t, ?_⟩, ⟨rfl, rfl⟩, st', fun b hb => (hf b hb).1⟩⟩
    rw [Int.mul_one]
  done := by
    intro X hP hw hK hc i pins s σ H E I hf st hg
    subst hP hw hK
    obtain ⟨f0, f1, f2, f3, f4, f5⟩ := hf it (by simp)
    exact wpAny_pyNext_range_end (I.ok.hd hc) st (by have : n ≤ i := hg; lia) fun h' eb => ⟨rfl, I.turned (t' := s.toks) (fun b o hb e => eb b o hb e) f0 f1 f3 f4 f5⟩
  self := fun _ _ _ _ _ st h => wpAny_pyIter_rangeiter st h
end L2
namespace L2
open PySem PySem.Spec PyProof.Rows
section
variable {X : Cx} {tg : Expr}
noncomputable def iList (K : PySem.W.Frag) (tl : TE) : TI := fun σ H R => tl σ H fun x H1 => ∃ a, x = .ref a ∧ (∃ xs, SqL K H1 a xs) ∧ R (Itl K a) H1
noncomputable def iTup (K : PySem.W.Frag) (tl : TE) : TI := fun σ H R => tl σ H fun x H1 => ∃ a, x = .ref a ∧ (∃ xs, SqT K H1 a xs) ∧ R (Itt K a) H1
theorem pi_list {l : Expr} {tl : TE} (hl : PE X l tl) : PI X tg l (iList X.K tl) := by
  intro pins s σ H R I h
  refine thn (hl pins s σ H _ I h) fun v s1 ⟨x, H1, I1, r1, q1⟩ => ?_
  obtain ⟨a, e, ⟨xs, hq⟩, q⟩ := q1
  subst e
  cases r1
  obtain ⟨its, rv, p, hz⟩ := I1.list hq
  refine wpAny_pyIter_list p.isList ?_
  refine ⟨s1.heap.objs.size, [s1.heap.objs.size], _, _, H1, rfl, I1.kept (t' := s1.toks) fun b o e => Heap.get?_push_of_some _ e, turn_list a _, ⟨_, Heap.get?_push_size _ rfl, rfl, rfl⟩, fun b hb => ?_, q⟩
  have e : b = s1.heap.objs.size := by simpa using hb
  subst e
  exact I1.fpOk (Nat.le_refl _) (I1.hok.fresh (Nat.le_refl _))
theorem pi_tup {l : Expr} {tl : TE} (hl : PE X l tl) : PI X tg l (iTup X.K tl) := by
  intro pins s σ H R I h
  refine thn (hl pins s σ H _ I h) fun v s1 ⟨x, H1, I1, r1, q1⟩ => ?_
  obtain ⟨a, e, ⟨xs, hq⟩, q⟩ := q1
  subst e
  cases r1
  obtain ⟨its, rv, p, hz⟩ := I1.tuple hq
  refine wpAny_pyIter_tuple (show s1.heap.IsTuple a its.toArray from p) ?_
  refine ⟨s1.heap.objs.size, [s1.heap.objs.size], _, _, H1, rfl, I1.kept (t' := s1.toks) fun b o e => Heap.get?_push_of_some _ e, turn_tuple a _, ⟨_, Heap.get?_push_size _ rfl, rfl, rfl⟩, fun b hb => ?_, q⟩
  have e : b = s1.heap.objs.size := by simpa using hb
  subst e
  exact I1.fpOk (Nat.le_refl _) (I1.hok.fresh (Nat.le_refl _))
theorem range_it {pins : List (Addr × Obj)} {σ : St} {H : Hp} {s : Shared} {R : It → Hp → Prop} {E : Value → Shared → Prop} {lo hi : Int} {t u v : Tok} {tk : Nat} (I : Inv X pins σ H s) (h1 : -(2 ^ 62) ≤ lo) (h2 : lo < 2 ^ 62) (h3 : -(2 ^ 62) ≤ hi) (h4 : hi < 2 ^ 62)
    (q : R (Itr lo (hi - lo).toNat) H) : wpAny (model X.prog X.w) X.A (pyIter (.ref s.heap.objs.size)) (PIE X pins σ tg R) E { s with heap := s.heap.push { cls := .type "range", data := .fields #[.int lo t, .int hi u, .int 1 v] }, toks := tk } := by
  refine wpAny_pyIter_range (IsRange.new ..) (small_one h1 h2 h3 h4) ?_
  have I1 : Inv X pins σ H { s with heap := s.heap.push { cls := .type "range", data := .fields #[.int lo t, .int hi u, .int 1 v] }, toks := tk } := I.kept fun b o e => Heap.get?_push_of_some _ e
  refine ⟨(s.heap.push { cls := .type "range", data := .fields #[.int lo t, .int hi u, .int 1 v] }).objs.size, [(s.heap.push { cls := .type "range", data := .fields #[.int lo t, .int hi u, .int 1 v] }).objs.size], _, _, H, rfl,
    I1.kept (t' := tk) fun b o e => Heap.get?_push_of_some _ e, turn_range _ lo (hi - lo).toNat, ?_, fun b hb => ?_, q⟩
  · have e1 : lo + ((0 : Nat) : Int) * 1 = lo := by simp
    have e2 : (((hi - lo).toNat : Nat) : Int) - ((0 : Nat) : Int) = Builtin.Range.rangeSize lo hi 1 := by rw [rangeSize_one]; split <;> lia
    show IsRangeIter _ _ (lo + ((0 : Nat) : Int) * 1) ((((hi - lo).toNat : Nat) : Int) - ((0 : Nat) : Int)) 1
    rw [e1, e2]
    exact Heap.get?_push_size _ rfl
  · have e : b = (s.heap.push { cls := .type "range", data := .fields #[.int lo t, .int hi u, .int 1 v] }).objs.size := by simpa using hb
    subst e
    exact I1.fpOk (Nat.le_refl _) (I1.hok.fresh (Nat.le_refl _))
noncomputable def iRng1 (ta : TA) : TI := fun σ H R => ta σ H fun vs H1 => ∃ j : Int, vs = [.int j] ∧ -(2 ^ 62) ≤ j ∧ j < 2 ^ 62 ∧ R (Itr 0 j.toNat) H1
theorem pi_range1 {a : Expr} {ta : TA} {p pos : Pos} (hg : Gl X "range") (hm : X.mg "range" = none) (ha : PA X [a] ta) (hs : starEach [a] X.env = [(false, eval a X.env)] := by rfl) : PI X tg (.Call (.Name "range" p) [a] [] pos) (iRng1 ta) := by
  intro pins s σ H R I h
  refine Call_ (ld_blt I hg hm boot_range (PyProof.Rows.callWith_type1 (thn (ha pos pins s σ H _ I h) fun us s1 ⟨vs, H1, I1, r1, q1⟩ => ?_) hs rfl))
  obtain ⟨j, e, q1, q2, q⟩ := q1
  subst e
  cases r1 with
  | cons r rr =>
    cases rr
    obtain ⟨t, rfl⟩ := r
    exact call_range_1 (range_it I1 (by lia) (by lia) q1 q2 (by simpa using q))
noncomputable def tFor (wi : TI) (g : TG) (tb : TS) : TS := fun D σ H => wi σ H fun J H1 => ∃ W : Nat → Nat → St → Hp → Prop, (∃ m, W 0 m σ H1) ∧ ∀ i m σ H, W i m σ H →
  (J.stop i H ∧ D.nx σ H) ∨ (J.go i H ∧ ∃ N : St → Hp → Prop, (∀ σ' H', N σ' H' → ∃ m', m' < m ∧ W (i + 1) m' σ' H') ∧ ∀ x H', J.yld i H x H' → g x σ H' fun σ2 H2 => tb { D with nx := N, ct := N, bk := D.nx } σ2 H2)
noncomputable def pinsAt (fp : List Addr) (h : Heap) : List (Addr × Obj) := fp.filterMap fun b => (h.get? b).map fun o => (b, o)
theorem mem_pinsAt {fp : List Addr} {h : Heap} {b : Addr} {o : Obj} (hb : b ∈ fp) (e : h.get? b = some o) : (b, o) ∈ pinsAt fp h := List.mem_filterMap.mpr ⟨b, hb, by rw [e]; rfl⟩
theorem of_pinsAt {fp : List Addr} {h : Heap} {p : Addr × Obj} (hp : p ∈ pinsAt fp h) : p.1 ∈ fp ∧ h.get? p.1 = some p.2 := by
  obtain ⟨b, hb, e⟩ := List.mem_filterMap.mp hp
  cases q : h.get? b with
  | none => rw [q] at e; cases e
  | some o =>
    rw [q] at e
    have e' : (b, o) = p := Option.some.inj e
    subst e'
    exact ⟨hb, q⟩
theorem Inv.pinned {pins : List (Addr × Obj)} {σ : St} {H : Hp} {s : Shared} {fp : List Addr} (I : Inv X pins σ H s) (hf : ∀ b ∈ fp, FpOk X pins H b) (ho : ∀ b ∈ fp, ∃ o, s.heap.get? b = some o ∧ ∀ v, o.data ≠ .cell v) : Inv X (pins ++ pinsAt fp s.heap) σ H s :=
  I.pins_of fun p hp => (List.mem_append.mp hp).elim (fun z => I.pin p (List.mem_append_right _ z)) fun z => by
    obtain ⟨hb, e⟩ := of_pinsAt z
    obtain ⟨f0, f1, f2, _⟩ := hf p.1 hb
    obtain ⟨o, e', d⟩ := ho p.1 hb
    rw [e] at e'; cases e'
    exact ⟨e, f0, f1, f2, d⟩
theorem Inv.unpinned {pins pl : List (Addr × Obj)} {σ : St} {H : Hp} {s : Shared} (I : Inv X (pins ++ pl) σ H s) : Inv X pins σ H s := I.pins_of fun p hp => I.pin p (List.mem_append_right _ (List.mem_append_left _ hp))
theorem ps_for {iter : Expr} {body : List Stmt} {wi : TI} {g : TG} {tb : TS} {pos : Pos} (hp : PassesOwn (model X.prog X.w) X.A X.env X.xe) (hc : X.calm = true) (hi : PI X tg iter wi) (hg : PG X tg g) (hb : PSs X body tb)
    (hs : ∀ x, foldedSetIterable iter X.env x = pure x := by intro _; rfl) : PS X (.For tg iter body [] pos) (tFor wi g tb) := by
  intro pins s σ H D I h
  refine wpAny_For (thn (hi pins s σ H _ I h) fun v s1 h1 => thn h1 fun itv s2 h2 => ?_) hs
  obtain ⟨it, fp, tn, J, H2, e, I2, T, st2, f2, W, ⟨m0, w0⟩, turn⟩ := h2
  subst e
  have stat : ∀ {H' : Hp}, (∀ b ∈ fp, H' b = none) → ∀ b ∈ fp, FpOk X pins H' b := fun hn b hb => ⟨hn b hb, (f2 b hb).2⟩
  refine codeAny_forLoop_any (fun n s' => ∃ i σ' H', Inv X pins σ' H' s' ∧ tn i s'.heap ∧ (∀ b ∈ fp, H' b = none) ∧ W i n σ' H') ?_ m0 ⟨0, σ, H2, I2, st2, fun b hb => (f2 b hb).1, w0⟩
  rintro n s3 ⟨i, σ3, H3, I3, st3, fr3, w3⟩
  rcases turn i n σ3 H3 w3 with ⟨stop, qn⟩ | ⟨go, N, hN, step⟩
  · refine wpAny_passesOwn hp (thn (T.done X rfl rfl rfl hc i pins s3 σ3 H3 X.xe I3 (stat fr3) st3 stop) fun r s4 ⟨hr, I4⟩ => ?_)
    subst hr
    exact wpAny_execs_nil ⟨σ3, H3, I4, qn⟩
  · refine wpAny_passesOwn hp (thn (T.item X rfl rfl rfl hc i pins s3 σ3 H3 X.xe I3 (stat fr3) st3 go) fun r s4 ⟨u, hr, h4⟩ => ?_)
    subst hr
    refine wpAny_passesOwn hp (thn h4 fun _ s5 ⟨x, H5, I5, r5, y5, st5, fr5⟩ => ?_)
    have I5' := I5.pinned (stat fr5) (T.obj _ _ st5)
    refine wpAny_passesOwn hp (thn (hg _ s5 σ3 H5 x u _ I5' r5 (step x H5 y5)) fun _ s6 ⟨σ6, H6, I6, q6⟩ => ?_)
    refine wpAny_passesOwn hp (thn (hb _ s6 σ6 H6 _ I6 q6) fun f s7 q7 => ?_)
    have again : ∀ {σ7 : St} {H7 : Hp}, Inv X (pins ++ pinsAt fp s5.heap) σ7 H7 s7 → N σ7 H7 → ∃ m, m < n ∧ ∃ i σ' H', Inv X pins σ' H' s7 ∧ tn i s7.heap ∧ (∀ b ∈ fp, H' b = none) ∧ W i m σ' H' := fun {σ7 H7} I7 n7 => by
      obtain ⟨m', hm, w7⟩ := hN σ7 H7 n7
      refine ⟨m', hm, i + 1, σ7, H7, I7.unpinned, T.keep _ _ _ st5 fun b hb o e => (I7.pin (b, o) (List.mem_append_right _ (List.mem_append_right _ (mem_pinsAt hb e)))).1, fun b hb => ?_, w7⟩
      obtain ⟨o, e, d⟩ := T.obj _ _ st5 b hb
      exact (I7.pin (b, o) (List.mem_append_right _ (List.mem_append_right _ (mem_pinsAt hb e)))).2.1
    cases f with
    | next => obtain ⟨σ7, H7, I7, n7⟩ := q7; exact again I7 n7
    | cont => obtain ⟨σ7, H7, I7, n7⟩ := q7; exact again I7 n7
    | brk => obtain ⟨σ7, H7, I7, q7⟩ := q7; exact ⟨σ7, H7, I7.unpinned, q7⟩
    | ret v => obtain ⟨x7, σ7, H7, I7, r7, q7⟩ := q7; exact ⟨x7, σ7, H7, I7.unpinned, r7, q7⟩
end
theorem for_list {K : PySem.W.Frag} {a : Addr} {xs : List V} {g : TG} {tb : TS} {D : Ends} {σ : St} {H : Hp} (Pv : Nat → St → Hp → Prop) (h0 : Pv 0 σ H) (hl : ∀ i σ H, i ≤ xs.length → Pv i σ H → SqL K H a xs)
    (hs : ∀ i x σ H, xs[i]? = some x → Pv i σ H → g x σ H fun σ2 H2 => tb { D with nx := Pv (i + 1), ct := Pv (i + 1), bk := D.nx } σ2 H2) (hd : ∀ σ H, Pv xs.length σ H → D.nx σ H) :
    ∃ W : Nat → Nat → St → Hp → Prop, (∃ m, W 0 m σ H) ∧ ∀ i m σ H, W i m σ H →
      ((Itl K a).stop i H ∧ D.nx σ H) ∨ ((Itl K a).go i H ∧ ∃ N : St → Hp → Prop, (∀ σ' H', N σ' H' → ∃ m', m' < m ∧ W (i + 1) m' σ' H') ∧ ∀ x H', (Itl K a).yld i H x H' → g x σ H' fun σ2 H2 => tb { D with nx := N, ct := N, bk := D.nx } σ2 H2) := by
  refine ⟨fun i m σ H => m = xs.length - i ∧ i ≤ xs.length ∧ Pv i σ H, ⟨xs.length, by simp, Nat.zero_le _, h0⟩, ?_⟩
  rintro i m σ H ⟨rfl, hi, p⟩
  have q := hl i σ H hi p
  by_cases hlt : i < xs.length
  · refine .inr ⟨⟨xs, xs[i], q, by simp [hlt]⟩, Pv (i + 1), fun σ' H' p' => ⟨xs.length - (i + 1), by lia, rfl, hlt, p'⟩, fun x H' y => ?_⟩
    obtain ⟨e, y⟩ := y
    subst e
    exact hs i x σ _ (y xs q) p
  · have e : i = xs.length := by lia
    subst e
    exact .inl ⟨⟨xs, q, Nat.le_refl _⟩, hd σ H p⟩
theorem for_tup {K : PySem.W.Frag} {a : Addr} {xs : List V} {g : TG} {tb : TS} {D : Ends} {σ : St} {H : Hp} (Pv : Nat → St → Hp → Prop) (h0 : Pv 0 σ H) (hl : ∀ i σ H, i ≤ xs.length → Pv i σ H → SqT K H a xs)
    (hs : ∀ i x σ H, xs[i]? = some x → Pv i σ H → g x σ H fun σ2 H2 => tb { D with nx := Pv (i + 1), ct := Pv (i + 1), bk := D.nx } σ2 H2) (hd : ∀ σ H, Pv xs.length σ H → D.nx σ H) :
    ∃ W : Nat → Nat → St → Hp → Prop, (∃ m, W 0 m σ H) ∧ ∀ i m σ H, W i m σ H →
      ((Itt K a).stop i H ∧ D.nx σ H) ∨ ((Itt K a).go i H ∧ ∃ N : St → Hp → Prop, (∀ σ' H', N σ' H' → ∃ m', m' < m ∧ W (i + 1) m' σ' H') ∧ ∀ x H', (Itt K a).yld i H x H' → g x σ H' fun σ2 H2 => tb { D with nx := N, ct := N, bk := D.nx } σ2 H2) := by
  refine ⟨fun i m σ H => m = xs.length - i ∧ i ≤ xs.length ∧ Pv i σ H, ⟨xs.length, by simp, Nat.zero_le _, h0⟩, ?_⟩
  rintro i m σ H ⟨rfl, hi, p⟩
  have q := hl i σ H hi p
  by_cases hlt : i < xs.length
  · refine .inr ⟨⟨xs, xs[i], q, by simp [hlt]⟩, Pv (i + 1), fun σ' H' p' => ⟨xs.length - (i + 1), by lia, rfl, hlt, p'⟩, fun x H' y => ?_⟩
    obtain ⟨e, y⟩ := y
    subst e
    exact hs i x σ _ (y xs q) p
  · have e : i = xs.length := by lia
    subst e
    exact .inl ⟨⟨xs, q, Nat.le_refl _⟩, hd σ H p⟩
theorem for_range {lo : Int} {n : Nat} {g : TG} {tb : TS} {D : Ends} {σ : St} {H : Hp} (Pv : Nat → St → Hp → Prop) (h0 : Pv 0 σ H)
    (hs : ∀ i σ H, i < n → Pv i σ H → g (.int (lo + i)) σ H fun σ2 H2 => tb { D with nx := Pv (i + 1), ct := Pv (i + 1), bk := D.nx } σ2 H2) (hd : ∀ σ H, Pv n σ H → D.nx σ H) :
    ∃ W : Nat → Nat → St → Hp → Prop, (∃ m, W 0 m σ H) ∧ ∀ i m σ H, W i m σ H →
      ((Itr lo n).stop i H ∧ D.nx σ H) ∨ ((Itr lo n).go i H ∧ ∃ N : St → Hp → Prop, (∀ σ' H', N σ' H' → ∃ m', m' < m ∧ W (i + 1) m' σ' H') ∧ ∀ x H', (Itr lo n).yld i H x H' → g x σ H' fun σ2 H2 => tb { D with nx := N, ct := N, bk := D.nx } σ2 H2) := by
  refine ⟨fun i m σ H => m = n - i ∧ i ≤ n ∧ Pv i σ H, ⟨n, by simp, Nat.zero_le _, h0⟩, ?_⟩
  rintro i m σ H ⟨rfl, hi, p⟩
  by_cases hlt : i < n
  · refine .inr ⟨hlt, Pv (i + 1), fun σ' H' p' => ⟨n - (i + 1), by lia, rfl, hlt, p'⟩, fun x H' y => ?_⟩
    obtain ⟨e, y⟩ := y
    subst e y
    exact hs i σ _ hlt p
  · have e : i = n := by lia
    subst e
    exact .inl ⟨Nat.le_refl _, hd σ H p⟩
end L2
namespace L2
open PySem PySem.Spec PyProof.Rows
abbrev R2 := V → V → Hp → VK → Prop
noncomputable def OpR (X : Cx) (f : Value → Value → Sem Value) (r : R2) : Prop :=
  ∀ (pins : List (Addr × Obj)) (s : Shared) (σ : St) (H : Hp) (x y : V) (v u : Value) (Q : VK), Inv X pins σ H s → RelV x v → RelV y u → r x y H Q →
    wpAny (model X.prog X.w) X.A (f v u) (EP X pins σ Q) X.xe s
noncomputable def UnR (X : Cx) (f : Value → Sem Value) (r : V → Hp → VK → Prop) : Prop :=
  ∀ (pins : List (Addr × Obj)) (s : Shared) (σ : St) (H : Hp) (x : V) (v : Value) (Q : VK), Inv X pins σ H s → RelV x v → r x H Q →
    wpAny (model X.prog X.w) X.A (f v) (EP X pins σ Q) X.xe s
noncomputable def CallR (X : Cx) (f : Value) (r : List V → Hp → VK → Prop) : Prop :=
  ∀ (pins : List (Addr × Obj)) (s : Shared) (σ : St) (H : Hp) (xs : List V) (us : List Value) (Q : VK), Inv X pins σ H s → Vals xs us → r xs H Q →
    wpAny (model X.prog X.w) X.A (call f us) (EP X pins σ Q) X.xe s
noncomputable def tOp (r : R2) (ta tb : TE) : TE := fun σ H Q => ta σ H fun x H1 => tb σ H1 fun y H2 => r x y H2 Q
noncomputable def tUn (r : V → Hp → VK → Prop) (ta : TE) : TE := fun σ H Q => ta σ H fun x H1 => r x H1 Q
noncomputable def rI (C : Int → Int → Prop) (g : Int → Int → V) : R2 := fun x y H Q => ∃ i j, x = .int i ∧ y = .int j ∧ C i j ∧ Q (g i j) H
noncomputable def rI0 (g : Int → Int → V) : R2 := fun x y H Q => ∃ i j, x = .int i ∧ y = .int j ∧ Q (g i j) H
noncomputable def rU (g : Int → V) : V → Hp → VK → Prop := fun x H Q => ∃ i, x = .int i ∧ Q (g i) H
section
variable {X : Cx} {a b c : Expr} {ta tb tc : TE} {pos : Pos}
theorem binT (ha : PE X a ta) (hb : PE X b tb) {pins : List (Addr × Obj)} {s : Shared} {σ : St} {H : Hp} {R : V → V → Hp → Prop} (I : Inv X pins σ H s)
    (h : ta σ H fun x H1 => tb σ H1 fun y H2 => R x y H2) {Q : Value → Shared → Prop} {f : Value → Value → Sem Value}
    (hf : ∀ v u s2 x y H2, Inv X pins σ H2 s2 → RelV x v → RelV y u → R x y H2 → wpAny (model X.prog X.w) X.A (f v u) Q X.xe s2) :
    wpAny (model X.prog X.w) X.A (eval a X.env) (fun v s₁ => wpAny (model X.prog X.w) X.A (eval b X.env) (fun u s₂ => wpAny (model X.prog X.w) X.A (f v u) Q X.xe s₂) X.xe s₁) X.xe s := by
  refine thn (ha pins s σ H _ I h) fun v s1 ⟨x, H1, I1, r1, q1⟩ => ?_
  refine thn (hb pins s1 σ H1 _ I1 q1) fun u s2 ⟨y, H2, I2, r2, q2⟩ => ?_
  exact hf v u s2 x y H2 I2 r1 r2 q2
theorem pe_op {op : Operator} {r : R2} (ho : OpR X (binaryOp op) r) (ha : PE X a ta) (hb : PE X b tb) : PE X (.BinOp a op b pos) (tOp r ta tb) := by
  intro pins s σ H Q I h
  exact wpAny_BinOp (binT ha hb I h fun v u s2 x y H2 I2 rx ry q => ho pins s2 σ H2 x y v u Q I2 rx ry q)
theorem pe_un {op : UnaryOp} {r : V → Hp → VK → Prop} (ho : UnR X (unaryOp op) r) (ha : PE X a ta) : PE X (.UnaryOp op a pos) (tUn r ta) := by
  intro pins s σ H Q I h
  exact UnaryOp_ (thn (ha pins s σ H _ I h) fun v s1 ⟨x, H1, I1, r1, q1⟩ => ho pins s1 σ H1 x v Q I1 r1 q1)
theorem opI {f : Value → Value → Sem Value} {C : Int → Int → Prop} {g : Int → Int → Int}
    (rule : ∀ (i j : Int) (t u : Tok) (s : Shared) (Q : Value → Shared → Prop) (E : Value → Shared → Prop), C i j → Q (.int (g i j) s.toks) { s with toks := s.toks + 1 } → wpAny (model X.prog X.w) X.A (f (.int i t) (.int j u)) Q E s) :
    OpR X f (rI C fun i j => .int (g i j)) := by
  intro pins s σ H x y v u Q I rx ry h
  obtain ⟨i, j, rfl, rfl, hc, q⟩ := h
  obtain ⟨t, rfl⟩ := rx
  obtain ⟨t', rfl⟩ := ry
  exact rule i j t t' s _ _ hc ⟨.int (g i j), H, I.tok _, ⟨_, rfl⟩, q⟩
theorem opI0 {f : Value → Value → Sem Value} {g : Int → Int → Int}
    (rule : ∀ (i j : Int) (t u : Tok) (s : Shared) (Q : Value → Shared → Prop) (E : Value → Shared → Prop), Q (.int (g i j) s.toks) { s with toks := s.toks + 1 } → wpAny (model X.prog X.w) X.A (f (.int i t) (.int j u)) Q E s) :
    OpR X f (rI0 fun i j => .int (g i j)) := by
  intro pins s σ H x y v u Q I rx ry h
  obtain ⟨i, j, rfl, rfl, q⟩ := h
  obtain ⟨t, rfl⟩ := rx
  obtain ⟨t', rfl⟩ := ry
  exact rule i j t t' s _ _ ⟨.int (g i j), H, I.tok _, ⟨_, rfl⟩, q⟩
theorem opB0 {f : Value → Value → Sem Value} {g : Int → Int → Bool}
    (rule : ∀ (i j : Int) (t u : Tok) (s : Shared) (Q : Value → Shared → Prop) (E : Value → Shared → Prop), Q (.bool (g i j)) s → wpAny (model X.prog X.w) X.A (f (.int i t) (.int j u)) Q E s) :
    OpR X f (rI0 fun i j => .bl (g i j)) := by
  intro pins s σ H x y v u Q I rx ry h
  obtain ⟨i, j, rfl, rfl, q⟩ := h
  obtain ⟨t, rfl⟩ := rx
  obtain ⟨t', rfl⟩ := ry
  exact rule i j t t' s _ _ ⟨.bl (g i j), H, I, rfl, q⟩
noncomputable def CDiv (i j : Int) : Prop := 0 < j ∧ j < 1073741824
noncomputable def CPow (i j : Int) : Prop := 0 ≤ j ∧ j ≤ 1000000 ∧ i.natAbs < 2 ^ 64
noncomputable def CMul (i j : Int) : Prop := (-(2 ^ 64) < i ∧ i < 2 ^ 64) ∨ (-(2 ^ 64) < j ∧ j < 2 ^ 64)
theorem CMul.ok {i j : Int} (h : CMul i j) : IntMulOk i j := by
  rcases h with ⟨h1, h2⟩ | ⟨h1, h2⟩
  · exact .of_left (intBits_le_64 h1 h2)
  · exact .of_right (intBits_le_64 h1 h2)
theorem op_add : OpR X (binaryOp .Add) (rI0 fun i j => .int (i + j)) := opI0 fun _ _ _ _ _ _ _ q => add_int q
theorem op_mul : OpR X (binaryOp .Mult) (rI CMul fun i j => .int (i * j)) := opI fun _ _ _ _ _ _ _ hc q => mul_int q hc.ok
theorem op_fdiv : OpR X (binaryOp .FloorDiv) (rI CDiv fun i j => .int (i / j)) := opI fun i j _ _ _ _ _ hc q => by
  have h1 : (0 : Int) < j := hc.1
  have h2 : j < 1073741824 := hc.2
  exact floordiv_int (by lia) (by rw [Int.fdiv_eq_ediv_of_nonneg i (by lia)]; exact q) (.inl (PyProof.noPylong_small (by lia)))
theorem op_mod : OpR X (binaryOp .Mod) (rI (fun _ j => 0 < j) fun i j => .int (i % j)) := opI fun i j _ _ _ _ _ hc q => by
  have h1 : (0 : Int) < j := hc
  exact mod_int' (by lia) (by rw [Int.fmod_eq_emod_of_nonneg i (by lia)]; exact q)
theorem op_pow : OpR X (binaryOp .Pow) (rI CPow fun i j => .int (i ^ j.toNat)) := opI fun _ _ _ _ _ _ _ hc q => pow_int_small hc.1 hc.2.1 hc.2.2 q
theorem unI {f : Value → Sem Value} {g : Int → Int}
    (rule : ∀ (i : Int) (t : Tok) (s : Shared) (Q : Value → Shared → Prop) (E : Value → Shared → Prop), Q (.int (g i) s.toks) { s with toks := s.toks + 1 } → wpAny (model X.prog X.w) X.A (f (.int i t)) Q E s) :
    UnR X f (rU fun i => .int (g i)) := by
  intro pins s σ H x v Q I rx h
  obtain ⟨i, rfl, q⟩ := h
  obtain ⟨t, rfl⟩ := rx
  exact rule i t s _ _ ⟨.int (g i), H, I.tok _, ⟨_, rfl⟩, q⟩
theorem un_neg : UnR X (unaryOp .USub) (rU fun i => .int (-i)) := unI fun _ _ _ _ _ q => neg_int q
end
noncomputable def scal : V → V → Bool
  | .non, .non => true | .non, .int _ => true | .int _, .non => true | .non, .bl _ => true | .bl _, .non => true | .non, .str _ => true | .str _, .non => true
  | .int _, .int _ => true | .bl _, .bl _ => true | .str _, .str _ => true | .byt _, .byt _ => true
  | .int _, .str _ => true | .str _, .int _ => true | .bl _, .str _ => true | .str _, .bl _ => true
  | _, _ => false
noncomputable def rEq : R2 := fun x y H Q => scal x y = true ∧ Q (.bl (decide (x = y))) H
noncomputable def rNe : R2 := fun x y H Q => scal x y = true ∧ Q (.bl (!decide (x = y))) H
theorem dec_int {i j : Int} : decide (V.int i = V.int j) = (i == j) := by
  rw [Bool.eq_iff_iff]
  simp
theorem dec_bl {i j : Bool} : decide (V.bl i = V.bl j) = (i == j) := by
  rw [Bool.eq_iff_iff]
  simp
theorem dec_str {i j : Str} : decide (V.str i = V.str j) = (i == j) := by
  rw [Bool.eq_iff_iff]
  simp
theorem dec_byt {i j : Array UInt8} : decide (V.byt i = V.byt j) = (i.toList == j.toList) := by
  rw [Bool.eq_iff_iff]
  cases i
  cases j
  simp
section
variable {X : Cx} {a b c : Expr} {ta tb tc : TE} {pos : Pos}
theorem fin_bl {pins : List (Addr × Obj)} {σ : St} {H : Hp} {s : Shared} {Q : VK} {k k' : Bool} (I : Inv X pins σ H s) (q : Q (.bl k) H) (e : k = k') : EP X pins σ Q (.bool k') s := by
  subst e
  exact ⟨.bl k, H, I, rfl, q⟩
theorem op_eq : OpR X (compareOp .Eq) rEq := by
  intro pins s σ H x y v u Q I rx ry h
  obtain ⟨hs, q⟩ := h
  cases x with
  | non =>
    cases rx
    cases y with
    | non => cases ry; exact PySem.EqNone.eq_none_none (fin_bl I q (by simp))
    | bl j => cases ry; exact PySem.EqNone.eq_none_bool (fin_bl I q (by simp))
    | int j => obtain ⟨t', rfl⟩ := ry; exact PySem.EqNone.eq_none_int (fin_bl I q (by simp))
    | str j => obtain ⟨t', rfl⟩ := ry; exact PySem.EqNone.eq_none_str (fin_bl I q (by simp))
    | _ => exact absurd (show false = true from hs) Bool.false_ne_true
  | bl i =>
    cases rx
    cases y with
    | non => cases ry; exact PySem.EqNone.eq_bool_none (fin_bl I q (by simp))
    | bl j => cases ry; exact eq_bool (fin_bl I q dec_bl)
    | str j => obtain ⟨t', rfl⟩ := ry; exact PySem.EqMixed.eq_bool_str (fin_bl I q (by simp))
    | _ => exact absurd (show false = true from hs) Bool.false_ne_true
  | int i =>
    obtain ⟨t, rfl⟩ := rx
    cases y with
    | non => cases ry; exact PySem.EqNone.eq_int_none (fin_bl I q (by simp))
    | int j => obtain ⟨t', rfl⟩ := ry; exact eq_int (fin_bl I q dec_int)
    | str j => obtain ⟨t', rfl⟩ := ry; exact PySem.EqMixed.eq_int_str (fin_bl I q (by simp))
    | _ => exact absurd (show false = true from hs) Bool.false_ne_true
  | str i =>
    obtain ⟨t, rfl⟩ := rx
    cases y with
    | non => cases ry; exact PySem.EqNone.eq_str_none (fin_bl I q (by simp))
    | bl j => cases ry; exact PySem.EqMixed.eq_str_bool (fin_bl I q (by simp))
    | int j => obtain ⟨t', rfl⟩ := ry; exact PySem.EqMixed.eq_str_int (fin_bl I q (by simp))
    | str j => obtain ⟨t', rfl⟩ := ry; exact eq_str (fin_bl I q dec_str)
    | _ => exact absurd (show false = true from hs) Bool.false_ne_true
  | byt i =>
    obtain ⟨t, rfl⟩ := rx
    cases y with
    | byt j => obtain ⟨t', rfl⟩ := ry; exact PySem.W.eq_bytes (fin_bl I q dec_byt)
    | _ => exact absurd (show false = true from hs) Bool.false_ne_true
  | _ => cases y <;> exact absurd (show false = true from hs) Bool.false_ne_true
theorem op_ne : OpR X (compareOp .NotEq) rNe := by
  intro pins s σ H x y v u Q I rx ry h
  obtain ⟨hs, q⟩ := h
  cases x with
  | non =>
    cases rx
    cases y with
    | non => cases ry; exact PySem.EqNone.ne_none_none (fin_bl I q (by simp))
    | bl j => cases ry; exact PySem.EqNone.ne_none_bool (fin_bl I q (by simp))
    | int j => obtain ⟨t', rfl⟩ := ry; exact PySem.EqNone.ne_none_int (fin_bl I q (by simp))
    | str j => obtain ⟨t', rfl⟩ := ry; exact PySem.EqNone.ne_none_str (fin_bl I q (by simp))
    | _ => exact absurd (show false = true from hs) Bool.false_ne_true
  | bl i =>
    cases rx
    cases y with
    | non => cases ry; exact PySem.EqNone.ne_bool_none (fin_bl I q (by simp))
    | bl j => cases ry; exact ne_bool (fin_bl I q (congrArg not dec_bl))
    | str j => obtain ⟨t', rfl⟩ := ry; exact PySem.EqMixed.ne_bool_str (fin_bl I q (by simp))
    | _ => exact absurd (show false = true from hs) Bool.false_ne_true
  | int i =>
    obtain ⟨t, rfl⟩ := rx
    cases y with
    | non => cases ry; exact PySem.EqNone.ne_int_none (fin_bl I q (by simp))
    | int j => obtain ⟨t', rfl⟩ := ry; exact ne_int (fin_bl I q (congrArg not dec_int))
    | str j => obtain ⟨t', rfl⟩ := ry; exact PySem.EqMixed.ne_int_str (fin_bl I q (by simp))
    | _ => exact absurd (show false = true from hs) Bool.false_ne_true
  | str i =>
    obtain ⟨t, rfl⟩ := rx
    cases y with
    | non => cases ry; exact PySem.EqNone.ne_str_none (fin_bl I q (by simp))
    | bl j => cases ry; exact PySem.EqMixed.ne_str_bool (fin_bl I q (by simp))
    | int j => obtain ⟨t', rfl⟩ := ry; exact PySem.EqMixed.ne_str_int (fin_bl I q (by simp))
    | str j => obtain ⟨t', rfl⟩ := ry; exact ne_str (fin_bl I q (congrArg not dec_str))
    | _ => exact absurd (show false = true from hs) Bool.false_ne_true
  | byt i =>
    obtain ⟨t, rfl⟩ := rx
    cases y with
    | byt j => obtain ⟨t', rfl⟩ := ry; exact PySem.W.ne_bytes (fin_bl I q (congrArg not dec_byt))
    | _ => exact absurd (show false = true from hs) Bool.false_ne_true
  | _ => cases y <;> exact absurd (show false = true from hs) Bool.false_ne_true
theorem op_lt : OpR X (compareOp .Lt) (rI0 fun i j => .bl (decide (i < j))) := opB0 fun _ _ _ _ _ _ _ q => lt_int q
theorem op_gt : OpR X (compareOp .Gt) (rI0 fun i j => .bl (decide (j < i))) := opB0 fun _ _ _ _ _ _ _ q => gt_int q
theorem nomark (b : Expr) {op : CmpOp} (h : op ≠ .In := by decide) (h2 : op ≠ .NotIn := by decide) : behindInMarks op b = false := by
  have e1 : (op == CmpOp.In) = false := by cases op <;> first | rfl | exact absurd rfl h
  have e2 : (op == CmpOp.NotIn) = false := by cases op <;> first | rfl | exact absurd rfl h2
  cases b <;> simp [behindInMarks, e1, e2]
theorem pe_cmpR {op : CmpOp} {r : R2} (ho : OpR X (compareOp op) r) (ha : PE X a ta) (hb : PE X b tb) (hm : behindInMarks op b = false) : PE X (.Compare a [op] [b] pos) (tOp r ta tb) := by
  intro pins s σ H Q I h
  exact wpAny_Compare1 (binT ha hb I h fun v u s2 x y H2 I2 rx ry q => ho pins s2 σ H2 x y v u Q I2 rx ry q) hm
noncomputable def tTest (t : TE) : TT := fun σ H Q => t σ H fun x H' => ∃ k, x = .bl k ∧ Q k H'
theorem pt_cmpR {op : CmpOp} {r : R2} (ho : OpR X (compareOp op) r) (ha : PE X a ta) (hb : PE X b tb) (hm : behindInMarks op b = false) : PT X (.Compare a [op] [b] pos) (tTest (tOp r ta tb)) := by
  intro pins s σ H Q I h
  refine wpAny_isTrue_Compare1 (thn (ha pins s σ H _ I h) fun v s1 ⟨x, H1, I1, r1, q1⟩ => thn (hb pins s1 σ H1 _ I1 q1) fun u s2 ⟨y, H2, I2, r2, q2⟩ =>
    thn (ho pins s2 σ H2 x y v u _ I2 r1 r2 q2) fun c s3 ⟨z, H3, I3, r3, k, e, q3⟩ => ?_) hm
  subst e
  cases r3
  exact wpAny_truthy_bool ⟨H3, I3, q3⟩
theorem line63 : (sizeLine : Nat) < 2 ^ 63 := by rw [sizeLine_eq]; decide
theorem op_add_str : OpR X (binaryOp .Add) (fun x y H Q => ∃ i j, x = .str i ∧ y = .str j ∧ i.length + j.length ≤ sizeLine ∧ Q (.str (i ++ j)) H) := by
  intro pins s σ H x y v u Q I rx ry h
  obtain ⟨i, j, rfl, rfl, hz, q⟩ := h
  obtain ⟨t, rfl⟩ := rx
  obtain ⟨t', rfl⟩ := ry
  exact add_str (fun t' tk => ⟨.str (i ++ j), H, I.tok _, ⟨_, rfl⟩, q⟩) hz
theorem vals1 {x : V} {us : List Value} (r : Vals [x] us) : ∃ u, us = [u] ∧ RelV x u := by
  cases r with
  | cons r1 r2 => cases r2; exact ⟨_, rfl, r1⟩
theorem vals2 {x y : V} {us : List Value} (r : Vals [x, y] us) : ∃ u w', us = [u, w'] ∧ RelV x u ∧ RelV y w' := by
  cases r with
  | cons r1 r2 =>
    cases r2 with
    | cons r3 r4 => cases r4; exact ⟨_, _, rfl, r1, r3⟩
end
end L2
namespace L2
open PySem PySem.Spec PyProof.Rows
section
variable {prog : Program} {w : World} {A : Around} {E : Value → Shared → Prop} {s : Shared} {K : PySem.W.Frag} {x dx C f : Addr} {mA : Str → Option Value} {name : Str} {v : Value}
end
section
variable {P : Program} {w : World} {H H' : Hp} {h h' : Heap} {a C dx : Addr} {fs fs' : List (Str × V)}
end
structure Con (K : PySem.W.Frag) (C : Addr) (f : Str) (v : V) (u : Value) : Prop where
  at_ : PySem.W.findIn K (.ref C) f = some (some u)
  rel : RelV v u
  get : PySem.W.specialIn K u "__get__" = some none
  cp : PySem.W.copiedNames.contains f = false
section
variable {X : Cx} {pins : List (Addr × Obj)} {σ : St} {H : Hp} {s : Shared} {a C dx : Addr} {fs : List (Str × V)} {f : Str} {v : V} {A : Around} {E : Value → Shared → Prop}
end
section
variable {X : Cx} {o e value : Expr} {f : Str} {pos pos' tpos : Pos} {ta tv : TE}
end
section
variable {X : Cx} {pins : List (Addr × Obj)} {σ : St} {H : Hp} {s : Shared} {A : Around} {E : Value → Shared → Prop} {Q : Value → Shared → Prop} {c : Value} {b : Bool}
end
end L2
namespace L2
open PySem PySem.Spec PyProof.Rows
structure Room (k : Nat) (A : Around) : Prop where
  hd : A.handled = none
  dp : A.depth + 3 * k + 5 < recursionLimit
  un : A.units + 16 * k + 200 < cLine
theorem Room.mono {j k : Nat} {A : Around} (r : Room k A) (h : j ≤ k) : Room j A := ⟨r.hd, by have := r.dp; lia, by have := r.un; lia⟩
theorem Room.deeper {k : Nat} {A : Around} (r : Room (k + 1) A) (env : Env) : Room k (A.deeper env) :=
  ⟨r.hd, by have := r.dp; show A.depth + 1 + 3 * k + 5 < _; lia, by have := r.un; show A.units + 3 + 16 * k + 200 < _; lia⟩
theorem Room.depth {k : Nat} {A : Around} (r : Room k A) : A.depth < recursionLimit := by have := r.dp; lia
theorem Room.units {k : Nat} {A : Around} (r : Room k A) : A.units + 64 < cLine := by have := r.un; lia
noncomputable def tNil : TA := fun _ H Q => Q [] H
noncomputable def tCons (ta : TE) (tr : TA) : TA := fun σ H Q => ta σ H fun x H1 => tr σ H1 fun xs H2 => Q (x :: xs) H2
section
variable {X : Cx} {e : Expr} {es : List Expr} {te : TE} {t : TA} {pos : Pos}
theorem pa_nil : PA X [] tNil := fun _ _ _ _ H Q I h => Calls.spliced_nil ⟨[], H, I, .nil, h⟩
theorem pa_cons (ha : PE X e te) (hr : PA X es t) (hs : starEach (e :: es) X.env = (false, eval e X.env) :: starEach es X.env := by rfl) : PA X (e :: es) (tCons te t) := by
  intro pos pins s σ H Q I h
  rw [hs]
  show wpAny _ _ (spliced ((false, eval e X.env) :: backTo pos (starEach es X.env))) _ _ s
  refine Calls.spliced_cons (thn (ha pins s σ H _ I h) fun u s1 ⟨x, H1, I1, r1, q1⟩ => ?_)
  exact thn (hr pos pins s1 σ H1 _ I1 q1) fun us s2 ⟨xs, H2, I2, r2, q2⟩ => ⟨x :: xs, H2, I2, .cons r1 r2, q2⟩
noncomputable def tTup (t : TA) : TE := fun σ H Q => t σ H fun xs H1 => xs.length ≤ sizeLine ∧ ∀ p, H1 p = none → Q (.ref p) (upd H1 p (.tup xs))
noncomputable def tLst (t : TA) : TE := fun σ H Q => t σ H fun xs H1 => xs.length ≤ sizeLine ∧ ∀ p, H1 p = none → Q (.ref p) (upd H1 p (.lst xs))
theorem pe_tup {x1} (h : PA X es t) : PE X (.Tuple es x1 pos) (tTup t) := by
  intro pins s σ H Q I hq
  refine wpAny_Tuple_spliced (thn (h pos pins s σ H _ I hq) fun us s1 ⟨xs, H1, I1, r, z, q⟩ => ⟨by rw [← r.length]; exact z, ?_⟩)
  have hf : H1 s1.heap.objs.size = none := I1.hok.fresh (Nat.le_refl _)
  refine ⟨.ref s1.heap.objs.size, upd H1 s1.heap.objs.size (.tup xs), I1.laid (t' := s1.toks) (fun b u e => Heap.get?_push_of_some _ e) (Nat.le_refl _) ?_, rfl, q _ hf⟩
  exact ⟨z, us, r, ⟨_, Heap.get?_push_size _ rfl, rfl, _, rfl⟩⟩
theorem pe_lst (h : PA X es t) : PE X (.List es pos) (tLst t) := by
  intro pins s σ H Q I hq
  refine wpAny_List_spliced (thn (h pos pins s σ H _ I hq) fun us s1 ⟨xs, H1, I1, r, z, q⟩ => ⟨by rw [← r.length]; exact z, ?_⟩)
  have hf : H1 s1.heap.objs.size = none := I1.hok.fresh (Nat.le_refl _)
  refine ⟨.ref s1.heap.objs.size, upd H1 s1.heap.objs.size (.lst xs), I1.laid (t' := s1.toks) (fun b u e => Heap.get?_push_of_some _ e) (Nat.le_refl _) ?_, rfl, q _ hf⟩
  exact ⟨z, us, 0, r, Heap.get?_push_size _ rfl⟩
end
abbrev Sp := List V → Hp → VK → XK → Prop
abbrev CXT := List Env → Hp → Shared → XK → Value → Shared → Prop
structure Env0 (P : Program) (w : World) (K : PySem.W.Frag) (mg : Str → Option Value) (base : Heap) (A : Around) (outer : List Env) (s : Shared) (H : Hp) : Prop where
  frames : A.frames = some outer
  mod : Mod K mg base
  bs : ∀ b o, base.get? b = some o → s.heap.get? b = some o ∧ H b = none
  bsz : base.objs.size ≤ s.heap.objs.size
  funs : s.heap.FunFrames base outer
  frf : ∀ b ∈ frs outer, H b = none
  hok : HOk P w H s.heap
  bare : AllBare s.gens
noncomputable def CE (outer : List Env) (P : Program) (w : World) (H : Hp) (s : Shared) (Q : VK) (u : Value) (s' : Shared) : Prop :=
  ∃ v H', s'.os = s.os ∧ AllBare s'.gens ∧ Un (frs outer) [] H H' s.heap s'.heap ∧ HOk P w H' s'.heap ∧ RelV v u ∧ Q v H'
noncomputable def CR (CX : CXT) (outer : List Env) (P : Program) (w : World) (H : Hp) (s : Shared) (Q : VK) (E : XK) (r : Result) (s' : Shared) : Prop :=
  match r with
  | .ok (.ret u) => CE outer P w H s Q u s'
  | .ok _ => False
  | .error e => CX outer H s E e s'
structure FnOk (P : Program) (w : World) (K : PySem.W.Frag) (mg : Str → Option Value) (base : Heap) (CX : CXT) (k : Nat) (f : Addr) (fd : FuncData) (ps : List Str) (sp : Sp) : Prop where
  len : ∀ vs H Q E, sp vs H Q E → vs.length = ps.length
  run : ∀ (A : Around) (outer : List Env) (s : Shared) (H : Hp) (args : Args) (us : List Value) (vs : List V) (Q : VK) (E : XK), Room k A → Env0 P w K mg base A outer s H → BindsTo s fd args (ps.zip us) → Vals vs us → sp vs H Q E →
    codeAny (model P w) A (.call (.ref f) args) (CR CX outer P w H s Q E) s
section
variable {X : Cx} {pins : List (Addr × Obj)} {σ : St} {H : Hp} {s s' : Shared}
theorem Inv.env0 (I : Inv X pins σ H s) : Env0 X.prog X.w X.K X.mg X.base X.A X.stack s H :=
  ⟨I.ok.frames, I.ok.mod, I.bs, Nat.le_trans I.ok.bsz I.sz, I.stack, I.stkFree, I.hok, I.bare⟩
theorem Inv.after {Q : VK} {u : Value} (I : Inv X pins σ H s) (h : CE X.stack X.prog X.w H s Q u s') : EP X pins σ Q u s' := by
  obtain ⟨v, H', os, bare, un, hok, r, q⟩ := h
  obtain ⟨hh, g, d, t, os'⟩ := s'
  obtain rfl : os' = s.os := os
  exact ⟨v, H', I.call (h' := hh) (g' := g) (d' := d) (t' := t) (ch := []) un hok bare (fun b z => absurd z (by simp)), r, q⟩
end
noncomputable def tCall (sp : Sp) (dvs : List V) (E : XK) (t : TA) : TE := fun σ H Q => t σ H fun vs H1 => sp (vs ++ dvs) H1 Q E
noncomputable def Binds (K : PySem.W.Frag) (fd : FuncData) (ps : List Str) (ds : List Value) : Prop :=
  ∀ (s : Shared) (us : List Value), K.In s.heap → (us ++ ds).length = ps.length → BindsTo s fd ⟨us, []⟩ (ps.zip (us ++ ds))
theorem Binds.all {K : PySem.W.Frag} {fd : FuncData} {ps : List Str} (h : ∀ us : List Value, us.length = ps.length → bindArgs fd ⟨us, []⟩ = pure (ps.zip us)) : Binds K fd ps [] := fun s us _ hl => by
  rw [List.append_nil] at hl ⊢
  exact .of_eq (h us hl)
noncomputable def Passes (CX : CXT) (X : Cx) (E : XK) : Prop := ∀ (pins : List (Addr × Obj)) (σ : St) (H : Hp) (s : Shared) (e : Value) (s' : Shared), Inv X pins σ H s → CX X.stack H s E e s' → X.xe e s'
section
variable {X : Cx} {CX : CXT} {k : Nat} {f C : Addr} {fd : FuncData} {ps : List Str} {sp : Sp} {dvs : List V} {ds : List Value} {E : XK} {x m : Str} {p pos apos : Pos} {e o : Expr} {es : List Expr} {ta : TE} {t : TA}
theorem run_fn {pins : List (Addr × Obj)} {σ : St} {H : Hp} {s : Shared} {Q : VK} {us : List Value} {vs : List V} (F : FnOk X.prog X.w X.K X.mg X.base CX k f fd ps sp) (hr : Room k X.A) (hb : Binds X.K fd ps ds) (hd : Vals dvs ds) (hx : Passes CX X E)
    (I : Inv X pins σ H s) (r : Vals vs us) (h : sp (vs ++ dvs) H Q E) : wpAny (model X.prog X.w) X.A (call (.ref f) us) (EP X pins σ Q) X.xe s := by
  have r2 : Vals (vs ++ dvs) (us ++ ds) := r.append hd
  have hl : (us ++ ds).length = ps.length := by rw [← r2.length]; exact F.len _ _ _ _ h
  refine wpAny_call (codeAny_mono (F.run X.A X.stack s H ⟨us, []⟩ (us ++ ds) (vs ++ dvs) Q E hr I.env0 (hb s us I.kIn hl) r2 h) fun r s' hq => ?_)
  cases r with
  | error e => exact hx pins σ H s e s' I hq
  | ok fl =>
    cases fl with
    | ret u => exact I.after hq
    | next => exact False.elim hq
    | brk => exact False.elim hq
    | cont => exact False.elim hq
theorem pe_call (F : FnOk X.prog X.w X.K X.mg X.base CX k f fd ps sp) (hr : Room k X.A) (hg : Gl X x) (hm : X.mg x = some (.ref f)) (hk : PySem.W.keepIn X.K (.ref f) = true) (hb : Binds X.K fd ps ds) (hd : Vals dvs ds) (hx : Passes CX X E)
    (ha : PA X (e :: es) t) (hdb : (x == ("__debug__" : Str)) = false := by decide) (he : starEach (e :: es) X.env = (false, eval e X.env) :: starEach es X.env := by rfl) (hpl : (backTo pos (starEach es X.env)).any (·.1) = false := by rfl) :
    PE X (.Call (.Name x p) (e :: es) [] pos) (tCall sp dvs E t) := by
  intro pins s σ H Q I h
  refine wpAny_Call_Name_kw (ld_glob I hg hm ?_ hdb)
  refine PySem.W.callWith_K (h₀ := X.base) I.ok.mod.kin hk (thn (ha pos pins s σ H _ I h) fun us s1 ⟨vs, H1, I1, r, q⟩ => ⟨I1.kIn, ?_⟩) he hpl
  exact run_fn F hr hb hd hx I1 r q
end
section
variable {X : Cx} {CX : CXT} {k : Nat} {f C : Addr} {fd : FuncData} {ps ks : List Str} {sp : Sp} {E : XK} {x m : Str} {p pos apos kpos : Pos} {e o : Expr} {es : List Expr} {kws : List Keyword} {te ta : TE} {t tk : TA} {nm : Option Str}
variable {g : List Value → List Value → List Value} {gV : List V → List V → List V}
end
structure FnScope (N P : List Str) (sc : Scope) : Prop where
  kind : sc.kind = .function
  co : sc.isCoroutine = false
  gen : sc.isGenerator = false
  nd : N.Nodup
  pre : N.take P.length = P
  par : ∀ x ∈ P, sc.names.lookup x = some .local ∨ sc.names.lookup x = some .cell
  nofree : ∀ y ∈ sc.names, y.2 ≠ .free
theorem bindL_out {kindOf : Str → Option NameKind} {x : Str} : ∀ {binds : List (Str × Value)} {m : Str → Option Value}, (∀ v, (x, v) ∉ binds) → bindL kindOf binds m x = m x
  | [], _, _ => rfl
  | (n, v) :: r, m, h => by
    unfold bindL
    rw [bindL_out fun w hw => h w (List.mem_cons_of_mem _ hw)]
    split
    · have : x ≠ n := by rintro rfl; exact h v List.mem_cons_self
      simp [this]
    · rfl
theorem bindC_out {kindOf : Str → Option NameKind} {x : Str} : ∀ {binds : List (Str × Value)} {m : Str → Option Value}, (∀ v, (x, v) ∉ binds) → bindC kindOf binds m x = m x
  | [], _, _ => rfl
  | (n, v) :: r, m, h => by
    unfold bindC
    rw [bindC_out fun w hw => h w (List.mem_cons_of_mem _ hw)]
    split
    · rfl
    · have : x ≠ n := by rintro rfl; exact h v List.mem_cons_self
      simp [this]
theorem bindL_get {kindOf : Str → Option NameKind} {x : Str} {v : Value} : ∀ {P : List Str} {vs : List Value} {i : Nat} {m : Str → Option Value}, P.Nodup → P[i]? = some x → vs[i]? = some v → kindOf x = some .local →
    bindL kindOf (P.zip vs) m x = some v
  | [], _, _, _, _, h, _, _ => by simp at h
  | _ :: _, [], _, _, _, _, h, _ => by simp at h
  | p :: P, w :: vs, 0, m, nd, h1, h2, hk => by
    simp at h1 h2; subst h1; subst h2
    show bindL kindOf ((p, w) :: P.zip vs) m p = _
    unfold bindL
    rw [bindL_out fun v hv => (List.nodup_cons.mp nd).1 (List.of_mem_zip hv).1, if_pos hk]
    simp
  | p :: P, w :: vs, i + 1, m, nd, h1, h2, hk => by
    show bindL kindOf ((p, w) :: P.zip vs) m x = _
    unfold bindL
    exact bindL_get (i := i) (List.nodup_cons.mp nd).2 (by simpa using h1) (by simpa using h2) hk
theorem bindC_get {kindOf : Str → Option NameKind} {x : Str} {v : Value} : ∀ {P : List Str} {vs : List Value} {i : Nat} {m : Str → Option Value}, P.Nodup → P[i]? = some x → vs[i]? = some v → kindOf x ≠ some .local →
    bindC kindOf (P.zip vs) m x = some v
  | [], _, _, _, _, h, _, _ => by simp at h
  | _ :: _, [], _, _, _, _, h, _ => by simp at h
  | p :: P, w :: vs, 0, m, nd, h1, h2, hk => by
    simp at h1 h2; subst h1; subst h2
    show bindC kindOf ((p, w) :: P.zip vs) m p = _
    unfold bindC
    rw [bindC_out fun v hv => (List.nodup_cons.mp nd).1 (List.of_mem_zip hv).1, if_neg hk]
    simp
  | p :: P, w :: vs, i + 1, m, nd, h1, h2, hk => by
    show bindC kindOf ((p, w) :: P.zip vs) m x = _
    unfold bindC
    exact bindC_get (i := i) (List.nodup_cons.mp nd).2 (by simpa using h1) (by simpa using h2) hk
noncomputable def start (N : List Str) (vs : List V) : St := vs.map some ++ List.replicate (N.length - vs.length) none
noncomputable def cxOf (CX : CXT) (P : Program) (w : World) (K : PySem.W.Frag) (mg : Str → Option Value) (base : Heap) (N : List Str) (qual : Str) (scope : Scope) (f : Addr) (cd : Value) (A : Around) (outer : List Env) (s : Shared) (H : Hp) (E : XK) : Cx where
  prog := P
  w := w
  K := K
  mg := mg
  base := base
  A := A.deeper (envOfC qual scope s.heap.objs.size f cd)
  N := N
  s₀ := s
  H₀ := H
  env := envOfC qual scope s.heap.objs.size f cd
  outer := outer
  stack := envOfC qual scope s.heap.objs.size f cd :: outer
  ex := []
  calm := true
  fn := fun _ => true
  pn := []
  xe := fun e s' => wpAny (model P w) (A.deeper (envOfC qual scope s.heap.objs.size f cd)) (leaving (envOfC qual scope s.heap.objs.size f cd) e) (fun _ s'' => CX outer H s E e s'') (fun e' s'' => CX outer H s E e' s'') s'
theorem cell_has {sc : Scope} {n : Nat} {x : Str} (h : sc.names.lookup x = some .cell) : ∃ c, (cellsFrom n sc.names []).lookup x = some c := by
  have q := PySem.W.cellsFrom_some sc.names n [] (.inl h)
  exact Option.isSome_iff_exists.mp q
theorem inv_start {CX : CXT} {P : Program} {w : World} {K : PySem.W.Frag} {mg : Str → Option Value} {base : Heap} {N ps : List Str} {qual : Str} {scope : Scope} {f : Addr} {cd : Value} {A : Around} {outer : List Env} {s s1 : Shared} {H : Hp} {E : XK} {us : List Value} {vs : List V}
    (S : FnScope N ps scope) (hd : A.handled = none) (e0 : Env0 P w K mg base A outer s H) (hl : vs.length = ps.length) (r : Vals vs us)
    (x : InCallC s s.heap.objs.size (bindL (envOfC qual scope s.heap.objs.size f cd).kindOf (ps.zip us) fun _ => none) (cellsFrom (s.heap.objs.size + 1) scope.names []) (bindC (envOfC qual scope s.heap.objs.size f cd).kindOf (ps.zip us) fun _ => none) s1) :
    Inv (cxOf CX P w K mg base N qual scope f cd A outer s H E) [] (start N vs) H s1 := by
  have hpl : ps.length ≤ N.length := by have := congrArg List.length S.pre; rw [List.length_take] at this; lia
  obtain ⟨h1, tk, rfl, hk⟩ := x.done
  have noA : ∀ b : Addr, b ∉ (cxOf CX P w K mg base N qual scope f cd A outer s H E).ex := fun b z => absurd (show b ∈ ([] : List Addr) from z) (by simp)
  refine ⟨⟨e0.mod, S.kind, rfl, rfl, Nat.le_refl _, fun y z c h1 h2 => ?_, fun y hy => ?_, fun y c _ h => ?_, fun _ => hd, Around.frames_deeper e0.frames, .inr ⟨rfl, rfl⟩, fun b z => absurd z (noA b), e0.bs, e0.bsz, fun b _ _ => noA b, fun b z => absurd z (noA b), e0.funs, e0.frf⟩,
    rfl, e0.bare, Un.kept hk, ⟨_, x.toInCall.ns, fun i y v h1 h2 h3 => ?_⟩, fun y c h => ⟨_, x.cell y c h⟩, e0.hok.fresh (Nat.le_refl _), fun y c h => ?_, fun p hp => absurd (show p ∈ ([] : List (Addr × Obj)) from hp) (by simp), e0.hok.kept hk, ?_⟩
  · exact name_of_addr x.apart (PySem.mem_of_lookup h1) (PySem.mem_of_lookup h2)
  · have hy : scope.names.lookup y = some .cell ∨ scope.names.lookup y = some .free := hy
    rcases hy with hy | hy
    · exact cell_has hy
    · exact absurd rfl (S.nofree _ (PySem.mem_of_lookup hy))
  · exact Nat.le_of_lt (x.above y c (PySem.mem_of_lookup h))
  · have hi : i < vs.length := by
      unfold start at h2
      by_cases hi : i < vs.length
      · exact hi
      · rw [List.getElem?_append_right (by simpa using hi)] at h2
        rw [List.getElem?_replicate] at h2
        split at h2 <;> cases h2
    have ha : vs[i]? = some v := by
      unfold start at h2
      rw [List.getElem?_append_left (by simpa using hi), List.getElem?_map] at h2
      cases e : vs[i]? with
      | none => rw [e] at h2; cases h2
      | some a => rw [e] at h2; cases h2; rfl
    obtain ⟨u, hu, rv⟩ := r.get ha
    have hp : ps[i]? = some y := by
      rw [← S.pre, List.getElem?_take_of_lt (by lia)]; exact h1
    have ndP : ps.Nodup := by rw [← S.pre]; exact S.nd.sublist (List.take_sublist _ _)
    refine ⟨u, rv, ?_⟩
    rcases S.par y (List.mem_of_getElem? hp) with k | k
    · exact .inl ⟨k, bindL_get ndP hp hu k⟩
    · obtain ⟨c, e⟩ := cell_has (n := s.heap.objs.size + 1) k
      refine .inr ⟨.inl k, c, e, ?_⟩
      have q := x.cell y c e
      rw [bindC_get ndP hp hu (by show scope.names.lookup y ≠ _; rw [k]; decide)] at q
      exact q
  · exact e0.hok.fresh (Nat.le_of_lt (x.above y c (PySem.mem_of_lookup h)))
  · unfold start
    show _ = N.length
    rw [List.length_append, List.length_map, List.length_replicate]
    lia
theorem fn_of {CX : CXT} {P : Program} {w : World} {K : PySem.W.Frag} {mg : Str → Option Value} {base : Heap} {k : Nat} {f : Addr} {name qual : Str} {params : Arguments} {body : List Stmt} {scope : Scope} {dV kV doc pm cdv ct oc : Value} {an od : Option Addr}
    {osl : Array (Option Value)} {N ps : List Str} {sp : Sp} (lk : K.lookup f = some ⟨oc, od, .func (PySem.W.fnOf name qual params body scope dV kV doc pm an cdv ct), osl⟩) (hcd : PySem.W.codeIn K cdv qual = true) (S : FnScope N ps scope)
    (len : ∀ vs H Q E, sp vs H Q E → vs.length = ps.length)
    (hbody : ∀ (A : Around) (outer : List Env) (s : Shared) (H : Hp) (vs : List V) (Q : VK) (E : XK), Room k (A.deeper (envOfC qual scope s.heap.objs.size f cdv)) → sp vs H Q E →
      ∃ t, PSs (cxOf CX P w K mg base N qual scope f cdv A outer s H E) body t ∧ t { nx := fun _ H' => Q .non H', rt := Q } (start N vs) H) :
    FnOk P w K mg base CX (k + 1) f (PySem.W.fnOf name qual params body scope dV kV doc pm an cdv ct) ps sp := by
  refine ⟨len, fun A outer s H args us vs Q E hr e0 hb r hsp => ?_⟩
  have hl := len _ _ _ _ hsp
  have KX : K.In s.heap := e0.mod.kin.keeps fun b o e => (e0.bs b o e).1
  have lim : s.heap.NoLimit := e0.mod.nolimit.keeps fun b o e => (e0.bs b o e).1
  have hkind : ∀ y ∈ ps.zip us, scope.names.lookup y.1 = some .local ∨ (scope.names.lookup y.1 = some .cell ∧ ((cellsFrom (s.heap.objs.size + 1) scope.names []).lookup y.1).isSome = true) := fun ⟨n, v⟩ hy => by
    rcases S.par n (List.of_mem_zip hy).1 with q | q
    · exact .inl q
    · exact .inr ⟨q, PySem.W.cellsFrom_some _ _ _ (.inl q)⟩
  refine codeAny_call_function hr.depth (KX _ _ lk) rfl S.co S.gen rfl (PySem.W.codeRec_of KX hcd) (hb _ _ _ _ ?_)
  refine wpAny_newFunctionEnv_cells S.kind hkind fun env he s1 x => ?_
  subst he
  refine ⟨lim.keeps x.toInCall.keep, codeAny_func ?_⟩
  obtain ⟨t, ht, hq⟩ := hbody A outer s H vs Q E (hr.deeper _) hsp
  have I : Inv (cxOf CX P w K mg base N qual scope f cdv A outer s H E) [] (start N vs) H s1 := inv_start S hr.hd e0 hl r x
  refine wpAny_mono (ht [] s1 (start N vs) H _ I hq) (fun fl s' hs => ?_) fun e s' hs => hs
  have fin : ∀ {σ' : St} {H' : Hp} {v : V} {u : Value}, Inv (cxOf CX P w K mg base N qual scope f cdv A outer s H E) [] σ' H' s' → RelV v u → Q v H' → CE outer P w H s Q u s' :=
    fun {σ' H' v u} J rv q => ⟨v, H', J.os, J.bare, J.base, J.hok, rv, q⟩
  cases fl with
  | ret u =>
    obtain ⟨v, σ', H', J, rv, q⟩ := hs
    exact fin J rv q
  | next =>
    obtain ⟨σ', H', J, q⟩ := hs
    exact fin (v := V.non) (u := Value.none) J rfl q
  | brk =>
    obtain ⟨_, _, _, q⟩ := hs
    exact False.elim q
  | cont =>
    obtain ⟨_, _, _, q⟩ := hs
    exact False.elim q
end L2
namespace L2
open PySem PySem.Spec PyProof.Rows
section
variable {X : Cx} {x : Str} {p pos : Pos} {e : Expr} {es : List Expr} {t : TA} {id T : String} {r : List V → Hp → VK → Prop}
noncomputable def tCB (r : List V → Hp → VK → Prop) (t : TA) : TE := fun σ H Q => t σ H fun vs H1 => r vs H1 Q
theorem pe_callB (hc : CallR X (.builtin id) r) (hg : Gl X x) (hm : X.mg x = none) (hv : bootBuiltins x = some (.builtin id)) (ha : PA X (e :: es) t) (hn : x ≠ "__name__" := by decide) (hdb : (x == ("__debug__" : Str)) = false := by decide)
    (he : starEach (e :: es) X.env = (false, eval e X.env) :: starEach es X.env := by rfl) (hpl : (backTo pos (starEach es X.env)).any (·.1) = false := by rfl) : PE X (.Call (.Name x p) (e :: es) [] pos) (tCB r t) := by
  intro pins s σ H Q I h
  refine wpAny_Call_Name_kw (ld_blt I hg hm hv ?_ hn hdb)
  exact PyProof.Rows.callWith_builtin1 (thn (ha pos pins s σ H _ I h) fun us s1 ⟨vs, H1, I1, r1, q1⟩ => hc pins s1 σ H1 vs us Q I1 r1 q1) he hpl
theorem pe_callTy (hc : CallR X (.type T) r) (hg : Gl X x) (hm : X.mg x = none) (hv : bootBuiltins x = some (.type T)) (ha : PA X (e :: es) t) (hn : x ≠ "__name__" := by decide) (hdb : (x == ("__debug__" : Str)) = false := by decide)
    (he : starEach (e :: es) X.env = (false, eval e X.env) :: starEach es X.env := by rfl) (hpl : (backTo pos (starEach es X.env)).any (·.1) = false := by rfl) : PE X (.Call (.Name x p) (e :: es) [] pos) (tCB r t) := by
  intro pins s σ H Q I h
  refine wpAny_Call_Name_kw (ld_blt I hg hm hv ?_ hn hdb)
  exact PyProof.Rows.callWith_type1 (thn (ha pos pins s σ H _ I h) fun us s1 ⟨vs, H1, I1, r1, q1⟩ => hc pins s1 σ H1 vs us Q I1 r1 q1) he hpl
end
end L2
namespace HT
open PySem PyProof.Rows
section
open PySem.SeqAt
open PySem.AutoSeq1 (wpAny_loadPart')
open PySem.MeetsSeq PySem.MeetsSeq2 PySem.MeetsSeq3
end
section
variable {prog : Program} {w : World} {A : Around} {E : Value → Shared → Prop} {s : Shared}
theorem cat_tup {t b : Addr} {vs ws : List Value} {Q : Value → Shared → Prop} (ht : IsTup s.heap t vs.toArray) (hb : IsTup s.heap b ws.toArray) (hv : vs ≠ [])
    (h1 : ws = [] → Q (.ref t) s) (h2 : ws ≠ [] → Q (.ref s.heap.objs.size) { s with heap := s.heap.push { cls := .type "tuple", data := .seq (vs ++ ws).toArray } })
    (hsz : vs.length + ws.length ≤ sizeLine) : wpAny (model prog w) A (binaryOp .Add (.ref t) (.ref b)) Q E s := by
  obtain ⟨⟨cls, dd, data, sl⟩, ho, hc, n, hd⟩ := id ht
  obtain ⟨⟨cls2, dd2, data2, sl2⟩, ho2, hc2, n2, hd2⟩ := id hb
  simp only at hc hd hc2 hd2
  subst hc hd hc2 hd2
  have e : vs.toArray ++ ws.toArray = (vs ++ ws).toArray := by simp
  by_cases hw : ws = []
  · exact concat_meets ⟨_, ho, rfl⟩ ⟨_, ho2, rfl⟩ noFill_tuple_add seq_tuple_add PySem.F.slot_tuple_add PySem.F.entry_tuple_add (PySem.F.args_tuple_add_2 _ _)
      (tuple_addW1 t b vs.toArray ws.toArray n n2 dd dd2 sl sl2 (by simpa using hv) (by simp [hw])) ⟨ho, ho2, h1 hw⟩
  · refine concat_meets ⟨_, ho, rfl⟩ ⟨_, ho2, rfl⟩ noFill_tuple_add seq_tuple_add PySem.F.slot_tuple_add PySem.F.entry_tuple_add (PySem.F.args_tuple_add_2 _ _)
      (tuple_addW2 t b vs.toArray ws.toArray n n2 dd dd2 sl sl2 (by simpa using hv) (by simpa using hw) (by rw [List.size_toArray, List.size_toArray]; exact hsz)) ⟨ho, ho2, ?_⟩
    rw [e]
    exact h2 hw
noncomputable def sIx (n d : Nat) : Option Int → Nat
  | none => d
  | some v => if v < 0 then (v + (n : Int)).toNat else min v.toNat n
theorem sIx_none (n d : Nat) : sIx n d none = d := rfl
theorem sIx_nat (n d k : Nat) : sIx n d (some (k : Int)) = min k n := by
  show (if (k : Int) < 0 then ((k : Int) + (n : Int)).toNat else min (k : Int).toNat n) = min k n
  rw [if_neg (by lia), Int.toNat_natCast]
end
end HT
namespace L2
open PySem PySem.Spec PyProof.Rows
abbrev TO := St → Hp → (Option Int → Hp → Prop) → Prop
noncomputable def PO (X : Cx) (e : Option Expr) (t : TO) : Prop :=
  ∀ (pins : List (Addr × Obj)) (s : Shared) (σ : St) (H : Hp) (Q : Option Int → Hp → Prop), Inv X pins σ H s → t σ H Q →
    wpAny (model X.prog X.w) X.A (evalPart e X.env) (fun u s' => ∃ o H', Inv X pins σ H' s' ∧ IsPart u o ∧ Q o H') X.xe s
noncomputable def tNoPart : TO := fun _ H Q => Q none H
noncomputable def tPart (t : TE) : TO := fun σ H Q => t σ H fun x H1 => ∃ i, x = .int i ∧ Q (some i) H1
section
variable {X : Cx} {e : Expr} {te : TE} {lo hi : Option Expr} {tl th : TO} {pos p2 : Pos}
theorem po_none : PO X none tNoPart := by
  intro pins s σ H Q I h
  rw [evalPart_none]
  exact wpAny_pure ⟨none, H, I, .none, h⟩
theorem po_some (h : PE X e te) : PO X (some e) (tPart te) := by
  intro pins s σ H Q I hw
  rw [evalPart_some]
  refine thn (h pins s σ H _ I hw) fun u s1 ⟨x, H1, I1, r1, q1⟩ => ?_
  obtain ⟨i, rfl, q⟩ := q1
  obtain ⟨t, rfl⟩ := r1
  exact ⟨some i, H1, I1, .int i t, q⟩
noncomputable def SlR (X : Cx) (r : V → Option Int → Option Int → Hp → VK → Prop) : Prop :=
  ∀ (pins : List (Addr × Obj)) (s : Shared) (σ : St) (H : Hp) (x : V) (v vl vu : Value) (lo hi : Option Int) (sl : Addr) (Q : VK), Inv X pins σ H s → RelV x v → s.heap.IsSliceOf sl vl vu .none → IsPart vl lo → IsPart vu hi → r x lo hi H Q →
    ∃ T id, typeLookup (.type T) "__getitem__" = pure (some (.builtin id)) ∧ s.TypeIs v T ∧ wpAny (model X.prog X.w) X.A (getItem v (.ref sl)) (EP X pins σ Q) X.xe s
noncomputable def tSl (r : V → Option Int → Option Int → Hp → VK → Prop) (te : TE) (tl th : TO) : TE := fun σ H Q => te σ H fun x H1 => tl σ H1 fun l H2 => th σ H2 fun u H3 => r x l u H3 Q
theorem pe_slice {r : V → Option Int → Option Int → Hp → VK → Prop} (hr : SlR X r) (he : PE X e te) (hl : PO X lo tl) (hu : PO X hi th) : PE X (.Subscript e (.Slice lo hi none p2) pos) (tSl r te tl th) := by
  intro pins s σ H Q I h
  refine Subscript_ (thn (he pins s σ H _ I h) fun v s1 ⟨x, H1, I1, r1, q1⟩ => ?_)
  refine wpAny_Slice (thn (hl pins s1 σ H1 _ I1 q1) fun vl s2 ⟨l, H2, I2, pl, q2⟩ => thn (hu pins s2 σ H2 _ I2 q2) fun vu s3 ⟨u, H3, I3, pu, q3⟩ => ?_)
  rw [evalPart_none]
  refine wpAny_pure ?_
  have I4 : Inv X pins σ H3 { s3 with heap := s3.heap.push { cls := .type "slice", data := .fields #[vl, vu, .none] } } := I3.kept (t' := s3.toks) fun b ob q => Heap.get?_push_of_some _ q
  obtain ⟨T, id, hT, ht, hg⟩ := hr pins { s3 with heap := s3.heap.push { cls := .type "slice", data := .fields #[vl, vu, .none] } } σ H3 x v vl vu l u s3.heap.objs.size Q I4 r1 (Heap.IsSliceOf.new ..) pl pu q3
  show wpAny (model X.prog X.w) X.A (subscriptTail e (.Slice lo hi none p2) v (.ref s3.heap.objs.size)) (EP X pins σ Q) X.xe { s3 with heap := s3.heap.push { cls := .type "slice", data := .fields #[vl, vu, .none] } }
  exact tail_any (ops := [.ref s3.heap.objs.size, v]) ht hT hg (by with_unfolding_all rfl)
noncomputable def cutV (xs : List V) (lo hi : Option Int) : List V := (xs.drop (HT.sIx xs.length 0 lo)).take (HT.sIx xs.length xs.length hi - HT.sIx xs.length 0 lo)
theorem cutV_length (xs : List V) (lo hi : Option Int) : (cutV xs lo hi).length ≤ xs.length := by
  unfold cutV
  rw [List.length_take, List.length_drop]
  lia
noncomputable def rCatT (K : PySem.W.Frag) : R2 := fun x y H Q => ∃ a b xs ys, x = .ref a ∧ y = .ref b ∧ SqT K H a xs ∧ SqT K H b ys ∧ xs ≠ [] ∧ xs.length + ys.length ≤ sizeLine ∧
  (ys = [] → Q (.ref a) H) ∧ (ys ≠ [] → ∀ p, H p = none → Q (.ref p) (upd H p (.tup (xs ++ ys))))
theorem Vals.nil_iff {xs : List V} {us : List Value} (r : Vals xs us) : us = [] ↔ xs = [] := by
  cases r with
  | nil => simp
  | cons _ _ => simp
theorem op_catT : OpR X (binaryOp .Add) (rCatT X.K) := by
  intro pins s σ H x y v u Q I rx ry h
  obtain ⟨a, b, xs, ys, rfl, rfl, ha, hb, hx, hz, q1, q2⟩ := h
  cases rx
  cases ry
  obtain ⟨its, r1, p1, _⟩ := I.tuple ha
  obtain ⟨its2, r2, p2, _⟩ := I.tuple hb
  refine HT.cat_tup p1 p2 (fun z => hx (r1.nil_iff.mp z)) (fun z => ⟨.ref a, H, I, rfl, q1 (r2.nil_iff.mp z)⟩) (fun z => ?_) (by rw [← r1.length, ← r2.length]; exact hz)
  refine ⟨.ref s.heap.objs.size, _, I.laid (t' := s.toks) (o := .tup (xs ++ ys)) (fun b ob q => Heap.get?_push_of_some _ q) (Nat.le_refl _) ?_, rfl, q2 (fun w => z (r2.nil_iff.mpr w)) _ (I.hok.fresh (Nat.le_refl _))⟩
  exact ⟨by rw [List.length_append]; exact hz, _, r1.append r2, IsTup.new _ _⟩
end
end L2
namespace L2
open PySem PySem.Spec PyProof.Rows
noncomputable def ixN (n : Nat) (i : Int) : Option Nat := if 0 ≤ i then (if i < n then some i.toNat else none) else if -(n : Int) ≤ i then some (i + n).toNat else none
noncomputable def atI {α : Type} (xs : List α) (i : Int) : Option α := (ixN xs.length i).bind fun j => xs[j]?
theorem ixN_seq {n : Nat} {i : Int} {j : Nat} (h : ixN n i = some j) : seqIndex? i n = some j ∧ j < n ∧ -(n : Int) ≤ i ∧ i < n := by
  unfold ixN at h
  by_cases h0 : 0 ≤ i
  · rw [if_pos h0] at h
    by_cases h1 : i < n
    · rw [if_pos h1] at h
      have e : i.toNat = j := Option.some.inj h
      exact ⟨by rw [seqIndex_of h0 h1, e], by lia, by lia, h1⟩
    · rw [if_neg h1] at h; cases h
  · rw [if_neg h0] at h
    by_cases h1 : -(n : Int) ≤ i
    · rw [if_pos h1] at h
      have e : (i + n).toNat = j := Option.some.inj h
      exact ⟨by rw [seqIndex_neg (by lia) h1, e], by lia, h1, by lia⟩
    · rw [if_neg h1] at h; cases h
theorem atI_get {α : Type} {xs : List α} {i : Int} {v : α} (h : atI xs i = some v) : ∃ j, seqIndex? i xs.length = some j ∧ xs[j]? = some v ∧ j < xs.length ∧ -(xs.length : Int) ≤ i ∧ i < xs.length := by
  unfold atI at h
  cases e : ixN xs.length i with
  | none => rw [e] at h; cases h
  | some j =>
    rw [e] at h
    obtain ⟨h1, h2, h3, h4⟩ := ixN_seq e
    exact ⟨j, h1, h, h2, h3, h4⟩
theorem atI_nat {α : Type} {xs : List α} {j : Nat} {v : α} (h : xs[j]? = some v) : atI xs (j : Int) = some v := by
  have hj : j < xs.length := (List.getElem?_eq_some_iff.mp h).1
  have e : ixN xs.length (j : Int) = some j := by
    unfold ixN
    rw [if_pos (by lia), if_pos (by lia)]; simp
  unfold atI; rw [e]; exact h
noncomputable def PlainIx (b : Expr) : Prop := ∀ o i, subscripted b false o i = operate [o, i] (getItem o i)
noncomputable def IxR (X : Cx) (r : R2) : Prop :=
  ∀ (value slice : Expr) (pins : List (Addr × Obj)) (s : Shared) (σ : St) (H : Hp) (x y : V) (v u : Value) (Q : VK), Inv X pins σ H s → RelV x v → RelV y u → r x y H Q →
    subscripted slice false v u = operate [v, u] (getItem v u) → wpAny (model X.prog X.w) X.A (subscriptTail value slice v u) (EP X pins σ Q) X.xe s
noncomputable def MtR (X : Cx) (id : String) (r : V → List V → Hp → VK → Prop) : Prop :=
  ∀ (pins : List (Addr × Obj)) (s : Shared) (σ : St) (H : Hp) (x : V) (xs : List V) (v : Value) (us : List Value) (Q : VK), Inv X pins σ H s → RelV x v → Vals xs us → r x xs H Q →
    wpAny (model X.prog X.w) X.A (call (.builtin id) (v :: us)) (EP X pins σ Q) X.xe s
section
variable {X : Cx} {a b : Expr} {ta tb : TE} {pos : Pos}
theorem pe_ix {r : R2} (hr : IxR X r) (ha : PE X a ta) (hb : PE X b tb) (hs : PlainIx b) : PE X (.Subscript a b pos) (tOp r ta tb) := by
  intro pins s σ H Q I h
  exact Subscript_ (binT ha hb I h fun v u s2 x y H2 I2 rx ry q => hr a b pins s2 σ H2 x y v u Q I2 rx ry q (hs _ _))
noncomputable def rIxL (K : PySem.W.Frag) : R2 := fun x y H Q => ∃ p xs i v, x = .ref p ∧ y = .int i ∧ SqL K H p xs ∧ atI xs i = some v ∧ Q v H
noncomputable def rIxT (K : PySem.W.Frag) : R2 := fun x y H Q => ∃ p xs i v, x = .ref p ∧ y = .int i ∧ SqT K H p xs ∧ atI xs i = some v ∧ Q v H
noncomputable def rIxS : R2 := fun x y H Q => ∃ z i c, x = .str z ∧ y = .int i ∧ z.length ≤ sizeLine ∧ atI z.cps.toList i = some c ∧ Q (.str ⟨#[c]⟩) H
theorem ix_list : IxR X (rIxL X.K) := by
  intro value slice pins s σ H x y v u Q I rx ry h hs
  obtain ⟨p, xs, i, z, rfl, rfl, hq, he, q⟩ := h
  cases rx
  obtain ⟨t, rfl⟩ := ry
  obtain ⟨its, r, pl, hz⟩ := I.list hq
  obtain ⟨j, h1, h2, h3, h4, h5⟩ := atI_get he
  obtain ⟨w, ew, rw'⟩ := r.get h2
  have hl := r.length
  have hn := line63
  have fin : EP X pins σ Q w s := ⟨z, H, I, rw', q⟩
  by_cases h0 : 0 ≤ i
  · have hj : i.toNat = j := by
      rw [seqIndex_of h0 h5] at h1
      exact Option.some.inj h1
    exact item_listR pl.isList h0 (by lia) (by rw [hj]; simpa using ew) fin hs
  · have hj : (i + (its.toArray.size : Int)).toNat = j := by
      rw [seqIndex_neg (by lia) h4] at h1
      rw [List.size_toArray, ← hl]
      exact Option.some.inj h1
    exact subscriptTail_builtinR (x := w) pl.isList.typeIs slot_list_getitem.lookup
      (wpAny_getItem_list_neg (Q := fun r s' => r = w ∧ EP X pins σ Q r s') pl.isList (by lia) (by rw [List.size_toArray] <;> lia) (by lia) (by rw [hj]; simpa using ew) ⟨rfl, fin⟩) hs
theorem ix_tup : IxR X (rIxT X.K) := by
  intro value slice pins s σ H x y v u Q I rx ry h hs
  obtain ⟨p, xs, i, z, rfl, rfl, hq, he, q⟩ := h
  cases rx
  obtain ⟨t, rfl⟩ := ry
  obtain ⟨its, r, pl, hz⟩ := I.tuple hq
  obtain ⟨j, h1, h2, h3, h4, h5⟩ := atI_get he
  obtain ⟨w, ew, rw'⟩ := r.get h2
  have hl := r.length
  have hn := line63
  have fin : EP X pins σ Q w s := ⟨z, H, I, rw', q⟩
  exact subscriptTail_builtinR (x := w) pl.typeIs slot_tuple_getitem.lookup
    (getItem_tuple (j := j) (Q := fun r s' => r = w ∧ EP X pins σ Q r s') pl (by lia) (by lia) (by rw [List.size_toArray, ← hl]; exact h1) (by simpa using ew) ⟨rfl, fin⟩) hs
theorem ix_str : IxR X rIxS := by
  intro value slice pins s σ H x y v u Q I rx ry h hs
  obtain ⟨z, i, c, rfl, rfl, hz, he, q⟩ := h
  obtain ⟨t, rfl⟩ := rx
  obtain ⟨t', rfl⟩ := ry
  obtain ⟨j, h1, h2, h3, h4, h5⟩ := atI_get he
  have hl : z.cps.toList.length = z.length := by simp [Str.length]
  rw [hl] at h1 h4 h5
  have hn := line63
  exact tail_any (typeIs_str s z t) slot_str_getitem.lookup (getItem_str (c := c) (by
    have e1 : decide (i < -(2 ^ 63 : Int)) = false := decide_eq_false (by lia)
    have e2 : decide (i ≥ 2 ^ 63) = false := decide_eq_false (by lia)
    rw [e1, e2, Bool.or_false]) (by rw [h1]; simpa using h2) ⟨.str ⟨#[c]⟩, H, I.tok _, ⟨_, rfl⟩, q⟩) hs
theorem slice_bounds (lo hi : Option Int) (n : Nat) : (sliceBounds lo hi none n).1 = ((HT.sIx n 0 lo : Nat) : Int) ∧ (sliceBounds lo hi none n).2.1 = ((HT.sIx n n hi : Nat) : Int) ∧ (sliceBounds lo hi none n).2.2 = 1 := by
  refine ⟨?_, ?_, rfl⟩
  · cases lo with
    | none => simp [sliceBounds, HT.sIx]
    | some i =>
      simp only [sliceBounds, HT.sIx, Option.getD_none, show (1 : Int) > 0 by decide, if_true]
      by_cases h : i < 0
      · simp only [h, if_true] <;> lia
      · simp only [h, if_false] <;> lia
  · cases hi with
    | none => simp [sliceBounds, HT.sIx]
    | some i =>
      simp only [sliceBounds, HT.sIx, Option.getD_none, show (1 : Int) > 0 by decide, if_true]
      by_cases h : i < 0
      · simp only [h, if_true] <;> lia
      · simp only [h, if_false] <;> lia
theorem slicePick_cut (its : List Value) (lo hi : Option Int) : slicePick its.toArray lo hi none = ((its.drop (HT.sIx its.length 0 lo)).take (HT.sIx its.length its.length hi - HT.sIx its.length 0 lo)).toArray := by
  obtain ⟨h1, h2, h3⟩ := slice_bounds lo hi its.toArray.size
  unfold slicePick
  rw [h1, h2, h3]
  simp only [sliceRange_one, pick_run, List.size_toArray] <;> rfl
noncomputable def rSlL (K : PySem.W.Frag) : V → Option Int → Option Int → Hp → VK → Prop := fun x lo hi H Q => ∃ a xs, x = .ref a ∧ SqL K H a xs ∧ ∀ p, H p = none → Q (.ref p) (upd H p (.lst (cutV xs lo hi)))
theorem sl_list : SlR X (rSlL X.K) := by
  intro pins s σ H x v vl vu lo hi sl Q I rx hs pl pu h
  obtain ⟨a, xs, rfl, hx, q⟩ := h
  cases rx
  obtain ⟨its, r, ht, hz⟩ := I.list hx
  have hlen := r.length
  refine ⟨"list", _, slot_list_getitem.lookup, ht.isList.typeIs, ?_⟩
  refine wpAny_getItem_list_slice ht.isList hs pl pu .none (by simp) ?_ (by rw [List.size_toArray] <;> lia)
  rw [slicePick_cut, ← hlen]
  refine ⟨.ref s.heap.objs.size, _, I.laid (t' := s.toks) (o := .lst (cutV xs lo hi)) (fun b ob q => Heap.get?_push_of_some _ q) (Nat.le_refl _) ?_, rfl, q _ (I.hok.fresh (Nat.le_refl _))⟩
  exact ⟨Nat.le_trans (cutV_length xs lo hi) hz, _, 0, (r.drop (HT.sIx xs.length 0 lo)).take (HT.sIx xs.length xs.length hi - HT.sIx xs.length 0 lo), Heap.get?_push_size _ rfl⟩
noncomputable def flatV : V → Bool
  | .non => true
  | .bl _ => true
  | .int _ => true
  | .str _ => true
  | _ => false
noncomputable def eqV : V → V → Bool
  | .non, .non => true
  | .bl a, .bl b => a == b
  | .bl a, .int b => (if a then 1 else 0) == b
  | .int a, .bl b => a == (if b then 1 else 0)
  | .int a, .int b => a == b
  | .str a, .str b => a == b
  | _, _ => false
theorem eqAt_V {A : Around} {s : Shared} {y x : V} {u v : Value} (ry : RelV y u) (rx : RelV x v) (fy : flatV y = true) (fx : flatV x = true) : SeqAt.EqAt A s u v (eqV y x) := by
  cases y with
  | non =>
    cases ry
    cases x with
    | non => cases rx; exact SeqAt.EqAt.same _
    | bl b => cases rx; exact SeqAt.EqAt.none_bool b
    | int b => obtain ⟨t, rfl⟩ := rx; exact SeqAt.EqAt.none_int b t
    | str b => obtain ⟨t, rfl⟩ := rx; exact SeqAt.EqAt.none_str b t
    | _ => exact absurd (show false = true from fx) Bool.false_ne_true
  | bl a =>
    cases ry
    cases x with
    | non => cases rx; exact SeqAt.EqAt.bool_none a
    | bl b => cases rx; exact SeqAt.EqAt.bool_bool a b
    | int b => obtain ⟨t, rfl⟩ := rx; exact SeqAt.EqAt.bool_int a b t
    | str b => obtain ⟨t, rfl⟩ := rx; exact SeqAt.EqAt.bool_str a b t
    | _ => exact absurd (show false = true from fx) Bool.false_ne_true
  | int a =>
    obtain ⟨t', rfl⟩ := ry
    cases x with
    | non => cases rx; exact SeqAt.EqAt.int_none a t'
    | bl b => cases rx; exact SeqAt.EqAt.int_bool a t' b
    | int b => obtain ⟨t, rfl⟩ := rx; exact SeqAt.EqAt.int_int a t' b t
    | str b => obtain ⟨t, rfl⟩ := rx; exact SeqAt.EqAt.int_str a t' b t
    | _ => exact absurd (show false = true from fx) Bool.false_ne_true
  | str a =>
    obtain ⟨t', rfl⟩ := ry
    cases x with
    | non => cases rx; exact SeqAt.EqAt.str_none a t'
    | bl b => cases rx; exact SeqAt.EqAt.str_bool a t' b
    | int b => obtain ⟨t, rfl⟩ := rx; exact SeqAt.EqAt.str_int a t' b t
    | str b => obtain ⟨t, rfl⟩ := rx; exact SeqAt.EqAt.str_str a t' b t
    | _ => exact absurd (show false = true from fx) Bool.false_ne_true
  | _ => exact absurd (show false = true from fy) Bool.false_ne_true
noncomputable def eqU (x : V) (u : Value) : Bool := match u with
  | .none => eqV .non x
  | .bool b => eqV (.bl b) x
  | .int i _ => eqV (.int i) x
  | .str z _ => eqV (.str z) x
  | _ => false
theorem eqU_of {x y : V} {u : Value} (r : RelV y u) (f : flatV y = true) : eqU x u = eqV y x := by
  cases y with
  | non => cases r; rfl
  | bl b => cases r; rfl
  | int i => obtain ⟨t, rfl⟩ := r; rfl
  | str z => obtain ⟨t, rfl⟩ := r; rfl
  | _ => exact absurd (show false = true from f) Bool.false_ne_true
theorem any_eqU {x : V} : ∀ {xs : List V} {us : List Value}, Vals xs us → xs.all flatV = true → us.any (eqU x) = xs.any fun y => eqV y x
  | _, _, .nil, _ => rfl
  | y :: xs, u :: us, .cons r t, f => by
    rw [List.all_cons, Bool.and_eq_true] at f
    rw [List.any_cons, List.any_cons, eqU_of r f.1, any_eqU t f.2]
theorem mem_eqAt {A : Around} {s : Shared} {x : V} {v : Value} (rx : RelV x v) (fx : flatV x = true) : ∀ {xs : List V} {us : List Value}, Vals xs us → xs.all flatV = true → ∀ u ∈ us, SeqAt.EqAt A s u v (eqU x u)
  | _, _, .nil, _ => fun u hu => by cases hu
  | y :: xs, u :: us, .cons r t, f => fun u' hu => by
    rw [List.all_cons, Bool.and_eq_true] at f
    rcases List.mem_cons.mp hu with rfl | hu
    · rw [eqU_of r f.1]; exact eqAt_V r rx f.1 fx
    · exact mem_eqAt rx fx t f.2 u' hu
noncomputable def inV (x : V) (xs : List V) : Bool := xs.any fun y => eqV y x
noncomputable def rIn (K : PySem.W.Frag) (neg : Bool) : R2 := fun x y H Q => ∃ p xs, y = .ref p ∧ (SqL K H p xs ∨ SqT K H p xs) ∧ flatV x = true ∧ xs.all flatV = true ∧ Q (.bl (if neg then !inV x xs else inV x xs)) H
theorem op_in_seq : OpR X (compareOp .In) (rIn X.K false) := by
  intro pins s σ H x y v u Q I rx ry h
  obtain ⟨p, xs, rfl, hq, fx, fs, q⟩ := h
  cases ry
  rcases hq with hq | hq
  · obtain ⟨its, r, pl, hz⟩ := I.list hq
    refine SeqAt.in_listAt (eqU x) pl.isList (fun w hw => mem_eqAt rx fx r fs w (by simpa using hw)) ⟨.bl _, H, I, rfl, ?_⟩
    rw [show its.toArray.any (eqU x) = its.any (eqU x) by simp, any_eqU r fs]
    exact q
  · obtain ⟨its, r, pl, hz⟩ := I.tuple hq
    refine SeqAt.in_tupleAt (eqU x) pl (fun w hw => mem_eqAt rx fx r fs w (by simpa using hw)) ⟨.bl _, H, I, rfl, ?_⟩
    rw [show its.toArray.any (eqU x) = its.any (eqU x) by simp, any_eqU r fs]
    exact q
theorem op_notIn_seq : OpR X (compareOp .NotIn) (rIn X.K true) := by
  intro pins s σ H x y v u Q I rx ry h
  obtain ⟨p, xs, rfl, hq, fx, fs, q⟩ := h
  cases ry
  rcases hq with hq | hq
  · obtain ⟨its, r, pl, hz⟩ := I.list hq
    refine SeqAt.notIn_listAt (eqU x) pl.isList (fun w hw => mem_eqAt rx fx r fs w (by simpa using hw)) ⟨.bl _, H, I, rfl, ?_⟩
    rw [show its.toArray.any (eqU x) = its.any (eqU x) by simp, any_eqU r fs]
    exact q
  · obtain ⟨its, r, pl, hz⟩ := I.tuple hq
    refine SeqAt.notIn_tupleAt (eqU x) pl (fun w hw => mem_eqAt rx fx r fs w (by simpa using hw)) ⟨.bl _, H, I, rfl, ?_⟩
    rw [show its.toArray.any (eqU x) = its.any (eqU x) by simp, any_eqU r fs]
    exact q
theorem call_len_seq : CallR X (.builtin "len") (fun xs H Q => ∃ p ys, xs = [.ref p] ∧ (SqL X.K H p ys ∨ SqT X.K H p ys) ∧ Q (.int ys.length) H) := by
  intro pins s σ H xs us Q I r h
  obtain ⟨p, ys, rfl, hq, q⟩ := h
  obtain ⟨u, rfl, rx⟩ := vals1 r
  cases rx
  have hn := line63
  rcases hq with hq | hq
  · obtain ⟨its, r', pl, hz⟩ := I.list hq
    have hlen := r'.length
    exact Calls.call_len_list pl.isList (by simp only [List.size_toArray] <;> lia) ⟨.int ys.length, H, I.tok _, ⟨s.toks + 1, by rw [List.size_toArray, hlen]⟩, q⟩
  · obtain ⟨its, r', pl, hz⟩ := I.tuple hq
    have hlen := r'.length
    exact len_tuple pl (by simp only [List.size_toArray] <;> lia) ⟨.int ys.length, H, I.tok _, ⟨s.toks + 1, by rw [List.size_toArray, hlen]⟩, q⟩
theorem call_list_of : CallR X (.type "list") (fun xs H Q => ∃ p ys, xs = [.ref p] ∧ (SqL X.K H p ys ∨ SqT X.K H p ys) ∧ ∀ l, H l = none → Q (.ref l) (upd H l (.lst ys))) := by
  intro pins s σ H xs us Q I r h
  obtain ⟨p, ys, rfl, hq, q⟩ := h
  obtain ⟨u, rfl, rx⟩ := vals1 r
  cases rx
  have fin : ∀ (its : List Value), Vals ys its → ys.length ≤ sizeLine → ∀ (h' : Heap) (c' : Nat), (∀ b o', s.heap.get? b = some o' → h'.get? b = some o') →
      h'.get? s.heap.objs.size = some { cls := .type "list", dict := none, data := .seq its.toArray c', slots := #[] } → EP X pins σ Q (.ref s.heap.objs.size) { s with heap := h' } := fun its r' hz h' c' kp e =>
    ⟨.ref s.heap.objs.size, _, I.laid (t' := s.toks) kp (Nat.le_refl _) (show ObjOk X.prog X.w _ h' _ (.lst ys) from ⟨hz, its, c', r', e⟩), rfl, q _ (I.hok.fresh (Nat.le_refl _))⟩
  rcases hq with hq | hq
  · obtain ⟨its, r', pl, hz⟩ := I.list hq
    have hlen := r'.length
    obtain ⟨o, ho, hc, n, hd⟩ := pl.isList
    exact call_list_seq p (.inl rfl) ho hc hd (fun h' c' kp e => fin its r' hz h' c' kp e) (by simp only [List.size_toArray] <;> lia)
  · obtain ⟨its, r', pl, hz⟩ := I.tuple hq
    have hlen := r'.length
    obtain ⟨o, ho, hc, n, hd⟩ := pl
    exact call_list_seq p (.inr rfl) ho hc hd (fun h' c' kp e => fin its r' hz h' c' kp e) (by simp only [List.size_toArray] <;> lia)
noncomputable def tyV (K : PySem.W.Frag) (T : String) (x : V) (H : Hp) : Prop := match x with
  | .str _ => T = "str"
  | .int _ => T = "int"
  | .ref p => (T = "list" ∧ ∃ xs, SqL K H p xs) ∨ (T = "tuple" ∧ ∃ o, K.lookup p = some o ∧ o.cls = .type "tuple" ∧ o.dict = none) ∨
      (T = "dict" ∧ ((∃ kvs, H p = some (.dK kvs)) ∨ ∃ kvs, H p = some (.dT kvs))) ∨ (T = "set" ∧ ∃ S n, H p = some (.set S n))
  | _ => False
theorem tyV_is {pins : List (Addr × Obj)} {σ : St} {H : Hp} {s : Shared} {T : String} {x : V} {v : Value} (I : Inv X pins σ H s) (r : RelV x v) (ty : tyV X.K T x H) :
    s.TypeIs v T ∧ ∀ a, v = .ref a → ∃ ob, s.heap.get? a = some ob ∧ ob.dict = none := by
  cases x with
  | str z =>
    obtain ⟨t, rfl⟩ := r
    cases (show T = "str" from ty)
    exact ⟨typeIs_str s z t, fun _ e => nomatch e⟩
  | int i =>
    obtain ⟨t, rfl⟩ := r
    cases (show T = "int" from ty)
    exact ⟨typeIs_int s i t, fun _ e => nomatch e⟩
  | ref p =>
    cases r
    rcases ty with ⟨rfl, xs, hq⟩ | ⟨rfl, o, hk, hc, hd⟩ | ⟨rfl, hk⟩ | ⟨rfl, S, n, hk⟩
    · obtain ⟨its, _, pl, _⟩ := I.list hq
      refine ⟨pl.isList.typeIs, fun a e => ?_⟩
      cases e
      obtain ⟨o, n, e, c, hd, _⟩ := pl
      exact ⟨o, e, hd⟩
    · refine ⟨⟨o, I.kIn p o hk, hc⟩, fun a e => ?_⟩
      cases e
      exact ⟨o, I.kIn _ o hk, hd⟩
    · have z : ∃ o, s.heap.get? p = some o ∧ o.ExactDict := by
        rcases hk with ⟨kvs, hk⟩ | ⟨kvs, hk⟩
        · obtain ⟨_, _, _, _, o, _, _, e, ex, _⟩ := I.hok p _ hk
          exact ⟨o, e, ex⟩
        · obtain ⟨_, _, _, _, o, _, _, e, ex, _⟩ := I.hok p _ hk
          exact ⟨o, e, ex⟩
      obtain ⟨o, e, ex⟩ := z
      refine ⟨⟨o, e, ex.1⟩, fun a e2 => ?_⟩
      cases e2
      exact ⟨o, e, ex.2.1⟩
    · obtain ⟨o, _, _, _, e, ex, _⟩ := I.hok p _ hk
      refine ⟨⟨o, e, ex.1⟩, fun a e2 => ?_⟩
      cases e2
      exact ⟨o, e, ex.2.1⟩
  | _ => exact False.elim ty
noncomputable def tBM0 (K : PySem.W.Frag) (T : String) (r : V → List V → Hp → VK → Prop) (to : TE) : TE := fun σ H Q => to σ H fun x H1 => tyV K T x H1 ∧ r x [] H1 Q
noncomputable def tBM (K : PySem.W.Frag) (T : String) (r : V → List V → Hp → VK → Prop) (to : TE) (t : TA) : TE := fun σ H Q => to σ H fun x H1 => tyV K T x H1 ∧ t σ H1 fun xs H2 => r x xs H2 Q
variable {o e : Expr} {es : List Expr} {to : TE} {t : TA} {name : Str} {apos cpos : Pos} {T id : String} {r : V → List V → Hp → VK → Prop}
theorem pe_bm0 (pa : PlainAttrs T) (slot : Slot T name id) (hty : typeOf (.builtin id) = pure (.type "method_descriptor")) (hm : MtR X id r) (ho : PE X o to)
    (hbase : attributeBase o name X.env (eval o X.env) = eval o X.env := by rfl) (hline : (apos.endLine == cpos.line) = true := by rfl) : PE X (.Call (.Attribute o name apos) [] [] cpos) (tBM0 X.K T r to) := by
  intro pins s σ H Q I h
  refine wpAny_Call_method0_late hbase hline (thn (ho pins s σ H _ I h) fun v s1 ⟨x, H1, I1, r1, ty, q1⟩ => ?_)
  obtain ⟨h1, h2⟩ := tyV_is I1 r1 ty
  exact ⟨T, id, pa, slot, hty, h1, h2, Calls.callWith_builtin rfl (PySem.evalArgs_none (hm pins s1 σ H1 x [] v [] Q I1 r1 .nil q1))⟩
theorem pe_bm (pa : PlainAttrs T) (slot : Slot T name id) (hty : typeOf (.builtin id) = pure (.type "method_descriptor")) (hm : MtR X id r) (ho : PE X o to) (ha : PA X (e :: es) t)
    (hbase : attributeBase o name X.env (eval o X.env) = eval o X.env := by rfl)
    (hfew : ((backTo cpos (starEach (e :: es) X.env)).all (fun x => !x.1) && (backToKw cpos (keywordEach [] X.env)).all (fun x => x.1.isSome)
      && decide ((e :: es).length + ([] : List Keyword).length + (if ([] : List Keyword).isEmpty then 0 else 1) < 30)) = true := by rfl)
    (hline : (apos.endLine == cpos.line) = true := by rfl) (hs : starEach (e :: es) X.env = (false, eval e X.env) :: starEach es X.env := by rfl) (hplain : (backTo cpos (starEach es X.env)).any (·.1) = false := by rfl) :
    PE X (.Call (.Attribute o name apos) (e :: es) [] cpos) (tBM X.K T r to t) := by
  intro pins s σ H Q I h
  refine wpAny_Call_method_late hbase hfew hline rfl (thn (ho pins s σ H _ I h) fun v s1 ⟨x, H1, I1, r1, ty, q1⟩ => ?_)
  obtain ⟨h1, h2⟩ := tyV_is I1 r1 ty
  refine ⟨T, id, pa, slot, hty, h1, h2, ?_⟩
  have hA := ha cpos pins s1 σ H1 _ I1 q1
  rw [hs] at hA ⊢
  refine Calls.callWith_builtin (by show (false || (backTo cpos (starEach es X.env)).any (·.1)) = false; rw [hplain] <;> rfl) (Calls.evalArgs_plain ?_)
  exact thn hA fun us s2 ⟨vs, H2, I2, r2, q2⟩ => hm pins s2 σ H2 x vs v us Q I2 r1 r2 q2
/- xs.append(e), list.index on a module's tuple .. are MtR facts of 06m -/
end
end L2
namespace L2
open PySem PySem.Spec PyProof.Rows
noncomputable def MtM (X : Cx) (id : String) (r : V → List V → Hp → VK → Prop) : Prop :=
  ∀ (pins : List (Addr × Obj)) (s : Shared) (σ : St) (H : Hp) (x : V) (xs : List V) (v : Value) (us : List Value) (Q : VK), Inv X pins σ H s → RelV x v → Vals xs us → r x xs H Q →
    wpAny (model X.prog X.w) X.A (call (.builtin id) (v :: us)) (EP X pins σ Q) X.xe s
theorem Vals.one : ∀ {x : V} {us : List Value}, Vals [x] us → ∃ u, us = [u] ∧ RelV x u
  | _, _, .cons r .nil => ⟨_, rfl, r⟩
theorem Vals.zero : ∀ {us : List Value}, Vals [] us → us = []
  | _, .nil => rfl
section
variable {X : Cx} {pins : List (Addr × Obj)} {σ : St} {H : Hp} {s : Shared} {l b : Addr} {xs ys zs : List V}
theorem Inv.lset {its its' : List Value} {n : Nat} {f : Array Value → Array Value} {t' : Nat} (I : Inv X pins σ H s) (hH : H l = some (.lst xs))
    (e : s.heap.get? l = some { cls := .type "list", data := .seq its.toArray n }) (hf : f its.toArray = its'.toArray) (hv : Vals ys its') (hz : ys.length ≤ sizeLine) :
    Inv X pins σ (upd H l (.lst ys)) { s with heap := s.heap.update l (Obj.mapSeq f), toks := t' } := by
  have q := PySem.IsL.update e f
  rw [hf] at q
  refine I.write (x := l) (e := l) (by rw [hH]; exact trivial) (.inl rfl) (fun b' u hb hu => (Heap.get?_update_other s.heap (Obj.mapSeq f) (Ne.symm hb)).trans hu) ⟨_, q⟩ ?_
  exact ⟨hz, its', _, hv, q⟩
theorem Inv.lnew {its : List Value} {t' : Nat} (I : Inv X pins σ H s) (hv : Vals ys its) (hz : ys.length ≤ sizeLine) :
    Inv X pins σ (upd H s.heap.objs.size (.lst ys)) { s with heap := s.heap.push { cls := .type "list", data := .seq its.toArray }, toks := t' } :=
  I.laid (fun _ _ q => Heap.get?_push_of_some _ q) (Nat.le_refl _) ⟨hz, its, 0, hv, Heap.get?_push_size _ rfl⟩
theorem Inv.fresh (I : Inv X pins σ H s) : H s.heap.objs.size = none := I.hok.fresh (Nat.le_refl _)
theorem Inv.lstM (I : Inv X pins σ H s) (hH : H l = some (.lst xs)) : xs.length ≤ sizeLine ∧ ∃ (its : List Value) (n : Nat), Vals xs its ∧ xs.length = its.length ∧ s.heap.get? l = some { cls := .type "list", data := .seq its.toArray n } := by
  obtain ⟨z, its, n, r, e⟩ := I.hok l _ hH
  exact ⟨z, its, n, r, r.length, e⟩
theorem notLongL {n : Nat} (h : n ≤ sizeLine) : Builtin.List.listTooLong n = false := by
  unfold Builtin.List.listTooLong
  exact decide_eq_false (by lia)
end
section
variable {X : Cx}
noncomputable def rAppend : V → List V → Hp → VK → Prop := fun x vs H Q => ∃ l xs y, x = .ref l ∧ vs = [y] ∧ H l = some (.lst xs) ∧ xs.length < sizeLine ∧ Q .non (upd H l (.lst (xs ++ [y])))
theorem mt_append : MtM X "list.append" rAppend := by
  intro pins s σ H x vs v us Q I rx rv h
  obtain ⟨l, xs, y, rfl, rfl, hH, hz, q⟩ := h
  cases rx
  obtain ⟨u, rfl, ru⟩ := rv.one
  obtain ⟨z, its, n, r, hl, e⟩ := I.lstM hH
  refine call_meets F.slot_list_append ⟨_, e, rfl⟩ F.entry_list_append (F.args_list_append_2 _ _) (PySem.list_append l its.toArray n u (by rw [List.size_toArray]; lia)) ⟨e, ?_⟩
  refine ⟨.non, _, I.lset (its' := its ++ [u]) hH e (by simp) (r.append (.cons ru .nil)) ?_, rfl, q⟩
  rw [List.length_append, List.length_singleton]
  lia
noncomputable def rExtend : V → List V → Hp → VK → Prop := fun x vs H Q => ∃ l b xs zs, x = .ref l ∧ vs = [.ref b] ∧ H l = some (.lst xs) ∧ H b = some (.lst zs) ∧ xs.length + zs.length ≤ sizeLine ∧ Q .non (upd H l (.lst (xs ++ zs)))
theorem mt_extend : MtM X "list.extend" rExtend := by
  intro pins s σ H x vs v us Q I rx rv h
  obtain ⟨l, b, xs, zs, rfl, rfl, hH, hB, hz, q⟩ := h
  cases rx
  obtain ⟨u, rfl, ru⟩ := rv.one
  cases ru
  obtain ⟨z, its, n, r, hl, e⟩ := I.lstM hH
  obtain ⟨z2, its2, n2, r2, hl2, e2⟩ := I.lstM hB
  have hsz : its.toArray.size + its2.toArray.size ≤ sizeLine := by rw [List.size_toArray, List.size_toArray]; lia
  have hlong : ¬ (!its.toArray.isEmpty && Builtin.List.listTooLong (its.toArray.size + its2.toArray.size)) = true := by
    rw [notLongL hsz, Bool.and_false]
    exact Bool.false_ne_true
  refine call_meets F.slot_list_extend ⟨_, e, rfl⟩ F.entry_list_extend (F.args_list_extend_2 _ _)
    (AutoSeq1.list_extend_list_list_0 l its.toArray n b its2.toArray n2 hlong (by rw [List.size_toArray]; lia) (by lia)) ⟨e, e2, ?_⟩
  refine ⟨.non, _, I.lset (its' := its ++ its2) hH e (by simp) (r.append r2) ?_, rfl, q⟩
  rw [List.length_append]
  lia
noncomputable def rClear : V → List V → Hp → VK → Prop := fun x vs H Q => ∃ l xs, x = .ref l ∧ vs = [] ∧ H l = some (.lst xs) ∧ Q .non (upd H l (.lst []))
theorem mt_clear : MtM X "list.clear" rClear := by
  intro pins s σ H x vs v us Q I rx rv h
  obtain ⟨l, xs, rfl, rfl, hH, q⟩ := h
  cases rx
  have hus := rv.zero
  subst hus
  obtain ⟨z, its, n, r, hl, e⟩ := I.lstM hH
  refine call_meets F.slot_list_clear ⟨_, e, rfl⟩ F.entry_list_clear (F.args_list_clear_1 _) (AutoSeq1.list_clear_list_0 l its.toArray n (by rw [List.size_toArray]; lia)) ⟨e, ?_⟩
  exact ⟨.non, _, I.lset (its' := []) (ys := []) hH e rfl .nil (Nat.zero_le _), rfl, q⟩
noncomputable def rCat : R2 := fun x y H Q => ∃ l b xs zs, x = .ref l ∧ y = .ref b ∧ H l = some (.lst xs) ∧ H b = some (.lst zs) ∧ xs.length + zs.length ≤ sizeLine ∧ ∀ p, H p = none → Q (.ref p) (upd H p (.lst (xs ++ zs)))
theorem op_cat : OpR X (binaryOp .Add) rCat := by
  intro pins s σ H x y v u Q I rx ry h
  obtain ⟨l, b, xs, zs, rfl, rfl, hH, hB, hz, q⟩ := h
  cases rx
  cases ry
  obtain ⟨z, its, n, r, hl, e⟩ := I.lstM hH
  obtain ⟨z2, its2, n2, r2, hl2, e2⟩ := I.lstM hB
  refine PySem.P.add_list e e2 ?_ (by rw [List.size_toArray, List.size_toArray]; lia)
  have ea : its.toArray ++ its2.toArray = (its ++ its2).toArray := by simp
  rw [ea]
  exact ⟨.ref _, _, I.lnew (t' := s.toks) (r.append r2) (by rw [List.length_append]; lia), rfl, q _ I.fresh⟩
end
section
variable {prog : Program} {w : World} {A : Around} {E : Value → Shared → Prop} {s : Shared}
end
section
variable {X : Cx}
end
end L2
namespace Att
open PySem PySem.W PySem.Calls PyProof.Rows
theorem ints_of_wellAll {P : Params} {h : Heap} : ∀ (ns : List Int) (vs : List Value), WellAll P h vs (ns.map WData.int) → IntsAre vs ns := by
  intro ns
  induction ns with
  | nil =>
    intro vs w
    rw [List.map_nil] at w
    cases w
    exact .nil
  | cons n ns ih =>
    intro vs w
    rw [List.map_cons] at w
    cases w with
    | cons a b =>
      cases a
      exact .cons _ _ (ih _ b)
theorem script_of {l : OpenLaw} {n : Nat} (hn : l.most = some n) {P : Params} {h : Heap} {args : List WData} {vals : List Value}
    (hpre : l.row.toRowW.claim.pre args = true) (hwl : WellAll P h vals args) :
    ∃ a vs ns, vals = [Value.ref a] ∧ args = [WData.list (ns.map WData.int)] ∧ h.get? a = some { cls := .type "list", data := .seq vs.toArray } ∧ IntsAre vs ns ∧ ns.length ≤ n := by
  have hsh : WShape.hasAll [] args [.list .int] = true := (pre_splitW hpre).1
  have hc : l.pre.holds [] { args := args } = true := (pre_splitW hpre).2
  obtain ⟨d, r, rfl, h1, h2⟩ := hasAllW_cons hsh
  obtain rfl := hasAllW_nil h2
  obtain ⟨xs, rfl, h3⟩ := hasW_list h1
  obtain ⟨ns, rfl⟩ := items_int h3
  have hlen : ns.length ≤ n := by
    unfold OpenLaw.pre at hc
    have h4 : (WTm.not (.lt (.lit (.int (n : Int))) (.len (.arg 0)))).holds [] { args := [.list (ns.map .int)] } = true := by
      have h4 := (holds_andW hc).1
      rw [hn] at h4
      exact h4
    have h5 := condW_of h4 (w_not (w_lt w_lit (w_len_list (w_arg rfl))))
    rw [List.length_map] at h5
    refine Nat.le_of_not_lt fun q => ?_
    have q' : (n : Int) < ((ns.length : Nat) : Int) := by lia
    first
      | (rw [decide_eq_true q'] at h5; exact absurd h5 (by decide))
      | (simp at h5; lia)
  cases hwl with
  | cons w1 w2 =>
    cases w2
    cases w1 with
    | list ho hall => exact ⟨_, _, ns, rfl, rfl, ho, ints_of_wellAll ns _ hall, hlen⟩
theorem post_true (l : OpenLaw) (args : List WData) : l.row.toRowW.claim.post args (.bool true) args = true :=
  postW_of (r := l.row.toRowW) (X := (true == true))
    (show WShape.has [] (.bool true) .bool = true by first | rfl | decide | simp [WShape.has, WShape.arms, WShape.armsAll])
    (show (WTm.eq .res (.lit (.bool true))).value [] { args := args, res := some (.bool true), after := args } = some (.bool (true == true)) from w_eq_bool (w_res rfl) w_lit) rfl
theorem attach_call {l : OpenLaw} {n : Nat} {q : Program} {loose : List Str} {XP : (Str → Option Value) → Heap → Prop} {YP : World → Heap → Prop} {d : DefRec}
    (hn : l.most = some n) (hdf : d.params.defaults = [])
    (call : ∀ (w : World) (s₀ s₁ : Shared) (mg mb : Str → Option Value) (fa : Addr) (o : Obj) (pm cd doc : Value) (a : Addr) (vs : List Value) (ns : List Int),
      Ground q loose [] XP w s₀ mg mb s₁.heap → YP w s₁.heap →
      s₁.heap.get? fa = some o → o.data = .func (docDef d.name d.params d.body d.scope pm cd doc) → s₁.heap.CodeRec cd d.name → mg d.name = some (.ref fa) →
      s₁.heap.get? a = some { cls := .type "list", data := .seq vs.toArray } → IntsAre vs ns → ns.length ≤ n → s₁.gens = #[] →
      codeAny (model l.prog w) callerA (.call (.ref fa) ⟨[.ref a], []⟩) (fun r s' => r = .ok (.ret (.bool true)) ∧ OldK s₁.heap s'.heap ∧ s'.os = s₁.os ∧ AllBare s'.gens) s₁) :
    WalkO q loose XP YP l.row.toRowW d [] (fun f vs => PySem.call f vs) := by
  intro w s₀ s₁ mg mb G Y fa o pm cd doc dV kV ho hd hcd hD hmg hg args vals as hpre hlay hrd hwl hlo
  obtain rfl : dV = .none := Dflts.none hD hdf
  obtain rfl : kV = .none := Dflts.noKw hD
  obtain ⟨a, vs, ns, rfl, rfl, hobj, hints, hlen⟩ := script_of hn hpre hwl
  refine enter_call (codeAny_mono (call w s₀ s₁ mg mb fa o pm cd doc a vs ns G Y ho (fd_plain hd) hcd hmg hobj hints hlen hg) fun r s' hq => ?_)
  obtain ⟨rfl, h2, h3, h4⟩ := hq
  exact ⟨.inl ⟨.bool true, .bool true, [], rfl, fun _ => rfl, .bool true, post_true l _, fun _ => ⟨List.Pairwise.nil, fun _ hm => (nomatch hm)⟩⟩, h2, h3, h4⟩
section
variable {prog : Program} {w : World} {A : Around} {E : Value → Shared → Prop} {s : Shared} {K : Frag}
end
end Att
namespace L2
open PySem PySem.Spec PyProof.Rows
theorem vals_ints : ∀ {vs : List Value} {ns : List Int}, IntsAre vs ns → Vals (ns.map V.int) vs
  | _, _, .nil => .nil
  | _, _, .cons n t h => .cons ⟨t, rfl⟩ (vals_ints h)
noncomputable def Only (H : Hp) : Prop := ∀ b, H b = none ∨ ∃ o xs, H b = some (.frz o (.lst xs))
theorem law_call {P : Program} {w : World} {K : PySem.W.Frag} {mg mb : Str → Option Value} {CX : CXT} {k : Nat} {fa a : Addr} {fd : FuncData} {x : Str} {sp : Sp} {s₁ : Shared} {vs : List Value} {ns : List Int}
    (KX : K.In s₁.heap) (hns : s₁.heap.Ns mainGlobals mg) (hb : s₁.heap.Ns builtinsNs mb) (hbb : ∀ x : Str, x ≠ "__name__" → mb x = bootBuiltins x) (hlim : s₁.heap.NoLimit) (hg : s₁.gens = #[])
    (ha : s₁.heap.get? a = some { cls := .type "list", data := .seq vs.toArray }) (hi : IntsAre vs ns) (hl : ns.length ≤ sizeLine) (hr : Room k callerA)
    (F : ∀ base : Heap, K.In base → base.Ns mainGlobals mg → FnOk P w K mg base CX k fa fd [x] sp) (hbind : ∀ (s : Shared) (u : Value), BindsTo s fd ⟨[u], []⟩ [(x, u)])
    (hsp : ∀ H : Hp, Only H → SqL K H a (ns.map V.int) → sp [.ref a] H (fun v _ => v = .bl true) fun _ _ _ => False)
    (hCX : ∀ H e s', CX [] H s₁ (fun _ _ _ => False) e s' → False) :
    codeAny (model P w) callerA (.call (.ref fa) ⟨[.ref a], []⟩) (fun r s' => r = .ok (.ret (.bool true)) ∧ OldK s₁.heap s'.heap ∧ s'.os = s₁.os ∧ AllBare s'.gens) s₁ := by
  have rv := vals_ints hi
  have lenV := hi.length
  have core : ∀ H : Hp, Only H → SqL K H a (ns.map V.int) → HOk P w H s₁.heap → (∀ b, H b ≠ none → b = a) → (H a ≠ none → K.lookup a = none) →
      codeAny (model P w) callerA (.call (.ref fa) ⟨[.ref a], []⟩) (fun r s' => r = .ok (.ret (.bool true)) ∧ OldK s₁.heap s'.heap ∧ s'.os = s₁.os ∧ AllBare s'.gens) s₁ := by
    intro H hO hS hok hA hK
    have base_of : ∀ {b : Addr} {o : Obj}, s₁.heap.get? b = some o → H b = none → (hidT s₁.heap H).get? b = some o := fun e n => hidT_get e n
    have noA : ∀ {b : Addr} {o : Obj} {es : Array DictEntry} {ep : Nat}, s₁.heap.get? b = some o → o.data = .dict es ep → H b = none := fun {b o es ep} e d => by
      cases q : H b with
      | none => rfl
      | some u =>
        have e' : b = a := hA b (by rw [q]; simp)
        subst e'
        rw [ha] at e; cases e
        have d' : Data.seq vs.toArray _ = Data.dict es ep := d
        cases d'
    have nsK : ∀ {b : Addr} {m : Str → Option Value}, s₁.heap.Ns b m → (hidT s₁.heap H).Ns b m := fun {b m} ⟨o, es, ep, e, d, r⟩ => ⟨o, es, ep, base_of e (noA e d), d, r⟩
    have hKb : K.In (hidT s₁.heap H) := fun b o e => base_of (KX b o e) (by
      cases q : H b with
      | none => rfl
      | some u =>
        have e' : b = a := hA b (by rw [q]; simp)
        subst e'
        rw [hK (by rw [q]; simp)] at e; cases e)
    have hM : Mod K mg (hidT s₁.heap H) := ⟨hKb, nsK hns, ⟨mb, nsK hb, hbb⟩, let ⟨mc, h1, h2⟩ := hlim; ⟨mc, nsK h1, h2⟩⟩
    have e0 : Env0 P w K mg (hidT s₁.heap H) callerA [] s₁ H := ⟨rfl, hM, fun b o e => of_hidT e, Nat.le_of_eq (hidT_size _ _), trivial, fun b hb => absurd (show b ∈ ([] : List Addr) from hb) (by simp), hok, .of_eq hg⟩
    refine codeAny_mono ((F _ hKb (nsK hns)).run callerA [] s₁ H ⟨[.ref a], []⟩ [.ref a] [.ref a] _ _ hr e0 (hbind s₁ (.ref a)) (.cons rfl .nil) (hsp H hO hS)) fun r s' h => ?_
    cases r with
    | error e => exact (hCX H e s' h).elim
    | ok fl =>
      cases fl with
      | next => exact False.elim h
      | brk => exact False.elim h
      | cont => exact False.elim h
      | ret u =>
        obtain ⟨v, H', os, bare, un, hok', r', q⟩ := h
        have q' : v = .bl true := q
        subst q'
        obtain rfl : u = Value.bool true := r'
        refine ⟨rfl, OldK.of_keep fun b o e => ?_, os, bare⟩
        cases q : H b with
        | none => exact un.keep b o e q (by intro z; exact absurd (show b ∈ ([] : List Addr) from z) (by simp)) (by simp)
        | some u =>
          rcases hO b with z | ⟨ob, xs, z⟩
          · rw [q] at z; cases z
          · have z2 := un.frzs b ob _ z
            obtain ⟨e1, _⟩ := hok b _ z
            obtain ⟨e2, _⟩ := hok' b _ z2
            rw [e] at e1; cases e1
            exact e2
  cases hk : K.lookup a with
  | some o =>
    have e := KX a o hk
    rw [ha] at e
    cases e
    refine core (fun _ => none) (fun _ => .inl rfl) (.inr ⟨_, vs.toArray, _, hk, rfl, rfl, rfl, by rw [List.size_toArray, lenV]; exact hl, by simpa using rv⟩) (fun b u z => by have z' : (none : Option HO) = some u := z; cases z') (fun b z => absurd rfl z) fun z => absurd rfl z
  | none =>
    refine core (fun b => if b = a then some (.frz { cls := .type "list", data := .seq vs.toArray } (.lst (ns.map V.int))) else none) (fun b => ?_) (.inl (.inr ⟨{ cls := .type "list", data := .seq vs.toArray }, if_pos rfl⟩)) (fun b u z => ?_) (fun b z => ?_) fun _ => hk
    · by_cases hb : b = a
      · exact .inr ⟨_, _, if_pos hb⟩
      · exact .inl (if_neg hb)
    · by_cases hb : b = a
      · have z' := (if_pos hb).symm.trans z
        cases z'
        subst hb
        exact ⟨ha, by rw [List.length_map]; exact hl, vs, _, rv, ha⟩
      · have z' := (if_neg hb).symm.trans z
        cases z'
    · by_cases hb : b = a
      · exact hb
      · exact absurd (if_neg hb) z
end L2
namespace L2
open PySem PySem.Spec PyProof.Rows
theorem walk_of {l : PySem.W.OpenLaw} {n k : Nat} {q : Program} {loose : List Str} {XP : (Str → Option Value) → Heap → Prop} {YP : World → Heap → Prop} {d : DefRec} {K : Params → PySem.W.Frag} {CX : World → CXT} {sp : World → Sp} {x : Str}
    (hn : l.most = some n) (hn2 : n ≤ sizeLine) (hdf : d.params.defaults = []) (hr : Room k callerA)
    (hY : ∀ (w : World) (h : Heap), YP w h → (K w.params).In h)
    (F : ∀ (w : World) (mg : Str → Option Value) (fa : Addr) (h : Heap), (K w.params).In h → h.Ns mainGlobals mg → mg d.name = some (.ref fa) →
      ∃ fd : FuncData, (∀ (s : Shared) (u : Value), BindsTo s fd ⟨[u], []⟩ [(x, u)]) ∧
        ∀ base : Heap, (K w.params).In base → base.Ns mainGlobals mg → FnOk l.prog w (K w.params) mg base (CX w) k fa fd [x] (sp w))
    (hsp : ∀ (w : World) (H : Hp) (a : Addr) (ns : List Int), ns.length ≤ n → Only H → SqL (K w.params) H a (ns.map V.int) → sp w [.ref a] H (fun v _ => v = .bl true) fun _ _ _ => False)
    (hCX : ∀ (w : World) (H : Hp) (s : Shared) (e : Value) (s' : Shared), CX w [] H s (fun _ _ _ => False) e s' → False) :
    PySem.W.WalkO q loose XP YP l.row.toRowW d [] (fun f vs => PySem.call f vs) := by
  refine Att.attach_call hn hdf fun w s₀ s₁ mg mb fa o pm cd doc a vs ns G Y ho hd hcd hmg hobj hints hlen hg => ?_
  have KX := hY w _ Y
  obtain ⟨fd, hb, hF⟩ := F w mg fa _ KX G.T.g hmg
  exact law_call KX G.T.g G.T.b G.T.builtins G.T.nolimit hg hobj hints (Nat.le_trans hlen hn2) hr hF hb (fun H hO hS => hsp w H a ns hlen hO hS) fun H e s' => hCX w H s₁ e s'
end L2
/- THE LAST THEOREM (shape; LID, My.* are yours):
   My.Adr: a structure of the addresses that your layer names (classes, functions); My.Txt K t: a structure (Prop) of the equations over K;
   My.txt_mk : {K} {implicit addresses ..} (e1 : nsIn K mainGlobals "law" = some (some (.ref f))) (e2 : K.lookup f = some ⟨oc, od, .func (fnOf "law" "law" params body scope dV kV doc pm an cdv ct), sl⟩) (e3 : codeIn K cdv "law" = true) .. : ∃ t, My.Txt K t
(the tactic k_is has no namespace: write k_is) -/
namespace L2
open PySem PySem.Spec PyProof.Rows
noncomputable def defArgs (s : Stmt) : Arguments := match s with
  | .FunctionDef _ a _ _ _ _ _ _ _ _ => a
  | _ => { posonlyargs := [], args := [], vararg := none, kwonlyargs := [], kw_defaults := [], kwarg := none, defaults := [] }
noncomputable def defBody (s : Stmt) : List Stmt := match s with
  | .FunctionDef _ _ b _ _ _ _ _ _ _ => b
  | _ => []
noncomputable def defScope (s : Stmt) : Scope := match s with
  | .FunctionDef _ _ _ _ _ _ sc _ _ _ => sc
  | _ => { kind := .function, names := [], isGenerator := false, isCoroutine := false }
abbrev CX0 : CXT := fun _ _ _ _ _ _ => False
abbrev E0 : XK := fun _ _ _ => False
theorem pass0 {X : Cx} : Passes CX0 X E0 := fun _ _ _ _ _ _ _ h => h.elim
structure Fun (K : PySem.W.Frag) (x qual : Str) (st : Stmt) (f : Addr) (fd : FuncData) : Prop where
  ex : ∃ (oc : Value) (od : Option Addr) (kV doc pm : Value) (an : Option Addr) (cdv ct : Value) (osl : Array (Option Value)),
    fd = PySem.W.fnOf x qual (defArgs st) (defBody st) (defScope st) .none kV doc pm an cdv ct ∧ K.lookup f = some ⟨oc, od, .func fd, osl⟩ ∧ PySem.W.codeIn K cdv qual = true
  kp : PySem.W.keepIn K (.ref f) = true
section
variable {P : Program} {w : World} {K : PySem.W.Frag} {mg : Str → Option Value} {base : Heap}
theorem Fun.ok {x qual : Str} {st : Stmt} {f : Addr} {fd : FuncData} {N ps : List Str} {k : Nat} {sp : Sp} (F : Fun K x qual st f fd) (S : FnScope N ps (defScope st)) (len : ∀ vs H Q E, sp vs H Q E → vs.length = ps.length)
    (hbody : ∀ (cdv : Value) (A : Around) (outer : List Env) (s : Shared) (H : Hp) (vs : List V) (Q : VK) (E : XK), Room k (A.deeper (envOfC qual (defScope st) s.heap.objs.size f cdv)) → sp vs H Q E →
      ∃ t, PSs (cxOf CX0 P w K mg base N qual (defScope st) f cdv A outer s H E).nox (defBody st) t ∧ t { nx := fun _ H' => Q .non H', rt := Q } (start N vs) H) : FnOk P w K mg base CX0 (k + 1) f fd ps sp := by
  obtain ⟨oc, od, kV, doc, pm, an, cdv, ct, osl, rfl, lk, hcd⟩ := F.ex
  refine fn_of lk hcd S len fun A outer s H vs Q E hr hsp => ?_
  obtain ⟨t, h, q⟩ := hbody cdv A outer s H vs Q E hr hsp
  exact ⟨t, h.nox, q⟩
theorem Fun.binds {x qual : Str} {st : Stmt} {f : Addr} {fd : FuncData} {ps : List Str} (F : Fun K x qual st f fd)
    (h : ∀ (kV doc pm : Value) (an : Option Addr) (cdv ct : Value) (us : List Value), us.length = ps.length → bindArgs (PySem.W.fnOf x qual (defArgs st) (defBody st) (defScope st) .none kV doc pm an cdv ct) ⟨us, []⟩ = pure (ps.zip us)) : Binds K fd ps [] := by
  obtain ⟨oc, od, kV, doc, pm, an, cdv, ct, osl, rfl, lk, hcd⟩ := F.ex
  exact .all (h kV doc pm an cdv ct)
theorem fun_mk {x qual : Str} {st : Stmt} {f : Addr} {oc : Value} {od an : Option Addr} {osl : Array (Option Value)} {kV doc pm cdv ct : Value} (l : K.lookup f = some ⟨oc, od, .func (PySem.W.fnOf x qual (defArgs st) (defBody st) (defScope st) .none kV doc pm an cdv ct), osl⟩)
    (c : PySem.W.codeIn K cdv qual = true) (k : PySem.W.keepIn K (.ref f) = true) : Fun K x qual st f (PySem.W.fnOf x qual (defArgs st) (defBody st) (defScope st) .none kV doc pm an cdv ct) := ⟨⟨oc, od, kV, doc, pm, an, cdv, ct, osl, rfl, l, c⟩, k⟩
end
section
variable {X : Cx}
theorem pv (i : Nat) {x : Str} {pos : Pos} (hN : X.N[i]? = some x := by rfl) (hv : Vis X.env.scope x := by first | exact Or.inl rfl | exact Or.inr (Or.inl rfl) | exact Or.inr (Or.inr rfl)) (hd : (x == ("__debug__" : Str)) = false := by decide)
    (hcd : (x == ("__classdict__" : Str)) = false := by decide) : PE X (.Name x pos) (tVar i) := pe_var hN hv hd hcd
end
noncomputable def Same (H H' : Hp) : Prop := ∀ b o, H b = some o → H' b = some o
theorem Same.refl (H : Hp) : Same H H := fun _ _ h => h
theorem Same.trans {H H1 H2 : Hp} (a : Same H H1) (b : Same H1 H2) : Same H H2 := fun c o h => b c o (a c o h)
theorem Same.free {H H' : Hp} (e : Same H H') {l : Addr} (h : H' l = Option.none) : H l = Option.none := by
  cases q : H l with
  | none => rfl
  | some o =>
    rw [e l o q] at h
    cases h
theorem Same.seq {K : PySem.W.Frag} {H H' : Hp} {a : Addr} {xs : List V} (e : Same H H') (h : SqL K H a xs) : SqL K H' a xs := by
  rcases h with (h | ⟨o, h⟩) | h
  · exact .inl (.inl (e _ _ h))
  · exact .inl (.inr ⟨o, e _ _ h⟩)
  · exact .inr h
end L2
set_option maxHeartbeats 16000000
namespace L2
open PySem PySem.Spec PyProof.Rows
noncomputable def blk (X : Cx) (N : List Str) (s : Shared) (H : Hp) (sc : Scope) (cl : List (Str × Addr)) (C : Addr) (ex : List Addr) : Cx where
  prog := X.prog
  w := X.w
  K := X.K
  mg := X.mg
  base := X.base
  A := X.A
  N := N
  s₀ := s
  H₀ := H
  env := compEnvC sc cl C X.env
  outer := X.stack
  stack := X.stack
  ex := ex
  fn := fun _ => false
  calm := X.calm
  pn := []
  xe := fun _ _ => False
section
variable {prog : Program} {w : World} {A : Around} {R : Result → Shared → Prop} {s : Shared}
theorem compLoop_go {elt target iter : Expr} {ifs : List Expr} {scope : Scope} {pos : Pos} {it acc : Value} {env : Env} (I : Nat → Shared → Prop)
    (turn : ∀ n s, I n s → wpAny (model prog w) A (pyNext it) (fun r s₁ => match r with
      | none => R (.ok .next) s₁
      | some v => wpAny (model prog w) A (letOwnedTupleGo target it v) (fun _ s₁' => wpAny (model prog w) A (assign target env v) (fun _ s₂ =>
          wpAny (model prog w) A (forIn ifs true fun c r => if r = true then do let ok ← isTrue c env (eval c env); pure (ForInStep.yield ok) else pure (ForInStep.yield r)) (fun ok s₃ =>
            if ok = true then wpAny (model prog w) A (eval elt env) (fun x s₄ =>
              wpAny (model prog w) A (call (.builtin "list.append") [acc, x]) (fun _ s₅ => ∃ m, m < n ∧ I m s₅) (fun _ _ => False) s₄) (fun _ _ => False) s₃
            else ∃ m, m < n ∧ I m s₃) (fun _ _ => False) s₂) (fun _ _ => False) s₁') (fun _ _ => False) s₁) (fun _ _ => False) s)
    (n : Nat) (h : I n s) :
    codeAny (model prog w) A (.compLoop (.ListComp elt [⟨target, iter, ifs, 0⟩] scope pos) 0 it acc env) R s := by
  refine codeAny_loop rfl I (fun n s hI => ?_) n h
  show wpAny _ A ((compTurn (.ListComp elt [⟨target, iter, ifs, 0⟩] scope pos) 0 it acc env).onRaise (fun x => do noteFrame x env; theTreesLotGoes x)) _ _ s
  refine wpAny_noted ?_
  rw [compTurn_list]
  refine wpAny_bind (wpAny_standAt (wpAny_bind (wpAny_mono (turn n s hI) (fun r s₁ h₁ => ?_) fun _ _ h' => h'.elim)))
  cases r with
  | none => exact wpAny_pure h₁
  | some v =>
    refine wpAny_bind (wpAny_mono h₁ (fun _ s₁' h₁' => ?_) fun _ _ h' => h'.elim)
    refine wpAny_bind (wpAny_mono h₁' (fun _ s₂ h₂ => wpAny_bind (wpAny_mono h₂ (fun ok s₃ h₃ => ?_) fun _ _ h' => h'.elim)) fun _ _ h' => h'.elim)
    cases ok with
    | false => exact wpAny_pure ⟨rfl, h₃⟩
    | true =>
      exact wpAny_bind (wpAny_bind (wpAny_mono h₃ (fun x s₄ h₄ => wpAny_bind (wpAny_mono h₄ (fun _ s₅ h₅ => wpAny_pure (wpAny_pure ⟨rfl, h₅⟩)) fun _ _ h' => h'.elim)) fun _ _ h' => h'.elim))
end
noncomputable def PTs (X : Cx) (ifs : List Expr) (t : TT) : Prop :=
  ∀ (pins : List (Addr × Obj)) (s : Shared) (σ : St) (H : Hp) (Q : Bool → Hp → Prop), Inv X pins σ H s → t σ H Q →
    wpAny (model X.prog X.w) X.A (forIn ifs true fun c r => if r = true then do let ok ← isTrue c X.env (eval c X.env); pure (ForInStep.yield ok) else pure (ForInStep.yield r)) (TP X pins σ Q) X.xe s
noncomputable def tYes : TT := fun _ H Q => Q true H
theorem pts_nil {X : Cx} : PTs X [] tYes := fun _ _ _ H _ I h => wpAny_tests_nil ⟨H, I, h⟩
theorem pts_one {X : Cx} {c : Expr} {t : TT} (h : PT X c t) : PTs X [c] t := fun pins s σ H Q I q => wpAny_tests_one (h pins s σ H Q I q)
noncomputable def frees (σ : St) (ix : List Nat) : St := ix.map fun j => (σ[j]?).getD none
noncomputable def CompGo (J : It) (H1 : Hp) (σ : St) (ix : List Nat) (tc : TT) (te : TE) (Q : VK) : Prop := ∀ D, H1 D = none →
  ∃ W : Nat → Nat → Hp → Prop, (∃ m, W 0 m (upd H1 D (.lst []))) ∧ ∀ i m H, W i m H →
    (J.stop i H ∧ Q (.ref D) H) ∨ (J.go i H ∧ ∀ x H', J.yld i H x H' → tc (some x :: frees σ ix) H' fun b H2 =>
      if b = true then te (some x :: frees σ ix) H2 fun y H3 => ∃ ys, H3 D = some (.lst ys) ∧ ys.length < sizeLine ∧ ∃ m', m' < m ∧ W (i + 1) m' (upd H3 D (.lst (ys ++ [y])))
      else ∃ m', m' < m ∧ W (i + 1) m' H2)
noncomputable def tComp (ix : List Nat) (wi : TI) (tc : TT) (te : TE) : TE := fun σ H Q => wi σ H fun J H1 => CompGo J H1 σ ix tc te Q
section
variable {X : Cx}
theorem inv_blk {pins : List (Addr × Obj)} {σ : St} {H : Hp} {s : Shared} {N : List Str} {x : Str} {sc : Scope} {cl : List (Str × Addr)} {fp : List Addr} {ix : List Nat} {h1 : Heap} {m : Str → Option Value} {tk : Nat}
    (I : Inv X pins σ H s) (hkind : sc.kind = .function) (hN : N = x :: ix.map fun j => (X.N[j]?).getD "")
    (hsub : ∀ y c, cl.lookup y = some c → X.env.cells.lookup y = some c) (hhas : ∀ y, ((relabel sc X.env).names.lookup y = some .cell ∨ (relabel sc X.env).names.lookup y = some .free) → ∃ c, cl.lookup y = some c)
    (hix : ∀ j ∈ ix, ∃ y, X.N[j]? = some y ∧ X.env.kindOf y = some .cell ∧ (relabel sc X.env).names.lookup y = some .cell)
    (hfp : ∀ b ∈ fp, FpOk X pins H b) (hlt : ∀ b ∈ fp, b < s.heap.objs.size)
    (hns : h1.Ns s.heap.objs.size m) (hk : ∀ b o, s.heap.get? b = some o → h1.get? b = some o) :
    Inv (blk X N s H sc cl s.heap.objs.size fp) [] (none :: frees σ ix) H { s with heap := h1, toks := tk } := by
  have fresh : H s.heap.objs.size = none := I.hok.fresh (Nat.le_refl _)
  refine ⟨⟨I.ok.mod, hkind, I.ok.glob, I.ok.blt, Nat.le_refl _, fun y z c h1 h2 => I.ok.inj y z c (hsub y c h1) (hsub z c h2), fun y hy => hhas y hy, fun y c z _ => absurd (show false = true from z) (by decide), I.ok.hd, I.ok.frames, .inl rfl,
    fun b hb => ⟨Nat.ne_of_lt (hlt b hb), fun y c e => (hfp b hb).2.2.2.2.1 y c (hsub y c e)⟩, I.bs, Nat.le_trans I.ok.bsz I.sz, fun b o e hb => ?_, fun b hb z => ?_, I.stack, I.stkFree⟩,
    rfl, I.bare, Un.kept hk, ⟨m, hns, fun i y v e1 e2 e3 => ?_⟩, fun y c e => ?_, fresh, fun y c e => I.freeC y c (hsub y c e), fun p hp => absurd (show p ∈ ([] : List (Addr × Obj)) from hp) (by simp), I.hok.kept hk, ?_⟩
  · rcases (hfp b hb).2.2.2.1 with z | z
    · exact I.ok.noex b o e z
    · exact absurd (Nat.lt_of_lt_of_le (Heap.lt_size e) (Nat.le_trans I.ok.bsz z)) (Nat.lt_irrefl _)
  · rcases List.mem_cons.mp (I.stkSub b z) with q | q
    · exact (hfp b hb).2.1 q
    · exact (hfp b hb).2.2.1 q
  · cases i with
    | zero =>
      have e2' : (some none : Option (Option V)) = some (some v) := e2
      cases e2'
    | succ i =>
      have e2' : (frees σ ix)[i]? = some (some v) := by simpa using e2
      unfold frees at e2'
      rw [List.getElem?_map] at e2'
      cases q : ix[i]? with
      | none => rw [q] at e2'; cases e2'
      | some j =>
        rw [q] at e2'
        have e3' : (σ[j]?).getD none = some v := by simpa using e2'
        have e4 : σ[j]? = some (some v) := by
          cases q2 : σ[j]? with
          | none => rw [q2] at e3'; cases e3'
          | some w => rw [q2] at e3'; simpa using e3'
        obtain ⟨y', hy, hc, hr⟩ := hix j (List.mem_of_getElem? q)
        have ey : y' = y := by
          have e1' : N[i + 1]? = some y := e1
          rw [hN, List.getElem?_cons_succ, List.getElem?_map, q] at e1'
          have := Option.some.inj e1'
          simpa [hy] using this
        subst ey
        obtain ⟨m0, hn0, hl0⟩ := I.loc
        obtain ⟨u, r, l⟩ := hl0 j y' v hy e4 (.inr (.inl hc))
        refine ⟨u, r, .inr ⟨.inl hr, ?_⟩⟩
        rcases l with ⟨k, _⟩ | ⟨_, c, ec, ic⟩
        · rw [hc] at k; cases k
        · obtain ⟨c', ec'⟩ := hhas y' (.inl hr)
          have := hsub y' c' ec'
          rw [ec] at this; cases this
          obtain ⟨o, ho, hd⟩ := ic
          exact ⟨c, ec', o, hk c o ho, hd⟩
  · obtain ⟨v, o, ho, hd⟩ := I.cell y c (hsub y c e)
    exact ⟨v, o, hk c o ho, hd⟩
  · show (none :: frees σ ix).length = N.length
    rw [hN]
    simp [frees]
theorem comp_core {elt iter : Expr} {x : Str} {px pos p0 : Pos} {ifs : List Expr} {sc : Scope} {cl : List (Str × Addr)} {ix : List Nat} {wi : TI} {tc : TT} {te : TE} (N : List Str)
    (hc : X.calm = true) (hi : PI X (.Name x px) iter wi) (hif : ∀ s H C ex, PTs (blk X N s H sc cl C ex) ifs tc) (he : ∀ s H C ex, PE (blk X N s H sc cl C ex) elt te)
    (hkind : sc.kind = .function) (hN : N = x :: ix.map fun j => (X.N[j]?).getD "") (hnd : N.Nodup) (hx : sc.names.lookup x = some .local)
    (hcl : closureFor sc X.env = pure cl) (hcell : ∀ y ∈ sc.names, y.2 ≠ .cell) (hnames : ∀ y ∈ sc.names, y.2 = .local → sc.names.lookup y.1 = some .local)
    (hsub : ∀ y c, cl.lookup y = some c → X.env.cells.lookup y = some c) (hhas : ∀ y, ((relabel sc X.env).names.lookup y = some .cell ∨ (relabel sc X.env).names.lookup y = some .free) → ∃ c, cl.lookup y = some c)
    (hix : ∀ j ∈ ix, ∃ y, X.N[j]? = some y ∧ X.env.kindOf y = some .cell ∧ (relabel sc X.env).names.lookup y = some .cell)
    (hs : ∀ x, foldedSetIterable iter X.env x = pure x)
    {use : Option (Value → Sem Unit)} {RP : Value → Shared → Prop} {Q : VK} {pins : List (Addr × Obj)} {s : Shared} {σ : St} {H : Hp} (I : Inv X pins σ H s) (h : tComp ix wi tc te σ H Q)
    (hfin : ∀ (D C : Addr) (s6 : Shared) (H5 : Hp) (mm : Str → Option Value), Inv X pins σ H5 s6 → s6.heap.Ns C mm → H5 C = none → C ≠ X.env.locals → (∀ z c, X.env.cells.lookup z = some c → c ≠ C) → X.s₀.heap.objs.size ≤ C → (∀ p ∈ X.pn ++ pins, p.1 ≠ C) → Q (.ref D) H5 → compPost (model X.prog X.w) X.A X.xe use RP (.ref D) C (.ok .next) s6) :
    wpAny (model X.prog X.w) X.A (comprehension (.ListComp elt [⟨.Name x px, iter, ifs, 0⟩] sc pos) sc X.env p0 (newList []) false (eval iter X.env) use) RP X.xe s := by
  refine wpAny_comprehension_free (use := use) rfl hs hcl hkind hnames (thn (hi pins s σ H _ I h) fun v s1 h1 => thn h1 fun itv s2 h2 => ?_)
  obtain ⟨it, fp, tn, J, H2, e, I2, T, st2, f2, q2⟩ := h2
  subst e
  have fr2 : H2 s2.heap.objs.size = none := I2.hok.fresh (Nat.le_refl _)
  obtain ⟨W, ⟨m0, w0⟩, turn⟩ := q2 s2.heap.objs.size fr2
  refine wpAny_newObj_type ?_
  have I3 : Inv X pins σ (upd H2 s2.heap.objs.size (.lst [])) { s2 with heap := s2.heap.push { cls := .type "list", dict := none, data := .seq ([] : List Value).toArray } } := by
    exact I2.lnew (its := []) (ys := []) (t' := s2.toks) .nil (Nat.zero_le _)
  have lt2 : ∀ b ∈ fp, b < s2.heap.objs.size := fun b hb => by
    obtain ⟨o, ho, _⟩ := T.obj _ _ st2 b hb
    exact Heap.lt_size ho
  have f3 : ∀ b ∈ fp, FpOk X pins (upd H2 s2.heap.objs.size (.lst [])) b := fun b hb => ⟨by rw [upd_ne (Nat.ne_of_lt (lt2 b hb))]; exact (f2 b hb).1, (f2 b hb).2⟩
  generalize hs3 : ({ s2 with heap := s2.heap.push { cls := .type "list", dict := none, data := .seq ([] : List Value).toArray } } : Shared) = s3 at I3
  have hsz3 : s2.heap.objs.size ≤ s3.heap.objs.size := by rw [← hs3]; show _ ≤ (s2.heap.push _).objs.size; rw [Heap.size_push]; exact Nat.le_succ _
  have tn3 : tn 0 s3.heap := T.keep _ _ _ st2 fun b _ o e => by rw [← hs3]; exact Heap.get?_push_of_some _ e
  have lt3 : ∀ b ∈ fp, b < s3.heap.objs.size := fun b hb => Nat.lt_of_lt_of_le (lt2 b hb) hsz3
  refine wpAny_newFunctionEnv hcell (by intro y hy; simp at hy) (fun h4 hns4 hsb4 => ?_) hkind
  have old : ∀ b o, s3.heap.get? b = some o → h4.get? b = some o := fun b o e => hsb4.extBut b o (Nat.ne_of_lt (Heap.lt_size e)) (Heap.get?_push_of_some _ e)
  have I4 := inv_blk (m := _) (tk := s3.toks + ([] : List (Str × Value)).length) (N := N) I3 hkind hN hsub hhas hix f3 lt3 hns4 old
  have tn4 : tn 0 h4 := T.keep _ _ _ tn3 fun b _ o e => old b o e
  have fpB : ∀ {H' : Hp}, (∀ b ∈ fp, H' b = none) → ∀ b ∈ fp, FpOk (blk X N s3 (upd H2 s2.heap.objs.size (.lst [])) sc cl s3.heap.objs.size fp) [] H' b := fun {H'} hn b hb =>
    ⟨hn b hb, Nat.ne_of_lt (lt3 b hb), I4.ok.exfs b hb, .inl hb, fun y c e => (I4.ok.exf b hb).2 y c e, fun p hp => absurd (show p ∈ ([] : List (Addr × Obj)) from hp) (by simp)⟩
  have loop : codeAny (model X.prog X.w) X.A (.compLoop (.ListComp elt [⟨.Name x px, iter, ifs, 0⟩] sc pos) 0 (.ref it) (.ref s2.heap.objs.size) (compEnvC sc cl s3.heap.objs.size X.env))
      (compPost (model X.prog X.w) X.A X.xe use RP (.ref s2.heap.objs.size) s3.heap.objs.size) { s3 with heap := h4, toks := s3.toks + ([] : List (Str × Value)).length } := by
    refine compLoop_go (fun n s' => ∃ i v0 H', Inv (blk X N s3 (upd H2 s2.heap.objs.size (.lst [])) sc cl s3.heap.objs.size fp) [] (v0 :: frees σ ix) H' s' ∧ tn i s'.heap ∧ (∀ b ∈ fp, H' b = none) ∧ W i n H') ?_ m0
      ⟨0, none, _, I4, tn4, fun b hb => (f3 b hb).1, w0⟩
    rintro n s5 ⟨i, v0, H5, I5, st5, fr5, w5⟩
    rcases turn i n H5 w5 with ⟨stop, qn⟩ | ⟨go, step⟩
    · refine thn (T.done (blk X N s3 (upd H2 s2.heap.objs.size (.lst [])) sc cl s3.heap.objs.size fp) rfl rfl rfl hc i [] s5 _ H5 _ I5 (fpB fr5) st5 stop) fun r s6 ⟨hr, I6⟩ => ?_
      subst hr
      obtain ⟨mm, hm, _⟩ := I6.loc
      have I7 : Inv X pins σ H5 s6 := by
        have hC : H5 s3.heap.objs.size = none := I6.free
        have hc3 : s3.heap.get? s3.heap.objs.size = none := Heap.get?_none_of_le (Nat.le_refl _)
        have up : ∀ b o, b ≠ s3.heap.objs.size → s6.heap.get? b = some o → s6.heap.get? b = some o := fun b o hb e => e
        have neC : ∀ b o, s3.heap.get? b = some o → b ≠ s3.heap.objs.size := fun b o e => Nat.ne_of_lt (Heap.lt_size e)
        have u := I6.base
        refine I3.call' (s' := s6) (ch := fp) I6.os ⟨fun b o e n hb hx => ?_, fun b o e n hb hx => ?_, fun b o e n hx => u.free b o e n hx, fun b o e hx => ?_, u.tups, u.frzs, u.tbls⟩ (fun b o e => ?_) I6.bare fun b hb => ⟨(f3 b hb).2.2.2.1, (f3 b hb).2.1, (f3 b hb).2.2.2.2.1, (f3 b hb).2.2.2.2.2⟩
        · exact up b o (neC b o e) (u.keep b o e n hb hx)
        · obtain ⟨sl, e1⟩ := u.slot b o e n hb hx
          exact ⟨sl, up b _ (neC b o e) e1⟩
        · obtain ⟨o', e1⟩ := u.there b o e hx
          exact ⟨o', up b _ (neC b o e) e1⟩
        · refine (I6.hok b o e).stay (fun c v hc' q => up c v ?_ q) (fun _ q => q) fun _ _ q => q
          rintro rfl
          rcases hc' with z | z
          · rw [← z, hC] at e; cases e
          · rw [hC] at z; cases z
      have hCn : H5 s3.heap.objs.size = none := I6.free
      have hCl : s3.heap.objs.size ≠ X.env.locals := Nat.ne_of_gt I3.lt
      have hCc : ∀ z c, X.env.cells.lookup z = some c → c ≠ s3.heap.objs.size := fun z c e e2 => by
        obtain ⟨v', q⟩ := I3.cell z c e
        exact absurd (e2 ▸ q.lt) (Nat.lt_irrefl _)
      exact hfin _ _ s6 H5 mm I7 hm hCn hCl hCc I3.sz (fun p hp e2 => absurd (e2 ▸ Heap.lt_size (I3.pin p hp).1) (Nat.lt_irrefl _)) qn
    · refine thn (T.item (blk X N s3 (upd H2 s2.heap.objs.size (.lst [])) sc cl s3.heap.objs.size fp) rfl rfl rfl hc i [] s5 _ H5 _ I5 (fpB fr5) st5 go) fun r s6 ⟨u, hr, h6⟩ => ?_
      subst hr
      refine thn h6 fun _ s7 ⟨y, H7, I7, r7, y7, st7, fr7⟩ => ?_
      have I7' := I7.pinned (fpB fr7) (T.obj _ _ st7)
      refine wpAny_assign_Name (store_ok (i := 0) I7' hnd (by show N[0]? = some x; rw [hN]; rfl) (.inl (lookup_relabel_local hx)) r7 (fun s8 I8 => ?_) (.inr (lookup_relabel_local hx)))
      have I8' : Inv (blk X N s3 (upd H2 s2.heap.objs.size (.lst [])) sc cl s3.heap.objs.size fp) ([] ++ pinsAt fp s7.heap) (some y :: frees σ ix) H7 s8 := I8
      refine thn (hif _ _ _ _ _ s8 _ H7 _ I8' (step y H7 y7)) fun ok s9 ⟨H9, I9, q9⟩ => ?_
      have again : ∀ {H' : Hp} {s' : Shared} {m' : Nat}, Inv (blk X N s3 (upd H2 s2.heap.objs.size (.lst [])) sc cl s3.heap.objs.size fp) ([] ++ pinsAt fp s7.heap) (some y :: frees σ ix) H' s' → m' < n → W (i + 1) m' H' →
          ∃ m, m < n ∧ ∃ i v0 H', Inv (blk X N s3 (upd H2 s2.heap.objs.size (.lst [])) sc cl s3.heap.objs.size fp) [] (v0 :: frees σ ix) H' s' ∧ tn i s'.heap ∧ (∀ b ∈ fp, H' b = none) ∧ W i m H' := fun {H' s' m'} Ia hm wa => by
        refine ⟨m', hm, i + 1, some y, H', Ia.unpinned, T.keep _ _ _ st7 fun b hb o e => (Ia.pin (b, o) (List.mem_append_right _ (List.mem_append_right _ (mem_pinsAt hb e)))).1, fun b hb => ?_, wa⟩
        obtain ⟨o, e, d⟩ := T.obj _ _ st7 b hb
        exact (Ia.pin (b, o) (List.mem_append_right _ (List.mem_append_right _ (mem_pinsAt hb e)))).2.1
      cases ok with
      | false =>
        rw [if_neg Bool.false_ne_true] at q9 ⊢
        obtain ⟨m', hm, wa⟩ := q9
        exact again I9 hm wa
      | true =>
        rw [if_pos rfl] at q9 ⊢
        refine thn (he _ _ _ _ _ s9 _ H9 _ I9 q9) fun v10 s10 ⟨z, H10, I10, r10, ys, hD, hl, m', hm, wa⟩ => ?_
        exact thn (mt_append _ s10 _ H10 (.ref s2.heap.objs.size) [z] (.ref s2.heap.objs.size) [v10] (fun _ H' => H' = upd H10 s2.heap.objs.size (.lst (ys ++ [z]))) I10 rfl (.cons r10 .nil) ⟨_, ys, z, rfl, rfl, hD, hl, rfl⟩)
          fun _ s11 ⟨_, H11, I11, _, e11⟩ => again I11 hm (by rw [e11]; exact wa)
  subst hs3
  exact codeAny_compStart_list loop (T.self _ 0 _ _ _ tn4 loop)
theorem pe_comp {elt iter : Expr} {x : Str} {px pos : Pos} {ifs : List Expr} {sc : Scope} {cl : List (Str × Addr)} {ix : List Nat} {wi : TI} {tc : TT} {te : TE} (N : List Str)
    (hc : X.calm = true) (hi : PI X (.Name x px) iter wi) (hif : ∀ s H C ex, PTs (blk X N s H sc cl C ex) ifs tc) (he : ∀ s H C ex, PE (blk X N s H sc cl C ex) elt te)
    (hkind : sc.kind = .function) (hN : N = x :: ix.map fun j => (X.N[j]?).getD "") (hnd : N.Nodup) (hx : sc.names.lookup x = some .local)
    (hcl : closureFor sc X.env = pure cl) (hcell : ∀ y ∈ sc.names, y.2 ≠ .cell) (hnames : ∀ y ∈ sc.names, y.2 = .local → sc.names.lookup y.1 = some .local)
    (hsub : ∀ y c, cl.lookup y = some c → X.env.cells.lookup y = some c) (hhas : ∀ y, ((relabel sc X.env).names.lookup y = some .cell ∨ (relabel sc X.env).names.lookup y = some .free) → ∃ c, cl.lookup y = some c)
    (hix : ∀ j ∈ ix, ∃ y, X.N[j]? = some y ∧ X.env.kindOf y = some .cell ∧ (relabel sc X.env).names.lookup y = some .cell)
    (hs : ∀ x, foldedSetIterable iter X.env x = pure x := by intro _; rfl) :
    PE X (.ListComp elt [⟨.Name x px, iter, ifs, 0⟩] sc pos) (tComp ix wi tc te) := by
  intro pins s σ H Q I h
  rw [eval_ListComp]
  exact comp_core N hc hi hif he hkind hN hnd hx hcl hcell hnames hsub hhas hix hs I h fun D C s6 H5 mm I7 hm hCn hCl hCc hsz hpin qn =>
    ⟨mm, hm, fun h7 sb7 => ⟨.ref D, H5, I7.turned (t' := s6.toks) (it := C) (fun b o hb e => sb7.extBut b o hb e) hCn hCl (.inr hsz) hCc hpin, rfl, qn⟩⟩
end
end L2
namespace L2
open PySem PySem.Spec PyProof.Rows
noncomputable def Its (x : Str) : It := ⟨fun i _ => i < x.cps.size, fun i H v H' => H' = H ∧ ∃ c, x.cps[i]? = some c ∧ v = .str ⟨#[c]⟩, fun i _ => x.cps.size ≤ i⟩
theorem turn_str {P : Program} {w : World} {K : PySem.W.Frag} {tg : Expr} {x : Str} {t : Tok} (it : Addr) (T : String) (hT : T = "str_ascii_iterator" ∨ T = "str_iterator") : Turn P w K tg (Its x) [it] it (fun i h => h.IsStrIter it T x t i ∧ i ≤ x.cps.size) where
  mem := by simp
  obj := fun i h st b hb => by
    have e : b = it := by simpa using hb
    subst e
    obtain ⟨⟨o, e, c, d⟩, _⟩ := st
    exact ⟨o, e, fun v z => by rw [d] at z; cases z⟩
  keep := fun i h h' st k => ⟨let ⟨o, ho, r⟩ := st.1; ⟨o, k it (by simp) o ho, r⟩, st.2⟩
  item := by
    intro X hP hw hK hc i pins s σ H E I hf st hg
    subst hP hw hK
    obtain ⟨f0, f1, f2, f3, f4, f5⟩ := hf it (by simp)
    have hi : i < x.cps.size := hg
    have fin : ∀ h', h'.IsStrIter it T x t (i + 1) → (∀ b o, b ≠ it → s.heap.get? b = some o → h'.get? b = some o) → ∀ u : Tok, ∃ uv, some (Value.str ⟨#[x.cps[i]]⟩ u) = some uv ∧
        wpAny (model X.prog X.w) X.A (letOwnedTupleGo tg (.ref it) uv) (fun _ s2 => ∃ v H', Inv X pins σ H' s2 ∧ RelV v uv ∧ (Its x).yld i H v H' ∧ (s2.heap.IsStrIter it T x t (i + 1) ∧ i + 1 ≤ x.cps.size) ∧ ∀ b ∈ [it], H' b = none) E { s with heap := h', toks := s.toks + 1 } := fun h' st' kk u => by
      have I1 : Inv X pins σ H { s with heap := h', toks := s.toks + 1 } := I.turned (fun b o hb e => kk b o hb e) f0 f1 f3 f4 f5
      obtain ⟨o, e, c, d⟩ := id st'
      refine ⟨_, rfl, go_of (s := { s with heap := h', toks := s.toks + 1 }) e c d (by rcases hT with rfl | rfl <;> decide) ⟨.str ⟨#[x.cps[i]]⟩, H, I1, ⟨u, rfl⟩, ⟨rfl, _, by simp [hi], rfl⟩, ⟨st', hi⟩, fun b hb => ?_⟩⟩
      exact (hf b hb).1
    rcases hT with rfl | rfl
    · exact wpAny_pyNext_ascii_item st.1 (c := x.cps[i]) (by simp [hi]) fun h' hit' hs' => fin h' hit' (fun b o hb e => hs'.extBut b o hb e) _
    · exact wpAny_pyNext_wide_item st.1 (c := x.cps[i]) (by simp [hi]) fun h' hit' hs' => fin h' hit' (fun b o hb e => hs'.extBut b o hb e) _
  done := by
    intro X hP hw hK hc i pins s σ H E I hf st hg
    subst hP hw hK
    obtain ⟨f0, f1, f2, f3, f4, f5⟩ := hf it (by simp)
    have hi : x.cps.size ≤ i := hg
    rcases hT with rfl | rfl
    · exact wpAny_pyNext_ascii_end (I.ok.hd hc) st.1 (by simp; lia) fun h' eb => ⟨rfl, I.turned (t' := s.toks) (fun b o hb e => eb b o hb e) f0 f1 f3 f4 f5⟩
    · exact wpAny_pyNext_wide_end (I.ok.hd hc) st.1 (by simp; lia) fun h' eb => ⟨rfl, I.turned (t' := s.toks) (fun b o hb e => eb b o hb e) f0 f1 f3 f4 f5⟩
  self := fun _ _ _ _ _ st h => by
    rcases hT with rfl | rfl
    · exact wpAny_pyIter_striter_ascii st.1 h
    · exact wpAny_pyIter_striter_wide st.1 h
section
variable {X : Cx} {tg : Expr}
noncomputable def iStr (tl : TE) : TI := fun σ H R => tl σ H fun x H1 => ∃ z, x = .str z ∧ R (Its z) H1
theorem pi_str {l : Expr} {tl : TE} (hl : PE X l tl) : PI X tg l (iStr tl) := by
  intro pins s σ H R I h
  refine thn (hl pins s σ H _ I h) fun v s1 ⟨x, H1, I1, r1, q1⟩ => ?_
  obtain ⟨z, e, q⟩ := q1
  subst e
  obtain ⟨t, rfl⟩ := r1
  have fin : ∀ (o : Obj) (T : String), (T = "str_ascii_iterator" ∨ T = "str_iterator") → (s1.heap.push o).IsStrIter s1.heap.objs.size T z t 0 → PIE X pins σ tg R (.ref s1.heap.objs.size) { s1 with heap := s1.heap.push o } := fun o T hT hs => by
    refine ⟨s1.heap.objs.size, [s1.heap.objs.size], _, _, H1, rfl, I1.kept (t' := s1.toks) fun b o e => Heap.get?_push_of_some _ e, turn_str (x := z) (t := t) _ T hT, ⟨hs, Nat.zero_le _⟩, fun b hb => ?_, q⟩
    have e : b = s1.heap.objs.size := by simpa using hb
    subst e
    exact I1.fpOk (Nat.le_refl _) (I1.hok.fresh (Nat.le_refl _))
  cases ha : z.cps.all (· < 128)
  · exact wpAny_pyIter_wide ha (fin _ _ (.inr rfl) ⟨_, Heap.get?_push_size _ rfl, rfl, rfl⟩)
  · exact wpAny_pyIter_ascii ha (fin _ _ (.inl rfl) ⟨_, Heap.get?_push_size _ rfl, rfl, rfl⟩)
theorem call_isi_list : CallR X (.builtin "isinstance") (fun xs H Q => ∃ a ys, xs = [.ref a, .ty "list"] ∧ SqL X.K H a ys ∧ Q (.bl true) H) := by
  intro pins s σ H xs us Q I r h
  obtain ⟨a, ys, rfl, hq, q⟩ := h
  cases r with
  | cons r1 r =>
    cases r with
    | cons r2 r =>
      cases r
      cases r1
      cases r2
      obtain ⟨its, rv, p, hz⟩ := I.list hq
      obtain ⟨o, n, e, hc, _⟩ := p
      exact IsiPair.list_list e hc ⟨.bl true, H, I, rfl, q⟩
theorem call_isi_tuple : CallR X (.builtin "isinstance") (fun xs H Q => ∃ a ys, xs = [.ref a, .ty "tuple"] ∧ SqT X.K H a ys ∧ Q (.bl true) H) := by
  intro pins s σ H xs us Q I r h
  obtain ⟨a, ys, rfl, hq, q⟩ := h
  cases r with
  | cons r1 r =>
    cases r with
    | cons r2 r =>
      cases r
      cases r1
      cases r2
      obtain ⟨its, rv, p, hz⟩ := I.tuple hq
      obtain ⟨o, e, hc, _⟩ := p
      exact IsiPair.tuple_tuple e hc ⟨.bl true, H, I, rfl, q⟩
end
end L2
namespace L2
open PySem PySem.Spec PyProof.Rows
noncomputable def txtOf : Value → Str
  | .str x _ => x
  | _ => ⟨#[]⟩
noncomputable def SSet (P : Program) (w : World) (h : Heap) (a : Addr) (ss : List Str) : Prop :=
  ∃ o es ep t, h.get? a = some o ∧ o.ExactSet ∧ o.data = .set es ep t ∧ ElemsOf (strKind P w) es.toList ∧ es.toList.map (fun e => txtOf e.2) = ss ∧ ss.Nodup ∧ es.size < scanBound ∧ t.fits es.size = true ∧
    t.led = !w.params.followText "set-order" ∧ (1 ≤ es.size → t.plain = false)
section
variable {P : Program} {w : World} {A : Around} {E : Value → Shared → Prop} {s : Shared}
end
end L2
namespace L2
open PySem PySem.Spec PyProof.Rows
inductive Dd : List Str → List Str → Prop
  | nil : Dd [] []
  | old {xs ss : List Str} {x : Str} : Dd xs ss → x ∈ ss → Dd (xs ++ [x]) ss
  | new {xs ss ss' : List Str} {x : Str} : Dd xs ss → x ∉ ss → ss'.Perm (ss ++ [x]) → Dd (xs ++ [x]) ss'
section
variable {P : Program} {w : World} {A : Around} {R : Result → Shared → Prop} {I : Addr} {fp wr : List Addr} {G : Array GenState → Array GenState → Prop} {n : Nat} {Pv : Nat → Value → Prop} {St : Nat → Shared → Prop}
end
section
variable {P : Program} {w : World} {A : Around} {E : Value → Shared → Prop} {s : Shared}
end
end L2
namespace L2
open PySem PySem.Spec PyProof.Rows
namespace SF
end SF
end L2
namespace L2
open PySem PySem.Spec PyProof.Rows
section
variable {P : Program} {w : World} {A : Around} {E : Value → Shared → Prop}
end
section
variable {P : Program} {w : World} {A : Around} {E : Value → Shared → Prop} {s : Shared}
end
section
variable {P : Program} {w : World} {A : Around}
end
section
variable {X : Cx}
noncomputable def SetO (P : Program) (w : World) (a : Addr) (ss : List Str) : HO := .ext fun h => SSet P w h a ss
end
end L2
namespace L2
open PySem PySem.Spec PyProof.Rows
section
variable {P : Program} {w : World} {K : PySem.W.Frag} {mg : Str → Option Value} {base : Heap} {N : List Str} {qual : Str} {scope : Scope} {f : Addr} {cd : Value} {A : Around} {outer : List Env} {s₀ : Shared} {H₀ : Hp} {E : XK}
end
section
variable {P : Program} {w : World} {K : PySem.W.Frag} {mg : Str → Option Value} {base : Heap} {N : List Str} {qual : Str} {scope : Scope} {f : Addr} {cd : Value} {A : Around} {outer : List Env} {s₀ : Shared} {H₀ : Hp} {E : XK}
end
section
variable {X : Cx} {E : XK} {x : Str} {C : Addr} {B newId initId : String} {bmB : List Value} {np cpos pos : Pos} {e : Expr} {es : List Expr} {t : TA}
end
end L2
namespace L2
open PySem PySem.Spec PyProof.Rows
section
variable {X : Cx} {pins₀ : List (Addr × Obj)} {E : XK}
theorem Inv.track {Y : Cx} {pins : List (Addr × Obj)} {σ : St} {H : Hp} {s : Shared} {a : Addr} {o : HO} (I : Inv Y pins σ H s) (hn : H a = none) (h0 : Y.s₀.heap.get? a = none) (hL : a ≠ Y.env.locals) (hc : ∀ x c, Y.env.cells.lookup x = some c → c ≠ a)
    (hp : ∀ p ∈ Y.pn ++ pins, p.1 ≠ a) (ho : ObjOk Y.prog Y.w (upd H a o) s.heap a o) : Inv Y pins σ (upd H a o) s := by
  have keep : ∀ b u, H b = some u → upd H a o b = some u := fun b u e => by rw [upd_ne (ne_of_none e hn)]; exact e
  refine ⟨I.ok, I.os, I.bare, ⟨I.base.keep, I.base.slot, fun b ob e n hx => ?_, I.base.there, fun b xs e => keep b _ (I.base.tups b xs e), fun b ob xs e => keep b _ (I.base.frzs b ob xs e), fun b ps e => ?_⟩, I.loc, I.cell, ?_, fun x c e => ?_, fun p q => ?_, fun b u e => ?_, I.len⟩
  · have : b ≠ a := fun z => by rw [z, h0] at e; cases e
    rw [upd_ne this]; exact I.base.free b ob e n hx
  · obtain ⟨m, e'⟩ := I.base.tbls b ps e
    exact ⟨m, keep b _ e'⟩
  · rw [upd_ne (Ne.symm hL)]; exact I.free
  · rw [upd_ne (hc x c e)]; exact I.freeC x c e
  · obtain ⟨p1, p2, p3⟩ := I.pin p q
    exact ⟨p1, by rw [upd_ne (hp p q)]; exact p2, p3⟩
  · by_cases hb : b = a
    · subst hb; rw [upd_same] at e; cases e; exact ho
    · rw [upd_ne hb] at e
      exact (I.hok b u e).stay (fun _ _ _ q => q) (fun c q => keep c _ q) fun c xs q => keep c _ q
end
section
variable {X : Cx} {E : XK} {c n : Str} {C : Addr} {i : Nat} {body suite : List Stmt} {b₀ : Stmt} {tb ts : TS} {np hpos pos : Pos}
end
end L2
namespace L2
open PySem PySem.Spec PyProof.Rows PySem.Builtin PySem.Builtin.ObjectAttr PySem.Builtin.Getset_descriptor
section
variable {prog : Program} {w : World} {A : Around} {E : Value → Shared → Prop} {h : Heap} {g : Array GenState} {d : Drawn} {t : Nat} {os : OsState} {K : PySem.W.Frag} {a C : Addr} {o : Obj}
end
section
variable {X : Cx}
end
end L2
namespace L2
open PySem PySem.Spec PyProof.Rows
mutual
inductive Dp (K : PySem.W.Frag) (H : Hp) : V → PyData → Prop
  | non : Dp K H .non .none
  | bl (b : Bool) : Dp K H (.bl b) (.bool b)
  | int (i : Int) : Dp K H (.int i) (.int i)
  | str (x : Str) : Dp K H (.str x) (.str x)
  | lst {a : Addr} {xs : List V} {ds : List PyData} : SqL K H a xs → DpAll K H xs ds → Dp K H (.ref a) (.list ds)
  | tup {a : Addr} {xs : List V} {ds : List PyData} : SqT K H a xs → DpAll K H xs ds → Dp K H (.ref a) (.tuple ds)
inductive DpAll (K : PySem.W.Frag) (H : Hp) : List V → List PyData → Prop
  | nil : DpAll K H [] []
  | cons {v : V} {vs : List V} {d : PyData} {ds : List PyData} : Dp K H v d → DpAll K H vs ds → DpAll K H (v :: vs) (d :: ds)
end
section
variable {X : Cx} {pins : List (Addr × Obj)} {σ : St} {H : Hp} {s : Shared}
mutual
theorem Dp.reads (I : Inv X pins σ H s) : ∀ {v : V} {d : PyData}, Dp X.K H v d → ∀ {u : Value}, RelV v u → ∃ as, Reads s.heap u d as
  | _, _, .non, _, r => by cases r; exact ⟨_, .none⟩
  | _, _, .bl b, _, r => by cases r; exact ⟨_, .bool b⟩
  | _, _, .int i, _, r => by obtain ⟨t, rfl⟩ := r; exact ⟨_, .int i t⟩
  | _, _, .str x, _, r => by obtain ⟨t, rfl⟩ := r; exact ⟨_, .str x t⟩
  | _, _, .lst hs ha, _, r => by
    cases r
    obtain ⟨its, rv, ⟨o, n, e, hc, _, hd⟩, _⟩ := I.list hs
    obtain ⟨as, ra⟩ := DpAll.reads I ha rv
    exact ⟨_, .list e hc hd (by simpa using ra)⟩
  | _, _, .tup hs ha, _, r => by
    cases r
    obtain ⟨its, rv, ⟨o, e, hc, n, hd⟩, _⟩ := I.tuple hs
    obtain ⟨as, ra⟩ := DpAll.reads I ha rv
    exact ⟨_, .tuple e hc hd (by simpa using ra)⟩
theorem DpAll.reads (I : Inv X pins σ H s) : ∀ {vs : List V} {ds : List PyData}, DpAll X.K H vs ds → ∀ {us : List Value}, Vals vs us → ∃ as, ReadsAll s.heap us ds as
  | _, _, .nil, _, r => by cases r; exact ⟨_, .nil⟩
  | _, _, .cons h1 h2, _, r => by
    cases r with
    | cons r1 r2 =>
      obtain ⟨as, q1⟩ := Dp.reads I h1 r1
      obtain ⟨bs, q2⟩ := DpAll.reads I h2 r2
      exact ⟨_, .cons q1 q2⟩
end
end
noncomputable def EqOk (d : PyData) : Prop := d.canLay0 = true ∧ d.depth ≤ 16
section
variable {X : Cx}
noncomputable def rNeD (K : PySem.W.Frag) : R2 := fun x y H Q => ∃ dx dy, Dp K H x dx ∧ Dp K H y dy ∧ EqOk dx ∧ EqOk dy ∧ Q (.bl (!PyData.eqv dx dy)) H
theorem op_neD (hu : X.A.units + 32 < cLine) : OpR X (compareOp .NotEq) (rNeD X.K) := by
  intro pins s σ H x y v u Q I rx ry h
  obtain ⟨dx, dy, h1, h2, o1, o2, q⟩ := h
  obtain ⟨as, ra⟩ := Dp.reads I h1 rx
  obtain ⟨bs, rb⟩ := Dp.reads I h2 ry
  exact SeqAt.compareNe_reads ra rb o1.1 o2.1 (by have := o1.2; have := Nat.min_le_left dx.depth dy.depth; lia) ⟨.bl _, H, I, rfl, q⟩
end
noncomputable def dStrs (r : List Str) : List PyData := r.map .str
noncomputable def dRow (r : List Str) : PyData := .tuple (dStrs r)
noncomputable def RowAt (K : PySem.W.Frag) (H : Hp) (a : Addr) (r : List Str) : Prop := SqT K H a (r.map V.str)
noncomputable def RowsAt (K : PySem.W.Frag) (H : Hp) (a : Addr) (rs : List (List Str)) : Prop := ∃ as : List Addr, H a = some (.lst (as.map V.ref)) ∧ Paired (fun b r => RowAt K H b r) as rs
noncomputable def TellAt (K : PySem.W.Frag) (H : Hp) (a : Addr) (rss : List (List (List Str))) : Prop := ∃ as : List Addr, SqT K H a (as.map V.ref) ∧ Paired (fun b rs => RowsAt K H b rs) as rss
theorem Same.seqT {K : PySem.W.Frag} {H H' : Hp} {a : Addr} {xs : List V} (e : Same H H') (h : SqT K H a xs) : SqT K H' a xs := by
  rcases h with (h | ⟨o, h⟩) | h
  · exact .inl (.inl (e _ _ h))
  · exact .inl (.inr ⟨o, e _ _ h⟩)
  · exact .inr h
theorem RowAt.same {K : PySem.W.Frag} {H H' : Hp} {a : Addr} {r : List Str} (h : RowAt K H a r) (e : Same H H') : RowAt K H' a r := e.seqT h
theorem RowsAt.same {K : PySem.W.Frag} {H H' : Hp} {a : Addr} {rs : List (List Str)} (h : RowsAt K H a rs) (e : Same H H') : RowsAt K H' a rs := by
  obtain ⟨as, h1, h2⟩ := h
  exact ⟨as, e _ _ h1, Paired.mapP h2 fun b r z => z.same e⟩
theorem TellAt.same {K : PySem.W.Frag} {H H' : Hp} {a : Addr} {rss : List (List (List Str))} (h : TellAt K H a rss) (e : Same H H') : TellAt K H' a rss := by
  obtain ⟨as, h1, h2⟩ := h
  exact ⟨as, e.seqT h1, Paired.mapP h2 fun b r z => z.same e⟩
theorem dp_strs {K : PySem.W.Frag} {H : Hp} : ∀ r : List Str, DpAll K H (r.map V.str) (dStrs r)
  | [] => .nil
  | x :: r => .cons (.str x) (dp_strs r)
theorem RowAt.dp {K : PySem.W.Frag} {H : Hp} {a : Addr} {r : List Str} (h : RowAt K H a r) : Dp K H (.ref a) (dRow r) := .tup h (dp_strs r)
theorem dp_rows {K : PySem.W.Frag} {H : Hp} : ∀ {as : List Addr} {rs : List (List Str)}, Paired (fun b r => RowAt K H b r) as rs → DpAll K H (as.map V.ref) (rs.map dRow)
  | _, _, .nil => .nil
  | _, _, .cons h1 h2 => .cons h1.dp (dp_rows h2)
theorem RowsAt.dp {K : PySem.W.Frag} {H : Hp} {a : Addr} {rs : List (List Str)} (h : RowsAt K H a rs) : Dp K H (.ref a) (.list (rs.map dRow)) := by
  obtain ⟨as, h1, h2⟩ := h
  exact .lst (SqL.of h1) (dp_rows h2)
theorem dp_tells {K : PySem.W.Frag} {H : Hp} : ∀ {as : List Addr} {rss : List (List (List Str))}, Paired (fun b rs => RowsAt K H b rs) as rss → DpAll K H (as.map V.ref) (rss.map fun rs => PyData.list (rs.map dRow))
  | _, _, .nil => .nil
  | _, _, .cons h1 h2 => .cons h1.dp (dp_tells h2)
theorem TellAt.dp {K : PySem.W.Frag} {H : Hp} {a : Addr} {rss : List (List (List Str))} (h : TellAt K H a rss) : Dp K H (.ref a) (.tuple (rss.map fun rs => .list (rs.map dRow))) := by
  obtain ⟨as, h1, h2⟩ := h
  exact .tup h1 (dp_tells h2)
theorem same_new {H : Hp} {p : Addr} (h : H p = none) (o : HO) : Same H (upd H p o) := fun b u q => by rw [upd_ne (ne_of_none q h)]; exact q
end L2
namespace L2
open PySem PySem.Spec PyProof.Rows
section
variable {X : Cx} {o e : Expr} {to : TE} {t : TA} {apos cpos : Pos}
end
end L2
namespace L2
open PySem PySem.Spec PyProof.Rows PySem.Builtin PySem.Builtin.Str
noncomputable def cutS (z : Str) (lo hi : Option Int) : Str := ⟨((z.cps.toList.drop (HT.sIx z.length 0 lo)).take (HT.sIx z.length z.length hi - HT.sIx z.length 0 lo)).toArray⟩
theorem sIx_le (n d : Nat) (hd : d ≤ n) (v : Option Int) (hv : ∀ i, v = some i → -(n : Int) ≤ i ∨ 0 ≤ i ∨ True) : HT.sIx n d v ≤ n := by
  cases v with
  | none => exact hd
  | some i =>
    show (if i < 0 then (i + (n : Int)).toNat else min i.toNat n) ≤ n
    split <;> lia
theorem clip_sIx (n d : Nat) (hd : d ≤ n) (v : Option Int) : (match v with | none => (d : Int) | some i => max 0 (min (if i < 0 then i + (n : Int) else i) (n : Int))) = ((HT.sIx n d v : Nat) : Int) := by
  cases v with
  | none => rfl
  | some i =>
    show max 0 (min (if i < 0 then i + (n : Int) else i) (n : Int)) = ((if i < 0 then (i + (n : Int)).toNat else min i.toNat n : Nat) : Int)
    split <;> lia
theorem idx_sIx (lo hi : Option Int) (n : Nat) : strSliceIndices lo hi 1 n = (List.range (HT.sIx n n hi - HT.sIx n 0 lo)).map (fun k => HT.sIx n 0 lo + k) := by
  have e1 := clip_sIx n 0 (Nat.zero_le _) lo
  have e2 := clip_sIx n n (Nat.le_refl _) hi
  have key : strSliceIndices lo hi 1 n = sliceRange ((HT.sIx n 0 lo : Nat) : Int) ((HT.sIx n n hi : Nat) : Int) 1 := by
    rw [← e1, ← e2]
    cases lo <;> cases hi <;> rfl
  rw [key]
  generalize HT.sIx n 0 lo = a
  generalize HT.sIx n n hi = b
  unfold sliceRange
  simp only [show ((1 : Int) > 0) = True from by simp, if_true]
  by_cases h : (a : Int) < b
  · rw [if_pos h]
    have e3 : (((b : Int) - a + 1 - 1) / 1).toNat = b - a := by lia
    rw [e3]
    refine List.map_congr_left fun k _ => ?_
    lia
  · rw [if_neg h]
    have e4 : b - a = 0 := by lia
    rw [e4]
    rfl
theorem picks_cut (z : Str) (lo hi : Option Int) : ((strSliceIndices lo hi 1 z.length).filterMap (z.cps[·]?)) = (z.cps.toList.drop (HT.sIx z.length 0 lo)).take (HT.sIx z.length z.length hi - HT.sIx z.length 0 lo) := by
  rw [idx_sIx]
  have hz : z.length = z.cps.toList.length := by simp [Str.length]
  have hb : HT.sIx z.length z.length hi ≤ z.length := sIx_le _ _ (Nat.le_refl _) hi fun _ _ => .inr (.inr trivial)
  generalize HT.sIx z.length 0 lo = a at *
  generalize HT.sIx z.length z.length hi = b at *
  by_cases h : a ≤ b
  · have := StrLaws.picks z.cps.toList (b - a) a (by lia)
    simpa using this
  · have e : b - a = 0 := by lia
    rw [e]
    simp
section
variable {X : Cx}
noncomputable def rSlS : V → Option Int → Option Int → Hp → VK → Prop := fun x lo hi H Q => ∃ z, x = .str z ∧ z.length ≤ sizeLine ∧ Q (.str (cutS z lo hi)) H
theorem sl_str : SlR X rSlS := by
  intro pins s σ H x v vl vu lo hi sl Q I rx hs pl pu h
  obtain ⟨z, rfl, hz, q⟩ := h
  obtain ⟨t, rfl⟩ := rx
  refine ⟨"str", _, PySem.F.slot_str_getitem.lookup, typeIs_str s z t, ?_⟩
  obtain ⟨l, hl, el⟩ : ∃ l : Option (Int × Tok), partValue l = vl ∧ l.map (·.1) = lo := by
    cases pl with
    | none => exact ⟨none, rfl, rfl⟩
    | int i t => exact ⟨some (i, t), rfl, rfl⟩
  obtain ⟨u, hu, eu⟩ : ∃ u : Option (Int × Tok), partValue u = vu ∧ u.map (·.1) = hi := by
    cases pu with
    | none => exact ⟨none, rfl, rfl⟩
    | int i t => exact ⟨some (i, t), rfl, rfl⟩
  have hS : s.heap.IsSlice sl l u none := by
    obtain ⟨o, ho, hc, hd⟩ := hs
    exact ⟨o, ho, hc, by rw [hd, hl, hu]; rfl⟩
  refine getItem_meets (typeIs_str s z t) (by decide) PySem.F.slot_str_getitem PySem.F.entry_str_getitem (PySem.F.args_str_getitem_2 _ _) (meets_str_getitem_slice z t sl l u none (by decide)) ⟨hS, ?_⟩
  have epick : slicePicked z l u none = strSliceIndices lo hi 1 z.length := by
    unfold slicePicked
    rw [el, eu]
    rfl
  have ecut : ((slicePicked z l u none).filterMap (z.cps[·]?)) = (z.cps.toList.drop (HT.sIx z.length 0 lo)).take (HT.sIx z.length z.length hi - HT.sIx z.length 0 lo) := by rw [epick]; exact picks_cut z lo hi
  unfold sliceMade
  split
  · rename_i hw
    have hlen : (slicePicked z l u none).length = z.length := by simpa using hw
    have eq : cutS z lo hi = z := by
      have e1 : ((z.cps.toList.drop (HT.sIx z.length 0 lo)).take (HT.sIx z.length z.length hi - HT.sIx z.length 0 lo)) = z.cps.toList := by
        rw [epick, idx_sIx, List.length_map, List.length_range] at hlen
        have hb : HT.sIx z.length z.length hi ≤ z.length := sIx_le _ _ (Nat.le_refl _) hi fun _ _ => .inr (.inr trivial)
        rcases Nat.eq_zero_or_pos z.length with h0 | h0
        · have : z.cps.toList = [] := by
            have : z.cps.toList.length = 0 := by simpa [Str.length] using h0
            exact List.eq_nil_of_length_eq_zero this
          rw [this]; simp
        · have ea : HT.sIx z.length 0 lo = 0 := by lia
          have eb : HT.sIx z.length z.length hi = z.length := by lia
          rw [ea, eb, List.drop_zero, Nat.sub_zero]
          exact List.take_of_length_le (by simp [Str.length])
      unfold cutS
      rw [e1]
    rw [eq] at q
    exact ⟨.str z, H, I, ⟨t, rfl⟩, q⟩
  · show (Made.str _).post _ s
    rw [ecut]
    refine ⟨?_, .str (cutS z lo hi), H, I.tok _, ⟨_, rfl⟩, q⟩
    refine Nat.le_trans ?_ hz
    show ((z.cps.toList.drop (HT.sIx z.length 0 lo)).take (HT.sIx z.length z.length hi - HT.sIx z.length 0 lo)).toArray.size ≤ z.cps.size
    rw [List.size_toArray, List.length_take, List.length_drop, Array.length_toList]
    lia
end
end L2
namespace L2
open PySem PySem.Spec PyProof.Rows
structure JSeq (J : It) (I0 : Hp → Prop) (xs : List V) : Prop where
  go : ∀ i H, I0 H → i < xs.length → J.go i H
  stop : ∀ i H, I0 H → xs.length ≤ i → J.stop i H
  yld : ∀ i H x H', i < xs.length → I0 H → J.yld i H x H' → H' = H ∧ xs[i]? = some x
  stay : ∀ H H', I0 H → Same H H' → I0 H'
theorem jseq_list {K : PySem.W.Frag} {a : Addr} {xs : List V} : JSeq (Itl K a) (fun H => SqL K H a xs) xs where
  go := fun i H h hi => ⟨xs, xs[i], h, by simp [hi]⟩
  stop := fun i H h hi => ⟨xs, h, hi⟩
  yld := fun i H x H' _ h y => ⟨y.1, y.2 xs h⟩
  stay := fun H H' h e => e.seq h
noncomputable def nums (lo : Int) (n : Nat) : List V := (List.range n).map fun i => V.int (lo + (i : Nat))
theorem jseq_rng {lo : Int} {n : Nat} : JSeq (Itr lo n) (fun _ => True) (nums lo n) where
  go := fun i H _ hi => by simpa [nums, Itr] using hi
  stop := fun i H _ hi => by simpa [nums, Itr] using hi
  yld := fun i H x H' hi _ y => by
    refine ⟨y.1, ?_⟩
    have hi' : i < n := by simpa [nums] using hi
    have e : x = .int (lo + i) := y.2
    unfold nums
    rw [List.getElem?_map, List.getElem?_range hi', e]; rfl
  stay := fun _ _ _ _ => trivial
theorem Paired.snocP {α β : Type} {F : α → β → Prop} {x : α} {y : β} : ∀ {l₁ : List α} {l₂ : List β}, Paired F l₁ l₂ → F x y → Paired F (l₁ ++ [x]) (l₂ ++ [y])
  | _, _, .nil, h => .cons h .nil
  | _, _, .cons h₁ t, h => .cons h₁ (Paired.snocP t h)
noncomputable def SameX (D : Addr) (H H' : Hp) : Prop := ∀ b u, H b = some u → b ≠ D → H' b = some u
theorem Same.x {H H' : Hp} (e : Same H H') (D : Addr) : SameX D H H' := fun b u q _ => e b u q
theorem comp_rel {J : It} {H1 : Hp} {σ : St} {ix : List Nat} {tc : TT} {te : TE} {Q : VK} {I0 : Hp → Prop} (xs : List V) (p : V → Bool) (R : Addr → V → V → Hp → Prop) (hJ : JSeq J I0 xs) (h0 : I0 H1) (hz : xs.length ≤ sizeLine) (hR : ∀ D x y H H', R D x y H → SameX D H H' → R D x y H')
    (hc : ∀ x ∈ xs, ∀ H2, Same H1 H2 → ∀ Q' : Bool → Hp → Prop, (∀ H3, Same H2 H3 → Q' (p x) H3) → tc (some x :: frees σ ix) H2 Q')
    (he : ∀ D, ∀ x ∈ xs, p x = true → ∀ H2, Same H1 H2 → H2 D ≠ none → ∀ Q' : VK, (∀ y H3, Same H2 H3 → R D x y H3 → Q' y H3) → te (some x :: frees σ ix) H2 Q')
    (hQ : ∀ D H' ys, H1 D = none → Same H1 H' → H' D = some (.lst ys) → Paired (fun x y => R D x y H') (xs.filter p) ys → Q (.ref D) H') :
    CompGo J H1 σ ix tc te Q := by
  intro D hD
  have put : ∀ H ys, Same H1 H → Same H1 (upd H D (.lst ys)) := fun H ys e b u q => by rw [upd_ne (ne_of_none q hD)]; exact e b u q
  refine ⟨fun i m H => i ≤ xs.length ∧ m = xs.length - i ∧ Same H1 H ∧ ∃ ys, H D = some (.lst ys) ∧ Paired (fun x y => R D x y H) ((xs.take i).filter p) ys, ⟨xs.length, Nat.zero_le _, rfl, put _ _ (Same.refl _), [], upd_same, by simpa using Paired.nil⟩, ?_⟩
  rintro i m H ⟨hi, rfl, e, ys, hy, hp⟩
  have hI := hJ.stay _ _ h0 e
  by_cases hlt : i < xs.length
  · refine .inr ⟨hJ.go i H hI hlt, fun x H' hy' => ?_⟩
    obtain ⟨rfl, hx⟩ := hJ.yld i H x H' hlt hI hy'
    have hm : x ∈ xs := List.mem_of_getElem? hx
    have ht : xs.take (i + 1) = xs.take i ++ [x] := by rw [List.take_add_one, hx]; rfl
    have hlen : ys.length ≤ i := by
      have h1 := Paired.length hp
      have h2 := List.length_filter_le p (xs.take i)
      rw [List.length_take] at h2
      lia
    refine hc x hm _ e _ fun H3 e3 => ?_
    cases hpx : p x with
    | false =>
      rw [if_neg Bool.false_ne_true]
      refine ⟨xs.length - (i + 1), by lia, hlt, rfl, e.trans e3, ys, e3 _ _ hy, ?_⟩
      rw [ht, List.filter_append]
      simp only [List.filter_cons, hpx, List.filter_nil, List.append_nil, Bool.false_eq_true, if_false]
      exact Paired.mapP hp fun x y z => hR _ _ _ _ _ z (e3.x D)
    | true =>
      rw [if_pos rfl]
      refine he D x hm hpx _ (e.trans e3) (by rw [e3 _ _ hy]; simp) _ fun y H4 e4 hr => ?_
      have e5 : SameX D H4 (upd H4 D (.lst (ys ++ [y]))) := fun b u q hb => by rw [upd_ne hb]; exact q
      refine ⟨ys, e4 _ _ (e3 _ _ hy), by lia, xs.length - (i + 1), by lia, hlt, rfl, put _ _ (e.trans (e3.trans e4)), ys ++ [y], upd_same, ?_⟩
      rw [ht, List.filter_append]
      simp only [List.filter_cons, hpx, List.filter_nil, if_true]
      exact Paired.snocP (Paired.mapP hp fun x y z => hR _ _ _ _ _ (hR _ _ _ _ _ z ((e3.trans e4).x D)) e5) (hR _ _ _ _ _ hr e5)
  · have hi' : i = xs.length := by lia
    subst hi'
    refine .inl ⟨hJ.stop _ H hI (Nat.le_refl _), ?_⟩
    rw [List.take_length] at hp
    exact hQ D H ys hD e hy hp
theorem paired_map {α β : Type} {f : α → β} : ∀ {l : List α} {l' : List β}, Paired (fun x y => y = f x) l l' → l' = l.map f
  | _, _, .nil => rfl
  | _, _, .cons h t => by rw [h, paired_map t]; rfl
theorem comp_map {J : It} {H1 : Hp} {σ : St} {ix : List Nat} {tc : TT} {te : TE} {Q : VK} {I0 : Hp → Prop} (xs : List V) (p : V → Bool) (f : V → V) (hJ : JSeq J I0 xs) (h0 : I0 H1) (hz : xs.length ≤ sizeLine)
    (hc : ∀ x ∈ xs, ∀ H2, Same H1 H2 → ∀ Q' : Bool → Hp → Prop, (∀ H3, Same H2 H3 → Q' (p x) H3) → tc (some x :: frees σ ix) H2 Q')
    (he : ∀ x ∈ xs, p x = true → ∀ H2, Same H1 H2 → ∀ Q' : VK, (∀ H3, Same H2 H3 → Q' (f x) H3) → te (some x :: frees σ ix) H2 Q')
    (hQ : ∀ D H', H1 D = none → Same H1 H' → H' D = some (.lst ((xs.filter p).map f)) → Q (.ref D) H') :
    CompGo J H1 σ ix tc te Q :=
  comp_rel xs p (fun _ x y _ => y = f x) hJ h0 hz (fun _ _ _ _ _ h _ => h) hc (fun _ x hx hp H2 e _ Q' q => he x hx hp H2 e Q' fun H3 e3 => q _ H3 e3 rfl) fun D H' ys hD e hy hp => hQ D H' hD e (by rw [hy, paired_map hp])
end L2
namespace L2
open PySem PySem.Spec PyProof.Rows
section
variable {κ : Type} [DecidableEq κ]
end
section
variable {P : Program} {w : World} {H : Hp} {h : Heap} {a : Addr}
end
section
variable {X : Cx} {pins : List (Addr × Obj)} {σ : St} {H : Hp} {s : Shared} {a : Addr} {y v : V} {u r : Value} {o : Option V} {A : Around} {E : Value → Shared → Prop}
end
section
variable {X : Cx} {pins : List (Addr × Obj)} {σ : St} {H : Hp} {s : Shared} {a : Addr} {kvs : List (Key × V)} {k : Key} {u : Value} {A : Around} {E : Value → Shared → Prop}
end
section
variable {X : Cx} {o i e value : Expr} {pos pos' tpos : Pos} {td ty tv : TE}
end
section
variable {X : Cx} {pos : Pos}
end
section
variable {X : Cx} {pins : List (Addr × Obj)} {σ : St} {H : Hp} {s : Shared} {a : Addr} {y d : V} {u r : Value} {o : Option V} {A : Around} {E : Value → Shared → Prop}
end
section
variable {X : Cx} {o e f : Expr} {apos cpos : Pos} {td ty tx : TE}
end
section
variable {X : Cx} {pins : List (Addr × Obj)} {σ : St} {H : Hp} {s : Shared} {a : Addr} {kvs : List (Key × V)} {A : Around} {E : Value → Shared → Prop}
end
section
variable {X : Cx} {pins : List (Addr × Obj)} {σ : St} {H : Hp} {s : Shared} {a : Addr} {y : V} {u : Value} {A : Around} {E : Value → Shared → Prop}
end
section
variable {X : Cx}
end
section
variable {κ : Type} [DecidableEq κ]
end
end L2
namespace L2
open PySem PySem.Spec PyProof.Rows
section
variable {X : Cx}
end
end L2
namespace L2
open PySem PySem.Spec PyProof.Rows
section
variable {X : Cx} {es es1 : List Expr} {t t1 : TA} {te : TE} {x : Str} {j : Nat} {pos pos2 : Pos}
theorem pa_str {j} (hr : PA X es t) : PA X (.Constant (.str x) j pos :: es) (tCons (tC (.str x)) t) := pa_cons pe_str hr rfl
theorem pa_int {i : Int} {j} (hr : PA X es t) : PA X (.Constant (.int i) j pos :: es) (tCons (tC (.int i)) t) := pa_cons pe_int hr rfl
theorem pa_nm (h : PE X (.Name x pos) te) (hr : PA X es t) : PA X (.Name x pos :: es) (tCons te t) := pa_cons h hr rfl
theorem pa_tp {x1} (h : PA X es1 t1) (hr : PA X es t) : PA X (.Tuple es1 x1 pos :: es) (tCons (tTup t1) t) := pa_cons (pe_tup h) hr rfl
theorem pa_ls (h : PA X es1 t1) (hr : PA X es t) : PA X (.List es1 pos :: es) (tCons (tLst t1) t) := pa_cons (pe_lst h) hr rfl
theorem pa_sub {a b : Expr} (h : PE X (.Subscript a b pos) te) (hr : PA X es t) : PA X (.Subscript a b pos :: es) (tCons te t) := pa_cons h hr rfl
theorem pa_call {f : Expr} {as : List Expr} {ks : List Keyword} (h : PE X (.Call f as ks pos) te) (hr : PA X es t) : PA X (.Call f as ks pos :: es) (tCons te t) := pa_cons h hr rfl
theorem pa_bop {a b : Expr} {op : Operator} (h : PE X (.BinOp a op b pos) te) (hr : PA X es t) : PA X (.BinOp a op b pos :: es) (tCons te t) := pa_cons h hr rfl
end
end L2
namespace L2
open PySem PySem.Spec PyProof.Rows
structure QE (X : Cx) (e : Expr) (t : TE) : Prop where
  run : PE X e t
structure QT (X : Cx) (e : Expr) (t : TT) : Prop where
  run : PT X e t
structure QW (X : Cx) (e : Expr) (t : TT) : Prop where
  run : PW X e t
structure QA (X : Cx) (es : List Expr) (t : TA) : Prop where
  run : PA X es t
structure QS (X : Cx) (st : Stmt) (t : TS) : Prop where
  run : PS X st t
structure QB (X : Cx) (st : List Stmt) (t : TS) : Prop where
  run : PSs X st t
structure QI (X : Cx) (tg iter : Expr) (wi : TI) : Prop where
  run : PI X tg iter wi
structure QG (X : Cx) (target : Expr) (t : TG) : Prop where
  run : PG X target t
structure QO (X : Cx) (e : Option Expr) (t : TO) : Prop where
  run : PO X e t
structure QTs (X : Cx) (ifs : List Expr) (t : TT) : Prop where
  run : PTs X ifs t
theorem QW.qt {X : Cx} {e : Expr} {t : TT} (h : QW X e t) : QT X e t := ⟨PW.pt h.run⟩
section
variable {st : Stmt} {id : String} {lo hi : Option Expr}
set_option autoImplicit true
set_option relaxedAutoImplicit true
theorem qb_nil  : QB X [] tNext := ⟨pss_nil ⟩
theorem qb_cons {rest : List Stmt} (h1 : QS X st t) (h2 : QB X rest u) : QB X (st :: rest) (tSeq t u) := ⟨pss_cons h1.run h2.run⟩
theorem qb_one (h1 : QS X st t) : QB X [st] t := ⟨pss_one h1.run⟩
theorem qs_if {c : Expr} {a b : List Stmt} {tc : TT} (hc : QT X c tc) (ha : QB X a t) (hb : QB X b u) : QS X (.If c a b pos) (tIfS tc t u) := ⟨ps_if hc.run ha.run hb.run⟩
theorem qs_set {i : Nat} {x : Str} {e : Expr} {te : TE} {pos' : Pos} (hN : X.N.Nodup) (hi : X.N[i]? = some x) (hx : Loc X.env.scope x) (he : QE X e te) (hs : swapsWith e (some (.Name x pos')) pos.line X.env = pure false := by rfl) (hf : X.fn x = true ∨ X.env.scope.names.lookup x = some .local := by first | exact .inl rfl | exact .inr rfl | assumption) :     QS X (.Assign [.Name x pos'] e pos) (tAsg te (gName i)) := ⟨ps_set hN hi hx he.run hs hf⟩
theorem qs_ret (he : QE X e te) : QS X (.Return (some e) pos) (tRet te) := ⟨ps_ret he.run⟩
theorem qs_expr (he : QE X e te) (hs : swapsWith e none pos.line X.env = pure false := by rfl) : QS X (.Expr e pos) (tDrop te) := ⟨ps_expr he.run hs⟩
theorem qs_for {iter : Expr} {body : List Stmt} {wi : TI} {g : TG} {tb : TS} {pos : Pos} (hp : PassesOwn (model X.prog X.w) X.A X.env X.xe) (hc : X.calm = true) (hi : QI X tg iter wi) (hg : QG X tg g) (hb : QB X body tb) (hs : ∀ x, foldedSetIterable iter X.env x = pure x := by intro _; rfl) : QS X (.For tg iter body [] pos) (tFor wi g tb) := ⟨ps_for hp hc hi.run hg.run hb.run hs⟩
theorem qs_break  : QS X (.Break pos) tBreak := ⟨ps_break ⟩
theorem qe_int {i j pos} : QE X (.Constant (.int i) j pos) (tC (.int i)) := ⟨pe_int ⟩
theorem qe_bl {b j pos} : QE X (.Constant (.bool b) j pos) (tC (.bl b)) := ⟨pe_bl ⟩
theorem qe_str {x j pos} : QE X (.Constant (.str x) j pos) (tC (.str x)) := ⟨pe_str ⟩
theorem qv (i : Nat) {x : Str} {pos : Pos} (hN : X.N[i]? = some x := by rfl) (hv : Vis X.env.scope x := by first | exact Or.inl rfl | exact Or.inr (Or.inl rfl) | exact Or.inr (Or.inr rfl)) (hd : (x == ("__debug__" : Str)) = false := by decide) (hcd : (x == ("__classdict__" : Str)) = false := by decide) : QE X (.Name x pos) (tVar i) := ⟨pv i hN hv hd hcd⟩
theorem qe_op {op : Operator} {r : R2} (ho : OpR X (binaryOp op) r) (ha : QE X a ta) (hb : QE X b tb) : QE X (.BinOp a op b pos) (tOp r ta tb) := ⟨pe_op ho ha.run hb.run⟩
theorem qe_cmpR {op : CmpOp} {r : R2} (ho : OpR X (compareOp op) r) (ha : QE X a ta) (hb : QE X b tb) (hm : behindInMarks op b = false) : QE X (.Compare a [op] [b] pos) (tOp r ta tb) := ⟨pe_cmpR ho ha.run hb.run hm⟩
theorem qt_cmpR {op : CmpOp} {r : R2} (ho : OpR X (compareOp op) r) (ha : QE X a ta) (hb : QE X b tb) (hm : behindInMarks op b = false) : QT X (.Compare a [op] [b] pos) (tTest (tOp r ta tb)) := ⟨pt_cmpR ho ha.run hb.run hm⟩
theorem qt_val {e : Expr} {t : TE} (h : QE X e t) (he : ∀ whole, isTrue e X.env whole = (do let v ← whole; standAt e.pos; holding [v] (truthy v)) := by intro _; rfl) : QT X e (tB t) := ⟨pt_val h.run he⟩
theorem qt_not (ha : QT X a tA) : QT X (.UnaryOp .Not a pos) (tNot tA) := ⟨pt_not ha.run⟩
theorem qw_and1 (ha : QT X a tA) : QW X (.BoolOp .And [a] pos) tA := ⟨pw_and1 ha.run⟩
theorem qw_or1 (ha : QT X a tA) : QW X (.BoolOp .Or [a] pos) tA := ⟨pw_or1 ha.run⟩
theorem qw_and {rest : List Expr} (ha : QT X a tA) (hb : QW X (.BoolOp .And (b :: rest) pos) tB') : QW X (.BoolOp .And (a :: b :: rest) pos) (tAnd tA tB') := ⟨pw_and ha.run hb.run⟩
theorem qw_or {rest : List Expr} (ha : QT X a tA) (hb : QW X (.BoolOp .Or (b :: rest) pos) tB') : QW X (.BoolOp .Or (a :: b :: rest) pos) (tOr tA tB') := ⟨pw_or ha.run hb.run⟩
theorem qe_ix {r : R2} (hr : IxR X r) (ha : QE X a ta) (hb : QE X b tb) (hs : PlainIx b) : QE X (.Subscript a b pos) (tOp r ta tb) := ⟨pe_ix hr ha.run hb.run hs⟩
theorem qe_slice {r : V → Option Int → Option Int → Hp → VK → Prop} (hr : SlR X r) (he : QE X e te) (hl : QO X lo tl) (hu : QO X hi th) : QE X (.Subscript e (.Slice lo hi none p2) pos) (tSl r te tl th) := ⟨pe_slice hr he.run hl.run hu.run⟩
theorem qo_none  : QO X none tNoPart := ⟨po_none ⟩
theorem qo_some (h : QE X e te) : QO X (some e) (tPart te) := ⟨po_some h.run⟩
theorem qe_tup {x1} (h : QA X es t) : QE X (.Tuple es x1 pos) (tTup t) := ⟨pe_tup h.run⟩
theorem qe_lst (h : QA X es t) : QE X (.List es pos) (tLst t) := ⟨pe_lst h.run⟩
theorem qe_call (F : FnOk X.prog X.w X.K X.mg X.base CX k f fd ps sp) (hr : Room k X.A) (hg : Gl X x) (hm : X.mg x = some (.ref f)) (hk : PySem.W.keepIn X.K (.ref f) = true) (hb : Binds X.K fd ps ds) (hd : Vals dvs ds) (hx : Passes CX X E) (ha : QA X (e :: es) t) (hdb : (x == ("__debug__" : Str)) = false := by decide) (he : starEach (e :: es) X.env = (false, eval e X.env) :: starEach es X.env := by rfl) (hpl : (backTo pos (starEach es X.env)).any (·.1) = false := by rfl) :     QE X (.Call (.Name x p) (e :: es) [] pos) (tCall sp dvs E t) := ⟨pe_call F hr hg hm hk hb hd hx ha.run hdb he hpl⟩
theorem qe_callB (hc : CallR X (.builtin id) r) (hg : Gl X x) (hm : X.mg x = none) (hv : bootBuiltins x = some (.builtin id)) (ha : QA X (e :: es) t) (hn : x ≠ "__name__" := by decide) (hdb : (x == ("__debug__" : Str)) = false := by decide) (he : starEach (e :: es) X.env = (false, eval e X.env) :: starEach es X.env := by rfl) (hpl : (backTo pos (starEach es X.env)).any (·.1) = false := by rfl) : QE X (.Call (.Name x p) (e :: es) [] pos) (tCB r t) := ⟨pe_callB hc hg hm hv ha.run hn hdb he hpl⟩
theorem qe_callTy (hc : CallR X (.type T) r) (hg : Gl X x) (hm : X.mg x = none) (hv : bootBuiltins x = some (.type T)) (ha : QA X (e :: es) t) (hn : x ≠ "__name__" := by decide) (hdb : (x == ("__debug__" : Str)) = false := by decide) (he : starEach (e :: es) X.env = (false, eval e X.env) :: starEach es X.env := by rfl) (hpl : (backTo pos (starEach es X.env)).any (·.1) = false := by rfl) : QE X (.Call (.Name x p) (e :: es) [] pos) (tCB r t) := ⟨pe_callTy hc hg hm hv ha.run hn hdb he hpl⟩
theorem qe_bm0 (pa : PlainAttrs T) (slot : Slot T name id) (hty : typeOf (.builtin id) = pure (.type "method_descriptor")) (hm : MtR X id r) (ho : QE X o to) (hbase : attributeBase o name X.env (eval o X.env) = eval o X.env := by rfl) (hline : (apos.endLine == cpos.line) = true := by rfl) : QE X (.Call (.Attribute o name apos) [] [] cpos) (tBM0 X.K T r to) := ⟨pe_bm0 pa slot hty hm ho.run hbase hline⟩
theorem qi_list {l : Expr} {tl : TE} (hl : QE X l tl) : QI X tg l (iList X.K tl) := ⟨pi_list hl.run⟩
theorem qi_tup {l : Expr} {tl : TE} (hl : QE X l tl) : QI X tg l (iTup X.K tl) := ⟨pi_tup hl.run⟩
theorem qi_str {l : Expr} {tl : TE} (hl : QE X l tl) : QI X tg l (iStr tl) := ⟨pi_str hl.run⟩
theorem qi_range1 {a : Expr} {ta : TA} {p pos : Pos} (hg : Gl X "range") (hm : X.mg "range" = none) (ha : QA X [a] ta) (hs : starEach [a] X.env = [(false, eval a X.env)] := by rfl) : QI X tg (.Call (.Name "range" p) [a] [] pos) (iRng1 ta) := ⟨pi_range1 hg hm ha.run hs⟩
theorem qg_name {i : Nat} {x : Str} (hN : X.N.Nodup) (hi : X.N[i]? = some x) (hx : Loc X.env.scope x) (hf : X.fn x = true ∨ X.env.scope.names.lookup x = some .local := by first | exact .inl rfl | exact .inr rfl | assumption) : QG X (.Name x pos) (gName i) := ⟨pg_name hN hi hx hf⟩
theorem qa_nil  : QA X [] tNil := ⟨pa_nil ⟩
theorem qa_cons (ha : QE X e te) (hr : QA X es t) (hs : starEach (e :: es) X.env = (false, eval e X.env) :: starEach es X.env := by rfl) : QA X (e :: es) (tCons te t) := ⟨pa_cons ha.run hr.run hs⟩
theorem qa_str {j} (hr : QA X es t) : QA X (.Constant (.str x) j pos :: es) (tCons (tC (.str x)) t) := ⟨pa_str hr.run⟩
theorem qa_int {i : Int} {j} (hr : QA X es t) : QA X (.Constant (.int i) j pos :: es) (tCons (tC (.int i)) t) := ⟨pa_int hr.run⟩
theorem qa_nm (h : QE X (.Name x pos) te) (hr : QA X es t) : QA X (.Name x pos :: es) (tCons te t) := ⟨pa_nm h.run hr.run⟩
theorem qa_tp {x1} (h : QA X es1 t1) (hr : QA X es t) : QA X (.Tuple es1 x1 pos :: es) (tCons (tTup t1) t) := ⟨pa_tp h.run hr.run⟩
theorem qa_ls (h : QA X es1 t1) (hr : QA X es t) : QA X (.List es1 pos :: es) (tCons (tLst t1) t) := ⟨pa_ls h.run hr.run⟩
theorem qa_sub {a b : Expr} (h : QE X (.Subscript a b pos) te) (hr : QA X es t) : QA X (.Subscript a b pos :: es) (tCons te t) := ⟨pa_sub h.run hr.run⟩
theorem qa_call {f : Expr} {as : List Expr} {ks : List Keyword} (h : QE X (.Call f as ks pos) te) (hr : QA X es t) : QA X (.Call f as ks pos :: es) (tCons te t) := ⟨pa_call h.run hr.run⟩
theorem qa_bop {a b : Expr} {op : Operator} (h : QE X (.BinOp a op b pos) te) (hr : QA X es t) : QA X (.BinOp a op b pos :: es) (tCons te t) := ⟨pa_bop h.run hr.run⟩
theorem qts_nil {X : Cx} : QTs X [] tYes := ⟨pts_nil ⟩
theorem qts_one {X : Cx} {c : Expr} {t : TT} (h : QT X c t) : QTs X [c] t := ⟨pts_one h.run⟩
end
theorem Fun.okQ {P : Program} {w : World} {K : PySem.W.Frag} {mg : Str → Option Value} {base : Heap} {x qual : Str} {st : Stmt} {f : Addr} {fd : FuncData} {N ps : List Str} {k : Nat} {sp : Sp} (F : Fun K x qual st f fd) (S : FnScope N ps (defScope st)) (len : ∀ vs H Q E, sp vs H Q E → vs.length = ps.length)
    (hbody : ∀ (cdv : Value) (A : Around) (outer : List Env) (s : Shared) (H : Hp) (vs : List V) (Q : VK) (E : XK), Room k (A.deeper (envOfC qual (defScope st) s.heap.objs.size f cdv)) → sp vs H Q E →
      ∃ t, QB (cxOf CX0 P w K mg base N qual (defScope st) f cdv A outer s H E).nox (defBody st) t ∧ t { nx := fun _ H' => Q .non H', rt := Q } (start N vs) H) : FnOk P w K mg base CX0 (k + 1) f fd ps sp :=
  F.ok S len fun cdv A outer s H vs Q E hr h => by
    obtain ⟨t, h1, h2⟩ := hbody cdv A outer s H vs Q E hr h
    exact ⟨t, h1.run, h2⟩
end L2
namespace L2
open PySem PySem.Spec PyProof.Rows
section
variable {X : Cx} {st : Stmt} {t : TS} {e : Expr} {te : TE}
end
section
variable {id : String}
set_option autoImplicit true
set_option relaxedAutoImplicit true
theorem qe_bmK {K : PySem.W.Frag} (hK : X.K = K) (pa : PlainAttrs T) (slot : Slot T name id) (hty : typeOf (.builtin id) = pure (.type "method_descriptor")) (hm : MtR X id r) (ho : QE X o to) (ha : QA X (e :: es) t) (hbase : attributeBase o name X.env (eval o X.env) = eval o X.env := by rfl) (hfew : ((backTo cpos (starEach (e :: es) X.env)).all (fun x => !x.1) && (backToKw cpos (keywordEach [] X.env)).all (fun x => x.1.isSome)       && decide ((e :: es).length + ([] : List Keyword).length + (if ([] : List Keyword).isEmpty then 0 else 1) < 30)) = true := by rfl) (hline : (apos.endLine == cpos.line) = true := by rfl) (hs : starEach (e :: es) X.env = (false, eval e X.env) :: starEach es X.env := by rfl) (hplain : (backTo cpos (starEach es X.env)).any (·.1) = false := by rfl) : QE X (.Call (.Attribute o name apos) (e :: es) [] cpos) (tBM K T r to t) := by
  subst hK
  exact ⟨pe_bm pa slot hty hm ho.run ha.run hbase hfew hline hs hplain⟩
end
end L2
namespace L2
open PySem PySem.Spec PyProof.Rows
end L2
namespace L2
open PySem PySem.Spec PyProof.Rows
section
variable {X : Cx} {pins : List (Addr × Obj)} {σ : St} {H : Hp} {s : Shared} {h' : Heap}
theorem Inv.turnedL {t' : Nat} {ch : List Addr} (I : Inv X pins σ H s) (k : ∀ b o, b ∉ ch → s.heap.get? b = some o → h'.get? b = some o) (hc : ∀ b ∈ ch, FpOk X pins H b) : Inv X pins σ H { s with heap := h', toks := t' } := by
  have nit : ∀ b u, H b = some u → b ∉ ch := fun b u e z => by rw [(hc b z).1] at e; cases e
  refine I.step (g' := s.gens) (d' := s.drawn) (ch := ch) (fun b hb => ⟨(hc b hb).2.2.2.1, (hc b hb).2.1, (hc b hb).2.2.2.2.1, (hc b hb).2.2.2.2.2⟩) (fun b o _ _ hn e _ => k b o hn e) (fun b o _ _ hn e _ => ⟨o.slots, k b o hn e⟩) (fun _ _ _ _ n => n)
    (fun b o hn e => ⟨o, k b o hn e⟩) (fun _ _ e => e) (fun _ _ _ e => e) (fun b ps e => ⟨#[], by rw [e]; simp⟩) (fun m hm => ?_) (fun b u e => ?_) I.bare
  · obtain ⟨o, es, ep, ho, r⟩ := hm
    exact ⟨o, es, ep, k _ o (fun z => (hc _ z).2.1 rfl) ho, r⟩
  · refine (I.hok b u e).stay (fun c v hcv q => k c v ?_ q) (fun _ q => q) fun _ _ q => q
    rcases hcv with z | z
    · rw [z]; exact nit b u e
    · exact nit c _ z
end
noncomputable def Itz (l1 l2 : Addr) : It where
  go := fun i H => ∃ xs ys x y, H l1 = some (.lst xs) ∧ H l2 = some (.lst ys) ∧ xs[i]? = some x ∧ ys[i]? = some y
  yld := fun i H v H' => ∃ xs ys x y p, H l1 = some (.lst xs) ∧ H l2 = some (.lst ys) ∧ xs[i]? = some x ∧ ys[i]? = some y ∧ H p = none ∧ H' = upd H p (.tup [x, y]) ∧ v = .ref p
  stop := fun i H => ∃ xs ys, H l1 = some (.lst xs) ∧ H l2 = some (.lst ys) ∧ (xs.length ≤ i ∨ ys.length ≤ i)
noncomputable def zipFp (n : Addr) : List Addr := [n + 4, n + 2, n + 3, n, n + 1]
noncomputable def zipTn (n l1 l2 : Addr) (i : Nat) (h : Heap) : Prop := IsZip h (n + 4) (n + 2) (n + 3) .none ∧ IsPair h (n + 2) (.ref n) (.ref (n + 1)) ∧ (∃ a b, IsPair h (n + 3) a b) ∧ h.IsListIter n l1 i ∧ h.IsListIter (n + 1) l2 i
theorem zipApart_of {n l1 l2 : Nat} (h1 : l1 ∉ zipFp n) (h2 : l2 ∉ zipFp n) : ZipApart (n + 4) (n + 2) (n + 3) n (n + 1) l1 l2 := by
  unfold zipFp at h1 h2
  simp only [List.mem_cons, List.not_mem_nil, or_false, not_or] at h1 h2
  have nn : ∀ a b : Nat, a ≠ b → n + a ≠ n + b := fun a b h => by lia
  have n0 : ∀ a : Nat, a ≠ 0 → n ≠ n + a := fun a h => by lia
  exact ⟨nn 2 4 (by decide), nn 3 4 (by decide), n0 4 (by decide), nn 1 4 (by decide), nn 2 3 (by decide), (n0 2 (by decide)).symm, nn 2 1 (by decide), (n0 3 (by decide)).symm, nn 3 1 (by decide), n0 1 (by decide), h1.1, h1.2.2.1, h1.2.2.2.1, h1.2.2.2.2, h2.1, h2.2.2.1, h2.2.2.2.1, h2.2.2.2.2⟩
theorem turn_zip {P : Program} {w : World} {K : PySem.W.Frag} {elts : List Expr} {x1} {pos : Pos} (n l1 l2 : Addr) : Turn P w K (.Tuple elts x1 pos) (Itz l1 l2) (zipFp n) (n + 4) (zipTn n l1 l2) where
  mem := by simp [zipFp]
  obj := fun i h st b hb => by
    obtain ⟨hz, hTI, ⟨a, c, hTO⟩, ⟨o1, e1, c1, d1⟩, ⟨o2, e2, c2, d2⟩⟩ := st
    unfold zipFp at hb
    simp only [List.mem_cons, List.not_mem_nil, or_false] at hb
    rcases hb with rfl | rfl | rfl | rfl | rfl
    · exact ⟨_, hz, fun v z => by cases z⟩
    · exact ⟨_, hTI, fun v z => by cases z⟩
    · exact ⟨_, hTO, fun v z => by cases z⟩
    · exact ⟨o1, e1, fun v z => by rw [d1] at z; cases z⟩
    · exact ⟨o2, e2, fun v z => by rw [d2] at z; cases z⟩
  keep := fun i h h' st k => by
    obtain ⟨hz, hTI, ⟨a, c, hTO⟩, h1, h2⟩ := st
    exact ⟨k _ (by simp [zipFp]) _ hz, k _ (by simp [zipFp]) _ hTI, ⟨a, c, k _ (by simp [zipFp]) _ hTO⟩, h1.at fun o e => k _ (by simp [zipFp]) o e, h2.at fun o e => k _ (by simp [zipFp]) o e⟩
  item := by
    intro X hP hw hK hc i pins s σ H E I hf st hg
    subst hP hw hK
    obtain ⟨hz, hTI, ⟨a, c, hTO⟩, h1, h2⟩ := st
    obtain ⟨xs, ys, x, y, q1, q2, hx, hy⟩ := hg
    obtain ⟨_, its1, n1, r1, _, e1⟩ := I.lstM q1
    obtain ⟨_, its2, n2, r2, _, e2⟩ := I.lstM q2
    have L1 : s.heap.IsList l1 its1.toArray := ⟨_, e1, rfl, _, rfl⟩
    have L2 : s.heap.IsList l2 its2.toArray := ⟨_, e2, rfl, _, rfl⟩
    obtain ⟨u, hu, ru⟩ := r1.get hx
    obtain ⟨v, hv, rv⟩ := r2.get hy
    have D : ZipApart (n + 4) (n + 2) (n + 3) n (n + 1) l1 l2 := zipApart_of (fun z => by rw [(hf _ z).1] at q1; cases q1) (fun z => by rw [(hf _ z).1] at q2; cases q2)
    refine wpAny_pyNext_zip_item D hz hTI hTO h1 h2 L1 L2 (x := u) (y := v) (by simpa using hu) (by simpa using hv) fun h' a1 a2 a3 a4 a5 a6 hk => ?_
    have I1 : Inv X pins σ H { s with heap := h' } := I.turnedL (ch := zipFp n) (t' := s.toks) (fun b o hb e => by
      unfold zipFp at hb
      simp only [List.mem_cons, List.not_mem_nil, or_false, not_or] at hb
      exact hk b o hb.1 hb.2.2.1 hb.2.2.2.1 hb.2.2.2.2 e) hf
    refine ⟨.ref s.heap.objs.size, rfl, wpAny_letOwnedTupleGo_zip a1 fun h2' hz' hs' => ?_⟩
    have I2 : Inv X pins σ H { s with heap := h2' } := I1.turnedL (s := { s with heap := h' }) (ch := zipFp n) (t' := s.toks) (fun b o hb e => by
      unfold zipFp at hb
      simp only [List.mem_cons, List.not_mem_nil, or_false, not_or] at hb
      exact hs'.extBut _ _ hb.1 e) hf
    have fresh : H s.heap.objs.size = none := I.hok.fresh (Nat.le_refl _)
    have pz : s.heap.objs.size ≠ n + 4 := Nat.ne_of_gt (Heap.lt_size hz)
    have I3 : Inv X pins σ (upd H s.heap.objs.size (.tup [x, y])) { s with heap := h2' } := by
      refine I2.track fresh ?_ (Nat.ne_of_gt I.lt) (fun z c' e e2' => ?_) (fun p hp e2' => ?_) ?_
      · cases q : X.s₀.heap.get? s.heap.objs.size with
        | none => rfl
        | some o => exact absurd (Nat.lt_of_lt_of_le (Heap.lt_size q) I.sz) (Nat.lt_irrefl _)
      · obtain ⟨v', q⟩ := I.cell z c' e
        exact absurd (e2' ▸ q.lt) (Nat.lt_irrefl _)
      · exact absurd (e2' ▸ Heap.lt_size (I.pin p hp).1) (Nat.lt_irrefl _)
      · exact ⟨by show 2 ≤ sizeLine; decide, [u, v], .cons ru (.cons rv .nil), ⟨_, hs'.extBut _ _ pz a5, rfl, _, rfl⟩⟩
    have hpn : ∀ b ∈ zipFp n, b ≠ s.heap.objs.size := fun b hb e => by
      have q3 : ∃ o, s.heap.get? b = some o := by
        unfold zipFp at hb
        simp only [List.mem_cons, List.not_mem_nil, or_false] at hb
        obtain ⟨o1, g1, _⟩ := h1
        obtain ⟨o2, g2, _⟩ := h2
        rcases hb with rfl | rfl | rfl | rfl | rfl
        · exact ⟨_, hz⟩
        · exact ⟨_, hTI⟩
        · exact ⟨_, hTO⟩
        · exact ⟨_, g1⟩
        · exact ⟨_, g2⟩
      obtain ⟨o, q3⟩ := q3
      exact absurd (e ▸ Heap.lt_size q3) (Nat.lt_irrefl _)
    have hTI' : IsPair h' (n + 2) (.ref n) (.ref (n + 1)) := hk _ _ D.TIz D.TITO D.TIi1 D.TIi2 hTI
    refine ⟨.ref s.heap.objs.size, _, I3, rfl, ⟨xs, ys, x, y, _, q1, q2, hx, hy, fresh, rfl, rfl⟩, ⟨hz', hs'.extBut _ _ D.TIz hTI', ⟨_, _, hs'.extBut _ _ D.TOz a2⟩, a3.extBut hs'.extBut D.i1z, a4.extBut hs'.extBut D.i2z⟩, fun b hb => ?_⟩
    rw [upd_ne (hpn b hb)]; exact (hf b hb).1
  done := by
    intro X hP hw hK hc i pins s σ H E I hf st hg
    subst hP hw hK
    obtain ⟨hz, hTI, ⟨a, c, hTO⟩, h1, h2⟩ := st
    obtain ⟨xs, ys, q1, q2, hl⟩ := hg
    obtain ⟨_, its1, n1, r1, l1', e1⟩ := I.lstM q1
    obtain ⟨_, its2, n2, r2, l2', e2⟩ := I.lstM q2
    have L1 : s.heap.IsList l1 its1.toArray := ⟨_, e1, rfl, _, rfl⟩
    have L2 : s.heap.IsList l2 its2.toArray := ⟨_, e2, rfl, _, rfl⟩
    have D : ZipApart (n + 4) (n + 2) (n + 3) n (n + 1) l1 l2 := zipApart_of (fun z => by rw [(hf _ z).1] at q1; cases q1) (fun z => by rw [(hf _ z).1] at q2; cases q2)
    refine wpAny_pyNext_zip_end (I.ok.hd hc) D hz hTI hTO h1 h2 L1 L2 ?_ fun h' hk => ⟨rfl, I.turnedL (ch := zipFp n) (t' := s.toks) (fun b o hb e => ?_) hf⟩
    · rcases hl with h | h
      · exact .inl (by rw [List.getElem?_toArray, List.getElem?_eq_none (by lia)])
      · exact .inr (by rw [List.getElem?_toArray, List.getElem?_eq_none (by lia)])
    · unfold zipFp at hb
      simp only [List.mem_cons, List.not_mem_nil, or_false, not_or] at hb
      exact hk b o hb.1 hb.2.2.1 hb.2.2.2.1 hb.2.2.2.2 e
  self := fun _ _ _ _ _ st h => wpAny_pyIter_zip st.1 h
section
variable {X : Cx}
noncomputable def iZip (ta : TA) : TI := fun σ H R => ta σ H fun vs H1 => ∃ l1 l2 xs ys, vs = [.ref l1, .ref l2] ∧ H1 l1 = some (.lst xs) ∧ H1 l2 = some (.lst ys) ∧ R (Itz l1 l2) H1
theorem pi_zip {a b : Expr} {ta : TA} {p pos tpos : Pos} {elts : List Expr} {x1} (hg : Gl X "zip") (hm : X.mg "zip" = none) (ha : PA X [a, b] ta) (hs : starEach [a, b] X.env = [(false, eval a X.env), (false, eval b X.env)]) (hs2 : starEach [b] X.env = [(false, eval b X.env)]) :
    PI X (.Tuple elts x1 tpos) (.Call (.Name "zip" p) [a, b] [] pos) (iZip ta) := by
  intro pins s σ H R I h
  refine Call_ (ld_blt I hg hm boot_zip (PyProof.Rows.callWith_type1 (thn (ha pos pins s σ H _ I h) fun us s1 ⟨vs, H1, I1, r1, q1⟩ => ?_) (by rw [hs, hs2]) (by rw [hs2]; rfl)))
  obtain ⟨l1, l2, xs, ys, e, q1, q2, q⟩ := q1
  subst e
  cases r1 with
  | cons r rr =>
    cases rr with
    | cons r' rr =>
      cases rr
      cases r
      cases r'
      obtain ⟨_, its1, n1, v1, _, e1⟩ := I1.lstM q1
      obtain ⟨_, its2, n2, v2, _, e2⟩ := I1.lstM q2
      refine call_zip_2 (xs := its1.toArray) (ys := its2.toArray) ⟨_, e1, rfl, _, rfl⟩ ⟨_, e2, rfl, _, rfl⟩ fun h' g1 g2 g3 g4 g5 g6 hk => ?_
      have I2 : Inv X pins σ H1 { s1 with heap := h' } := I1.kept (t' := s1.toks) fun b o e => hk b o e
      refine wpAny_pyIter_zip (s := { s1 with heap := h' }) g1 ?_
      refine ⟨s1.heap.objs.size + 4, zipFp s1.heap.objs.size, zipTn s1.heap.objs.size l1 l2, Itz l1 l2, H1, rfl, I2, turn_zip _ _ _, ⟨g1, g2, ⟨_, _, g3⟩, g4, g5⟩, fun b hb => ?_, q⟩
      have hge : s1.heap.objs.size ≤ b := by
        unfold zipFp at hb
        simp only [List.mem_cons, List.not_mem_nil, or_false] at hb
        rcases hb with rfl | rfl | rfl | rfl | rfl
        · exact Nat.le_add_right _ 4
        · exact Nat.le_add_right _ 2
        · exact Nat.le_add_right _ 3
        · exact Nat.le_refl _
        · exact Nat.le_add_right _ 1
      have f0 := I1.fpOk (H' := H1) hge (I1.hok.fresh hge)
      exact f0
theorem qi_zip {a b : Expr} {ta : TA} {p pos tpos : Pos} {elts : List Expr} {x1} (hg : Gl X "zip") (hm : X.mg "zip" = none) (ha : QA X [a, b] ta) (hs : starEach [a, b] X.env = [(false, eval a X.env), (false, eval b X.env)] := by rfl) (hs2 : starEach [b] X.env = [(false, eval b X.env)] := by rfl) :
    QI X (.Tuple elts x1 tpos) (.Call (.Name "zip" p) [a, b] [] pos) (iZip ta) := ⟨pi_zip hg hm ha.run hs hs2⟩
end
theorem for_zip {l1 l2 : Addr} {xs ys : List V} {g : TG} {tb : TS} {D : Ends} {σ : St} {H : Hp} (Pv : Nat → St → Hp → Prop) (h0 : Pv 0 σ H) (hl : ∀ i σ H, Pv i σ H → H l1 = some (.lst xs) ∧ H l2 = some (.lst ys)) (hxy : xs.length = ys.length)
    (hs : ∀ i x y σ H p, xs[i]? = some x → ys[i]? = some y → Pv i σ H → H p = none → g (.ref p) σ (upd H p (.tup [x, y])) fun σ2 H2 => tb { D with nx := Pv (i + 1), ct := Pv (i + 1), bk := D.nx } σ2 H2) (hd : ∀ σ H, Pv xs.length σ H → D.nx σ H) :
    ∃ W : Nat → Nat → St → Hp → Prop, (∃ m, W 0 m σ H) ∧ ∀ i m σ H, W i m σ H →
      ((Itz l1 l2).stop i H ∧ D.nx σ H) ∨ ((Itz l1 l2).go i H ∧ ∃ N : St → Hp → Prop, (∀ σ' H', N σ' H' → ∃ m', m' < m ∧ W (i + 1) m' σ' H') ∧ ∀ x H', (Itz l1 l2).yld i H x H' → g x σ H' fun σ2 H2 => tb { D with nx := N, ct := N, bk := D.nx } σ2 H2) := by
  refine ⟨fun i m σ H => m = xs.length - i ∧ i ≤ xs.length ∧ Pv i σ H, ⟨xs.length, by simp, Nat.zero_le _, h0⟩, ?_⟩
  rintro i m σ H ⟨rfl, hi, p⟩
  obtain ⟨q1, q2⟩ := hl i σ H p
  by_cases hlt : i < xs.length
  · refine .inr ⟨⟨xs, ys, xs[i], ys[i], q1, q2, by simp [hlt], by simp [show i < ys.length by lia]⟩, Pv (i + 1), fun σ' H' p' => ⟨xs.length - (i + 1), by lia, rfl, hlt, p'⟩, fun x H' y => ?_⟩
    obtain ⟨xs', ys', x', y', p', g1, g2, hx, hy, hn, rfl, rfl⟩ := y
    rw [q1] at g1
    rw [q2] at g2
    cases g1
    cases g2
    exact hs i x' y' σ H p' hx hy p hn
  · have e : i = xs.length := by lia
    subst e
    exact .inl ⟨⟨xs, ys, q1, q2, .inl (Nat.le_refl _)⟩, hd σ H p⟩
end L2
namespace L2
open PySem PySem.Spec PyProof.Rows
section
variable {X : Cx}
theorem ps_setcomp {elt iter : Expr} {x yv : Str} {px pos py pos2 : Pos} {iy : Nat} {ifs : List Expr} {sc : Scope} {cl : List (Str × Addr)} {ix : List Nat} {wi : TI} {tc : TT} {te : TE} (N : List Str) (hNd : X.N.Nodup) (hiy : X.N[iy]? = some yv) (hyv : Loc X.env.scope yv) (hsw : swapsWith (.ListComp elt [⟨.Name x px, iter, ifs, 0⟩] sc pos) (some (.Name yv py)) pos2.line X.env = pure true) (hfy : X.fn yv = true ∨ X.env.scope.names.lookup yv = some .local)
    (hc : X.calm = true) (hi : PI X (.Name x px) iter wi) (hif : ∀ s H C ex, PTs (blk X N s H sc cl C ex) ifs tc) (he : ∀ s H C ex, PE (blk X N s H sc cl C ex) elt te)
    (hkind : sc.kind = .function) (hN : N = x :: ix.map fun j => (X.N[j]?).getD "") (hnd : N.Nodup) (hx : sc.names.lookup x = some .local)
    (hcl : closureFor sc X.env = pure cl) (hcell : ∀ y ∈ sc.names, y.2 ≠ .cell) (hnames : ∀ y ∈ sc.names, y.2 = .local → sc.names.lookup y.1 = some .local)
    (hsub : ∀ y c, cl.lookup y = some c → X.env.cells.lookup y = some c) (hhas : ∀ y, ((relabel sc X.env).names.lookup y = some .cell ∨ (relabel sc X.env).names.lookup y = some .free) → ∃ c, cl.lookup y = some c)
    (hix : ∀ j ∈ ix, ∃ y, X.N[j]? = some y ∧ X.env.kindOf y = some .cell ∧ (relabel sc X.env).names.lookup y = some .cell)
    (hs : ∀ x, foldedSetIterable iter X.env x = pure x := by intro _; rfl) :
    PS X (.Assign [.Name yv py] (.ListComp elt [⟨.Name x px, iter, ifs, 0⟩] sc pos) pos2) (tAsg (tComp ix wi tc te) (gName iy)) := by
  intro pins s σ H D0 I h
  rw [exec_Assign_Name_used _ _ _ _ hsw]
  refine wpAny_bind (wpAny_standAt (wpAny_bind ?_))
  show wpAny _ _ (comprehension _ _ _ _ _ _ _ _ >>= _) _ _ _
  refine wpAny_bind (wpAny_mono (Q := fun _ s' => SP X pins D0 .next s') (comp_core N hc hi hif he hkind hN hnd hx hcl hcell hnames hsub hhas hix hs (use := some (assign (.Name yv py) X.env)) I h fun D C s6 H5 mm I7 hm hCn hCl hCc hsz hpin qn => ?_) (fun _ s' q => wpAny_pure (wpAny_pure q)) fun _ _ y => y)
  refine wpAny_assign_Name (store_ok2 I7 hNd hiy hyv (show RelV (V.ref D) (Value.ref D) from rfl) (fun s8 I8 hsb => ?_) hfy)
  obtain ⟨a8, sb8, ha8⟩ := hsb
  have hna : C ≠ a8 := by
    rcases ha8 with z | z
    · rw [z]; exact hCl
    · exact Ne.symm (hCc _ _ z)
  obtain ⟨oC, esC, epC, hoC, rC⟩ := hm
  refine ⟨mm, ⟨oC, esC, epC, sb8.extBut _ _ hna hoC, rC⟩, fun h9 sb9 => ?_⟩
  exact ⟨_, H5, I8.turned (t' := s8.toks) (it := C) (fun b o hb e => sb9.extBut b o hb e) hCn hCl (.inr hsz) hCc hpin, qn⟩
end
end L2
namespace L2
open PySem PySem.Spec PyProof.Rows
section
variable {X : Cx}
end
section
variable {X : Cx}
end
theorem cl_has {L : List (Str × NameKind)} {cl : List (Str × Addr)} {ks : List Str} (hkm : cl.map (·.1) = ks) (hkB : (L.all fun y => (match y.2 with | .cell => false | .free => false | _ => true) || decide (y.1 ∈ ks)) = true) (z : Str) (h : L.lookup z = some .cell ∨ L.lookup z = some .free) : ∃ c, cl.lookup z = some c := by
  have hm : z ∈ cl.map (·.1) := by
    rw [hkm]
    rcases h with h | h
    · have := List.all_eq_true.mp hkB _ (PySem.mem_of_lookup h)
      simpa using this
    · have := List.all_eq_true.mp hkB _ (PySem.mem_of_lookup h)
      simpa using this
  clear hkm hkB
  induction cl with
  | nil => simp at hm
  | cons p r ih =>
    rw [List.lookup_cons]
    cases hb : z == p.1 with
    | true => exact ⟨_, rfl⟩
    | false =>
      rw [List.map_cons, List.mem_cons] at hm
      rcases hm with h1 | h1
      · rw [h1] at hb; simp at hb
      · exact ih h1
end L2
namespace L2
open PySem PySem.Spec PyProof.Rows
section
variable {X : Cx}
theorem qe_unN {j : Nat} {p3 p4 : Pos} : QE X (.UnaryOp .USub (.Constant (.int 1) j p3) p4) (fun _ H Q => Q (.int (-1)) H) := ⟨fun pins s σ H Q I q => pe_un un_neg pe_int pins s σ H Q I ⟨1, rfl, q⟩⟩
noncomputable def tRev (K : PySem.W.Frag) (te : TE) : TE := fun σ H Q => te σ H fun x H1 => ∃ a xs, x = .ref a ∧ SqL K H1 a xs ∧ ∀ p, H1 p = none → Q (.ref p) (upd H1 p (.lst xs.reverse))
theorem vals_reverse : ∀ {xs : List V} {us : List Value}, Vals xs us → Vals xs.reverse us.reverse
  | _, _, .nil => .nil
  | _, _, .cons r t => by
    rw [List.reverse_cons, List.reverse_cons]
    exact Vals.append (vals_reverse t) (.cons r .nil)
theorem qe_rev {e : Expr} {te : TE} {p2 p3 p4 pos : Pos} {j : Nat} (he : QE X e te) : QE X (.Subscript e (.Slice none none (some (.UnaryOp .USub (.Constant (.int 1) j p3) p4)) p2) pos) (tRev X.K te) := by
  refine ⟨fun pins s σ H Q I h => ?_⟩
  refine Subscript_ (thn (he.run pins s σ H _ I h) fun v s1 ⟨x, H1, I1, r1, q1⟩ => ?_)
  obtain ⟨a, xs, rfl, hx, q⟩ := q1
  cases r1
  refine wpAny_Slice ?_
  rw [evalPart_none]
  refine wpAny_pure (wpAny_pure ?_)
  rw [evalPart_some]
  refine thn ((qe_unN (X := X) (j := j) (p3 := p3) (p4 := p4)).run pins s1 σ H1 (fun y H2 => y = .int (-1) ∧ H2 = H1) I1 ⟨rfl, rfl⟩) fun u s2 ⟨y, H2, I2, r2, q2⟩ => ?_
  obtain ⟨rfl, rfl⟩ := q2
  obtain ⟨t, rfl⟩ := r2
  obtain ⟨its, r, ht, hz⟩ := I2.list hx
  have hlen := r.length
  have I4 : Inv X pins σ H2 { s2 with heap := s2.heap.push { cls := .type "slice", data := .fields #[.none, .none, .int (-1) t] } } := I2.kept (t' := s2.toks) fun b ob q => Heap.get?_push_of_some _ q
  have hl4 : Heap.IsList (s2.heap.push { cls := .type "slice", data := .fields #[.none, .none, .int (-1) t] }) a its.toArray := ht.isList.push _
  have tl4 : Shared.TypeIs { s2 with heap := s2.heap.push { cls := .type "slice", data := .fields #[.none, .none, .int (-1) t] } } (.ref a) "list" := Heap.IsList.typeIs (s := { s2 with heap := s2.heap.push { cls := .type "slice", data := .fields #[.none, .none, .int (-1) t] } }) hl4
  show wpAny (model X.prog X.w) X.A (subscriptTail e (.Slice none none (some (.UnaryOp .USub (.Constant (.int 1) j p3) p4)) p2) (.ref a) (.ref s2.heap.objs.size)) (EP X pins σ Q) X.xe { s2 with heap := s2.heap.push { cls := .type "slice", data := .fields #[.none, .none, .int (-1) t] } }
  refine tail_any (ops := [.ref a, .ref s2.heap.objs.size]) tl4 slot_list_getitem.lookup ?_ (by with_unfolding_all rfl)
  refine wpAny_getItem_list_slice hl4 (Heap.IsSliceOf.new ..) .none .none (.int (-1) t) (by simp) ?_ (by rw [List.size_toArray] <;> lia)
  rw [PySem.W.krv_pick]
  refine ⟨.ref _, _, I4.laid (t' := s2.toks) (o := .lst xs.reverse) (fun b ob q => Heap.get?_push_of_some _ q) (Nat.le_refl _) ?_, rfl, q _ (I4.hok.fresh (Nat.le_refl _))⟩
  exact ⟨by rw [List.length_reverse]; exact hz, its.reverse, 0, vals_reverse r, Heap.get?_push_size _ rfl⟩
end
theorem cl_sub {cl cells : List (Str × Addr)} (h : ∀ p ∈ cl, cells.lookup p.1 = some p.2) (y : Str) (c : Addr) (e : cl.lookup y = some c) : cells.lookup y = some c := h (y, c) (PySem.mem_of_lookup e)
inductive ClIn (cells : List (Str × Addr)) : List (Str × Addr) → Prop
  | nil : ClIn cells []
  | cons {x : Str} {a : Addr} {r : List (Str × Addr)} : cells.lookup x = some a → ClIn cells r → ClIn cells ((x, a) :: r)
theorem ClIn.all {cells cl : List (Str × Addr)} (h : ClIn cells cl) : ∀ p ∈ cl, cells.lookup p.1 = some p.2 := by
  induction h with
  | nil => intro p hp; cases hp
  | cons h _ ih =>
    intro p hp
    rcases List.mem_cons.mp hp with rfl | z
    · exact h
    · exact ih p z
inductive IxIn (X : Cx) (sc : Scope) : List Nat → Prop
  | nil : IxIn X sc []
  | cons {j : Nat} {y : Str} {r : List Nat} : X.N[j]? = some y → X.env.kindOf y = some .cell → (relabel sc X.env).names.lookup y = some .cell → IxIn X sc r → IxIn X sc (j :: r)
theorem IxIn.all {X : Cx} {sc : Scope} {ix : List Nat} (h : IxIn X sc ix) : ∀ j ∈ ix, ∃ y, X.N[j]? = some y ∧ X.env.kindOf y = some .cell ∧ (relabel sc X.env).names.lookup y = some .cell := by
  induction h with
  | nil => intro p hp; cases hp
  | cons h1 h2 h3 _ ih =>
    intro p hp
    rcases List.mem_cons.mp hp with rfl | z
    · exact ⟨_, h1, h2, h3⟩
    · exact ih p z
theorem qe_compG {X : Cx} {elt iter : Expr} {x : Str} {px pos : Pos} {ifs : List Expr} {sc : Scope} {cl : List (Str × Addr)} {wi : TI} {tc : TT} {te : TE} (N : List Str) (ix : List Nat) (hi : QI X (.Name x px) iter wi)
    (hif : ∀ s H C ex, QTs (blk X N s H sc cl C ex) ifs tc) (he : ∀ s H C ex, QE (blk X N s H sc cl C ex) elt te)
    (hcl : closureFor sc X.env = pure cl := by rfl) (hcs : ClIn X.env.cells cl := by repeat' first | with_unfolding_all rfl | constructor) (hN : N = x :: ix.map (fun j => (X.N[j]?).getD "") := by rfl) (hnd : N.Nodup := by decide +kernel)
    (hkm : cl.map (·.1) = N.tail := by rfl) (hkB : ((relabel sc X.env).names.all fun y => (match y.2 with | .cell => false | .free => false | _ => true) || decide (y.1 ∈ N.tail)) = true := by with_unfolding_all rfl)
    (hix : IxIn X sc ix := by repeat' first | with_unfolding_all rfl | constructor)
    (hx : sc.names.lookup x = some .local := by decide +kernel) (hcell : ∀ z ∈ sc.names, z.2 ≠ .cell := by decide +kernel)
    (hnames : ∀ z ∈ sc.names, z.2 = .local → sc.names.lookup z.1 = some .local := by decide +kernel)
    (hc : X.calm = true := by rfl) (hkind : sc.kind = .function := by rfl) (hs : ∀ x, foldedSetIterable iter X.env x = pure x := by intro _; rfl) :
    QE X (.ListComp elt [⟨.Name x px, iter, ifs, 0⟩] sc pos) (tComp ix wi tc te) :=
  ⟨pe_comp N hc hi.run (fun s H C ex => (hif s H C ex).run) (fun s H C ex => (he s H C ex).run) hkind hN hnd hx hcl hcell hnames (cl_sub hcs.all) (cl_has hkm hkB) hix.all hs⟩
theorem qs_setCG {X : Cx} {elt iter : Expr} {x yv : Str} {px pos py pos2 : Pos} {i : Nat} {ifs : List Expr} {sc : Scope} {cl : List (Str × Addr)} {wi : TI} {tc : TT} {te : TE} (N : List Str) (ix : List Nat) (hNd : X.N.Nodup) (hiy : X.N[i]? = some yv) (hyv : Loc X.env.scope yv) (hi : QI X (.Name x px) iter wi)
    (hif : ∀ s H C ex, QTs (blk X N s H sc cl C ex) ifs tc) (he : ∀ s H C ex, QE (blk X N s H sc cl C ex) elt te)
    (hsw : swapsWith (.ListComp elt [⟨.Name x px, iter, ifs, 0⟩] sc pos) (some (.Name yv py)) pos2.line X.env = pure true := by rfl) (hfy : X.fn yv = true ∨ X.env.scope.names.lookup yv = some .local := by first | exact .inl rfl | exact .inr rfl | assumption)
    (hcl : closureFor sc X.env = pure cl := by rfl) (hcs : ClIn X.env.cells cl := by repeat' first | with_unfolding_all rfl | constructor) (hN : N = x :: ix.map (fun j => (X.N[j]?).getD "") := by rfl) (hnd : N.Nodup := by decide +kernel)
    (hkm : cl.map (·.1) = N.tail := by rfl) (hkB : ((relabel sc X.env).names.all fun y => (match y.2 with | .cell => false | .free => false | _ => true) || decide (y.1 ∈ N.tail)) = true := by with_unfolding_all rfl)
    (hix : IxIn X sc ix := by repeat' first | with_unfolding_all rfl | constructor)
    (hx : sc.names.lookup x = some .local := by decide +kernel) (hcell : ∀ z ∈ sc.names, z.2 ≠ .cell := by decide +kernel)
    (hnames : ∀ z ∈ sc.names, z.2 = .local → sc.names.lookup z.1 = some .local := by decide +kernel)
    (hc : X.calm = true := by rfl) (hkind : sc.kind = .function := by rfl) (hs : ∀ x, foldedSetIterable iter X.env x = pure x := by intro _; rfl) :
    QS X (.Assign [.Name yv py] (.ListComp elt [⟨.Name x px, iter, ifs, 0⟩] sc pos) pos2) (tAsg (tComp ix wi tc te) (gName i)) :=
  ⟨ps_setcomp N hNd hiy hyv hsw hfy hc hi.run (fun s H C ex => (hif s H C ex).run) (fun s H C ex => (he s H C ex).run) hkind hN hnd hx hcl hcell hnames (cl_sub hcs.all) (cl_has hkm hkB) hix.all hs⟩
theorem comp_pos {α β : Type} {J : It} {H1 : Hp} {σ : St} {ix : List Nat} {te : TE} {Q : VK} {I0 : Hp → Prop} (xs : List V) (rs : List α) (R : Addr → Hp → V → β → Prop) (f : α → β) (hJ : JSeq J I0 xs) (h0 : I0 H1) (hz : xs.length ≤ 1000) (hl : rs.length = xs.length)
    (hR : ∀ D H H' y r, R D H y r → SameX D H H' → R D H' y r)
    (he : ∀ (D : Addr) (i : Nat) (x : V) (r : α), xs[i]? = some x → rs[i]? = some r → ∀ H2, Same H1 H2 → H2 D ≠ none → ∀ Q' : VK, (∀ y H3, Same H2 H3 → R D H3 y (f r) → Q' y H3) → te (some x :: frees σ ix) H2 Q')
    (hQ : ∀ D H' ys, H1 D = none → Same H1 H' → H' D = some (.lst ys) → Paired (fun y r => R D H' y r) ys (rs.map f) → Q (.ref D) H') : CompGo J H1 σ ix tYes te Q := by
  intro D hD
  have put : ∀ H ys, Same H1 H → Same H1 (upd H D (.lst ys)) := fun H ys e b u q => by rw [upd_ne (ne_of_none q hD)]; exact e b u q
  refine ⟨fun i m H => i ≤ xs.length ∧ m = xs.length - i ∧ Same H1 H ∧ ∃ ys : List V, H D = some (.lst ys) ∧ Paired (fun y r => R D H y r) ys ((rs.take i).map f), ⟨xs.length, Nat.zero_le _, rfl, put _ _ (Same.refl _), [], upd_same, by simpa using Paired.nil⟩, ?_⟩
  rintro i m H ⟨hi, rfl, e, ys, hy, hp⟩
  have hI := hJ.stay _ _ h0 e
  by_cases hlt : i < xs.length
  · refine .inr ⟨hJ.go i H hI hlt, fun x H' hy' => ?_⟩
    obtain ⟨rfl, hx⟩ := hJ.yld i H x H' hlt hI hy'
    have hri : i < rs.length := by lia
    have hr : rs[i]? = some rs[i] := List.getElem?_eq_getElem hri
    have ht : rs.take (i + 1) = rs.take i ++ [rs[i]] := by rw [List.take_add_one, hr]; rfl
    have hlen : ys.length = i := by
      have h1 := Paired.length hp
      rw [List.length_map, List.length_take] at h1
      lia
    dsimp only [tYes]
    rw [if_pos rfl]
    refine he D i x rs[i] hx hr _ e (by rw [hy]; simp) _ fun y H4 e4 hR4 => ?_
    have hput : SameX D H4 (upd H4 D (.lst (ys ++ [y]))) := fun b u q hn => by rw [upd_ne hn]; exact q
    refine ⟨ys, e4 _ _ hy, by rw [hlen]; exact Nat.lt_of_lt_of_le hlt (Nat.le_trans hz (by decide)), xs.length - (i + 1), by lia, hlt, rfl, put _ _ (e.trans e4), ys ++ [y], upd_same, ?_⟩
    rw [ht, List.map_append]
    exact Paired.snocP (Paired.mapP hp fun a r z => hR _ _ _ _ _ (hR _ _ _ _ _ z (e4.x D)) hput) (hR _ _ _ _ _ hR4 hput)
  · have hi' : i = xs.length := by lia
    subst hi'
    refine .inl ⟨hJ.stop _ H hI (Nat.le_refl _), ?_⟩
    rw [← hl, List.take_length] at hp
    exact hQ D H ys hD e hy hp
end L2
namespace L2
open PySem PySem.Spec PyProof.Rows
section
variable {X : Cx} {CX : CXT} {k : Nat} {f C : Addr} {fd : FuncData} {ps : List Str} {ds : List Value} {dvs : List V} {sp : Sp} {E : XK} {x m fl : Str} {p pos pos' apos : Pos} {e o value : Expr} {es : List Expr} {ta tv : TE} {t : TA}
end
section
variable {X : Cx} {pins : List (Addr × Obj)} {σ : St} {H : Hp} {s : Shared} {a : Addr} {y d : V} {u r : Value} {A : Around} {E : Value → Shared → Prop}
end
section
variable {X : Cx} {o e f : Expr} {apos cpos : Pos} {td ty tx : TE}
end
section
variable {prog : Program} {w : World} {A : Around} {E : Value → Shared → Prop} {s : Shared} {J d : Addr} {n ep : Nat} {es : Array DictEntry} {od : Obj}
end
section
variable {X : Cx}
end
section
variable {X : Cx} {pins : List (Addr × Obj)} {σ : St} {H : Hp} {s : Shared} {a : Addr} {u : HO} {o : Obj}
end
end L2
namespace Mir
open PySem L2
noncomputable def noNames : List Str := ["nil", "any", "is", "not", "cell", "stretch", "tree", "nothing", "then", "with"]
theorem eqV_str (a b : Str) : eqV (.str a) (.str b) = decide (a = b) := by
  show (a == b) = decide (a = b)
  by_cases h : a = b
  · subst h; simp
  · rw [decide_eq_false h]; exact beq_eq_false_iff_ne.mpr h
theorem inV_strs (x : Str) (l : List Str) : inV (.str x) (l.map V.str) = decide (x ∈ l) := by
  unfold inV
  rw [Bool.eq_iff_iff, List.any_eq_true, decide_eq_true_eq]
  constructor
  · rintro ⟨y, hy, e⟩
    obtain ⟨z, hz, rfl⟩ := List.mem_map.mp hy
    rw [eqV_str, decide_eq_true_eq] at e
    exact e ▸ hz
  · intro h
    exact ⟨.str x, List.mem_map.mpr ⟨x, h, rfl⟩, by rw [eqV_str]; simp⟩
end Mir
namespace K30
open PySem PySem.Spec L2 Mir
noncomputable def top (i : Nat) : Stmt := PySem.Challenge.pw_apart_k30_rests_of_covers.main.body.getD i (.Pass ⟨0, 0, 0, 0⟩)
structure Con (K : PySem.W.Frag) (mg : Str → Option Value) (w : World) : Prop where
  len : mg "len" = none
  all : mg "all" = none
  any : mg "any" = none
  isi : mg "isinstance" = none
  list : mg "list" = none
  int : mg "int" = none
  bool : mg "bool" = none
  str : mg "str" = none
  dict : mg "dict" = none
  sorted : mg "sorted" = none
  set : mg "set" = none
  sum : mg "sum" = none
  range : mg "range" = none
  tuple : mg "tuple" = none
  max : mg "max" = none
  zip : mg "zip" = none
  enumerate : mg "enumerate" = none
theorem iteB {b : Bool} {A B : Prop} (h1 : b = true → A) (h2 : b = false → B) : if b = true then A else B := by
  cases b with
  | true => rw [if_pos rfl]; exact h1 rfl
  | false => rw [if_neg Bool.false_ne_true]; exact h2 rfl
theorem Paired.nth {α β : Type} {F : α → β → Prop} : ∀ {l₁ : List α} {l₂ : List β} {i : Nat} {a : α}, Paired F l₁ l₂ → l₁[i]? = some a → ∃ b, l₂[i]? = some b ∧ F a b
  | _, _, _, _, .nil, e => by simp at e
  | _, _, 0, _, .cons h _, e => by simp at e; subst e; exact ⟨_, rfl, h⟩
  | _, _, i + 1, _, .cons _ t, e => by
    obtain ⟨b, e1, e2⟩ := Paired.nth (i := i) t (by simpa using e)
    exact ⟨b, by simpa using e1, e2⟩
theorem gty {X : Cx} {x : Str} {n : String} {pos : Pos} (hm : X.mg x = none) (hv : bootBuiltins x = some (.type n)) (hg : Gl X x := by rfl) (hn : x ≠ "__name__" := by decide) (hdb : (x == ("__debug__" : Str)) = false := by decide) : PE X (.Name x pos) (tC (.ty n)) := pe_bltn hg hm hv rfl hn hdb
structure Cal (K : PySem.W.Frag) (mg : Str → Option Value) (x : Str) (f : Addr) (fd : FuncData) (ps : List Str) : Prop where
  name : mg x = some (.ref f)
  keep : PySem.W.keepIn K (.ref f) = true
  bind : Binds K fd ps []
theorem ref_at {l : List Addr} {i : Nat} {x : V} (hx : (l.map V.ref)[i]? = some x) : ∃ a, l[i]? = some a ∧ x = .ref a := by
  rw [List.getElem?_map] at hx
  cases h : l[i]? with
  | none => rw [h] at hx; cases hx
  | some a => rw [h] at hx; exact ⟨a, rfl, (Option.some.inj hx).symm⟩
theorem Paired.at2 {α β : Type} {F : α → β → Prop} {l₁ : List α} {l₂ : List β} {i : Nat} {a : α} {b : β} (h : Paired F l₁ l₂) (h1 : l₁[i]? = some a) (h2 : l₂[i]? = some b) : F a b := by
  obtain ⟨b', e1, e2⟩ := Paired.nth h h1
  rw [h2] at e1
  cases e1
  exact e2
theorem Paired.app {α β : Type} {F : α → β → Prop} : ∀ {l₁ : List α} {l₂ : List β} {m₁ : List α} {m₂ : List β}, Paired F l₁ l₂ → Paired F m₁ m₂ → Paired F (l₁ ++ m₁) (l₂ ++ m₂)
  | _, _, _, _, .nil, h => h
  | _, _, _, _, .cons h t, h2 => .cons h (Paired.app t h2)
theorem getD_at {ws : List Str} {i : Nat} (h : i < ws.length) : atI (ws.map V.str) (i : Int) = some (.str (ws.getD i "")) := atI_nat (by rw [List.getElem?_map, List.getD_eq_getElem?_getD, List.getElem?_eq_getElem h]; rfl)
section
variable {K : PySem.W.Frag}
theorem row_put {H : Hp} {l b : Addr} {xs ys : List V} {r : List Str} (hl : H l = some (.lst xs)) (h : RowAt K H b r) : RowAt K (upd H l (.lst ys)) b r := by
  rcases h with (h | ⟨o, h⟩) | h
  · have hne : b ≠ l := fun e => by rw [e, hl] at h; cases h
    exact .inl (.inl (by show upd H l _ b = _; rw [upd_ne hne]; exact h))
  · have hne : b ≠ l := fun e => by rw [e, hl] at h; cases h
    exact .inl (.inr ⟨o, by show upd H l _ b = _; rw [upd_ne hne]; exact h⟩)
  · exact .inr h
end
noncomputable def cellAt (ns : List Int) (k : Nat) : Int := (ns[k]?).getD 0
noncomputable def spCell (K : PySem.W.Frag) : Sp := fun vs H Q _ => ∃ (a : Addr) (ns : List Int) (k : Nat), vs = [.ref a, .int (k : Int)] ∧ SqL K H a (ns.map V.int) ∧ Q (.int (cellAt ns k)) H
theorem at_mod {α : Type} {xs : List α} {m : Int} {i : Int} (hl : (xs.length : Int) = m) (hm : 0 < m) : ∃ v, atI xs (i % m) = some v ∧ v ∈ xs := by
  have h0 := Int.emod_nonneg i (Int.ne_of_gt hm)
  have h1 := Int.emod_lt_of_pos i hm
  generalize i % m = j at h0 h1
  obtain ⟨k, rfl⟩ := Int.eq_ofNat_of_zero_le h0
  have hk : k < xs.length := by lia
  exact ⟨xs[k], atI_nat (List.getElem?_eq_getElem hk), List.getElem_mem hk⟩
noncomputable abbrev sCell : Stmt := top 4
section
variable {P : Program} {w : World} {K : PySem.W.Frag} {mg : Str → Option Value} {base : Heap} {f g : Addr} {fd gd : FuncData}
theorem scCell : FnScope ["_law_script", "_law_k"] ["_law_script", "_law_k"] (defScope sCell) := ⟨rfl, rfl, rfl, by decide +kernel, rfl, by decide +kernel, by decide +kernel⟩
theorem ok_cellAt (C : Con K mg w) (F : Fun K "_law_cell_at" "_law_cell_at" sCell f fd) : FnOk P w K mg base CX0 1 f fd ["_law_script", "_law_k"] (spCell K) := by
  refine F.okQ scCell (fun vs H Q E h => ?_) (fun cdv A outer s H vs Q E hr h => ?_)
  · obtain ⟨a, ns, k, rfl, _⟩ := h; rfl
  obtain ⟨a, ns, k, rfl, hS, q⟩ := h
  refine ⟨_, qb_cons (qs_if (qt_cmpR op_lt (qv 1) (qe_callB call_len_seq rfl C.len PySem.boot_len (qa_nm (qv 0) qa_nil)) (nomark _)) (qb_one (qs_ret (qe_ix ix_list (qv 0) (qv 1) (fun _ _ => rfl)))) qb_nil)
    (qb_one (qs_ret qe_int)), ?_⟩
  have hl : (ns.map V.int).length = ns.length := List.length_map _
  refine ⟨_, rfl, _, rfl, a, _, rfl, .inl hS, _, _, rfl, rfl, _, rfl, iteB (fun c => ?_) (fun c => ?_)⟩
  · have c' := of_decide_eq_true c
    rw [hl] at c'
    have hk : k < ns.length := by lia
    have e : cellAt ns k = ns[k] := by unfold cellAt; rw [List.getElem?_eq_getElem hk]; rfl
    rw [e] at q
    exact ⟨_, rfl, _, rfl, a, _, _, _, rfl, rfl, hS, atI_nat (by rw [List.getElem?_map, List.getElem?_eq_getElem hk]; rfl), q⟩
  · have c' := of_decide_eq_false c
    rw [hl] at c'
    have hk : ns.length ≤ k := by lia
    have e : cellAt ns k = 0 := by unfold cellAt; rw [List.getElem?_eq_none hk]; rfl
    rw [e] at q
    exact q
end
noncomputable def spLaw (K : PySem.W.Frag) : Sp := fun vs H Q _ => ∃ (a : Addr) (ns : List Int), vs = [.ref a] ∧ SqL K H a (ns.map V.int) ∧ ∀ H', Q (.bl true) H'
theorem sq_put {K : PySem.W.Frag} {H : Hp} {l b : Addr} {xs ys zs : List V} (hl : H l = some (.lst xs)) (h : SqT K H b zs) : SqT K (upd H l (.lst ys)) b zs := by
  rcases h with (h | ⟨o, h⟩) | h
  · have hne : b ≠ l := fun e => by rw [e, hl] at h; cases h
    exact .inl (.inl (by show upd H l _ b = _; rw [upd_ne hne]; exact h))
  · have hne : b ≠ l := fun e => by rw [e, hl] at h; cases h
    exact .inl (.inr ⟨o, by show upd H l _ b = _; rw [upd_ne hne]; exact h⟩)
  · exact .inr h
theorem qg_tup2 {X : Cx} {i j : Nat} {x y : Str} {px py pos : Pos} {k : Nat} (h1 : QG X (.Name x px) (gName i)) (h2 : QG X (.Name y py) (gName j)) (hc : X.calm = true := by rfl)
    (a1 : (assignEach [.Name x px, .Name y py] X.env).map (·.2) = assign (.Name x px) X.env :: (assignEach [.Name y py] X.env).map (·.2) := by rfl) (a2 : (assignEach [.Name y py] X.env).map (·.2) = assign (.Name y py) X.env :: (assignEach [] X.env).map (·.2) := by rfl)
    (hn : (assignEach [.Name x px, .Name y py] X.env).length = 2 := by rfl) (hst : (assignEach [.Name x px, .Name y py] X.env).findIdx? (·.1) = none := by rfl) : QG X (.Tuple [.Name x px, .Name y py] k pos) (gTup X.K 2 (gCons (gName i) (gCons (gName j) gNil))) :=
  ⟨pg_tup hc (pgs_cons h1.run (pgs_cons h2.run pgs_nil a2) a1) hn hst⟩
theorem iteN {b : Bool} {A B : Prop} (h : b = true) (hB : B) : if (!b) = true then A else B := by rw [h]; exact hB
theorem qs_weak {X : Cx} {st : Stmt} {t t' : TS} (h : QS X st t) (w : ∀ D σ H, t' D σ H → t D σ H) : QS X st t' := ⟨fun pins s σ H D I q => h.run pins s σ H D I (w D σ H q)⟩
theorem cut_V (xs : List V) (n : Nat) : cutV xs none (some (n : Int)) = xs.take n := by
  unfold cutV
  rw [HT.sIx_nat, HT.sIx_none, List.drop_zero, Nat.sub_zero]
  by_cases h : n ≤ xs.length
  · rw [Nat.min_eq_left h]
  · rw [Nat.min_eq_right (by lia), List.take_length, List.take_of_length_le (by lia)]
theorem paired_take {α β : Type} {F : α → β → Prop} : ∀ {l : List α} {m : List β} (n : Nat), Paired F l m → Paired F (l.take n) (m.take n)
  | _, _, 0, _ => .nil
  | _, _, _ + 1, .nil => .nil
  | _, _, n + 1, .cons h t => .cons h (paired_take n t)
theorem qe_un {X : Cx} {a : Expr} {ta : TE} {pos : Pos} {op : UnaryOp} {r : V → Hp → VK → Prop} (ho : UnR X (unaryOp op) r) (ha : QE X a ta) : QE X (.UnaryOp op a pos) (tUn r ta) := ⟨pe_un ho ha.run⟩
noncomputable def tFlat (t : TS) : TS := fun D σ H => t { D with nx := fun σ' H' => ∀ τ, τ = σ' → D.nx τ H' } σ H
theorem qs_flat {X : Cx} {st : Stmt} {t : TS} (h : QS X st t) : QS X st (tFlat t) := qs_weak h fun D σ H h => by
  have e : (fun σ' H' => ∀ τ, τ = σ' → D.nx τ H') = D.nx := by
    funext σ' H'
    exact propext ⟨fun h => h _ rfl, fun h τ e => e ▸ h⟩
  unfold tFlat at h
  rw [e] at h
  exact h
end K30
namespace L2
open PySem PySem.Spec
end L2
namespace Kn
open PySem PySem.Spec L2
end Kn
namespace Kn
open PySem PySem.Spec L2
end Kn
namespace L2
open PySem PySem.Spec PyProof.Rows PySem.SeqAt
open AutoSeq1 (wpAny_loadPart')
open MeetsSeq MeetsSeq2 MeetsSeq3
section
variable {prog : Program} {w : World}
end
section
variable {X : Cx}
end
end L2
namespace L2
open PySem PySem.Spec PyProof.Rows
section
variable {X : Cx}
noncomputable def insV (xs : List V) (k : Nat) (y : V) : List V := xs.take k ++ y :: xs.drop k
noncomputable def rInsert : V → List V → Hp → VK → Prop := fun x vs H Q => ∃ l xs i y, x = .ref l ∧ vs = [.int ((i : Nat) : Int), y] ∧ H l = some (.lst xs) ∧ i ≤ xs.length ∧ xs.length ≤ 1000 ∧ Q .non (upd H l (.lst (insV xs i y)))
theorem mt_insert : MtM X "list.insert" rInsert := by
  intro pins s σ H x vs v us Q I rx rv h
  obtain ⟨l, xs, i, y, rfl, rfl, hH, hi, hz, q⟩ := h
  cases rx
  obtain ⟨u0, u, rfl, ⟨t, rfl⟩, ru⟩ := vals2 rv
  obtain ⟨z, its, n, r, hl, e⟩ := I.lstM hH
  have hfit : ¬ (!Builtin.List.listFitsIndex ((i : Nat) : Int)) = true := by
    have := fitsIndex_both (k := ((i : Nat) : Int)) (by lia) (by lia)
    rw [this]; simp
  have hsz : its.toArray.size ≤ sizeLine := by rw [List.size_toArray]; lia
  generalize hj : ((i : Nat) : Int) = j at hfit ⊢
  have M := PySem.AutoSeq1.list_insert_list_int_val_1 l its.toArray n j t u hfit hsz
  refine call_meets F.slot_list_insert ⟨_, e, rfl⟩ F.entry_list_insert (F.args_list_insert_3 (.ref l) (.int j t) u) M ⟨e, ?_⟩
  have hv : Vals (insV xs i y) (its.take i ++ u :: its.drop i) := (r.take i).append (.cons ru (r.drop i))
  refine ⟨.non, _, I.lset (its' := its.take i ++ u :: its.drop i) hH e ?_ hv ?_, rfl, q⟩
  · have hk : (if j < 0 then (j + ↑its.length).toNat else min j.toNat its.length) = i := by rw [if_neg (by lia)]; lia
    apply Array.toList_inj.mp
    simp [hk]
    rw [List.take_of_length_le (by rw [List.length_drop]; exact Nat.le_refl _)]
  · unfold insV
    rw [List.length_append, List.length_take, List.length_cons, List.length_drop]
    exact Nat.le_trans (show _ ≤ 1002 by lia) (by decide)
noncomputable def CDivB (_ j : Int) : Prop := 0 < j ∧ j ≤ 10 ^ 60
theorem op_fdivB : OpR X (binaryOp .FloorDiv) (rI CDivB fun i j => .int (i / j)) := opI fun i j _ _ _ _ _ hc q => by
  have h1 : (0 : Int) < j := hc.1
  have h2 : j ≤ 10 ^ 60 := hc.2
  refine floordiv_int (by lia) (by rw [Int.fdiv_eq_ediv_of_nonneg i (by lia)]; exact q) (.inl (PyProof.noPylong_of_log2 ?_))
  have h3 : j.natAbs < 2 ^ 200 := by
    have : (10 : Int) ^ 60 < 2 ^ 200 := by decide +kernel
    lia
  have h4 : j.natAbs.log2 < 200 := (Nat.log2_lt (by lia)).mpr h3
  lia
set_option autoImplicit true
set_option relaxedAutoImplicit true
end
end L2
namespace K30
open PySem PySem.Spec L2 Mir Kn
noncomputable abbrev sMixed : Stmt := top 5
noncomputable def Ok (x : Str) : Prop := (PyData.str x).canLay0 = true
theorem Ok.app {x y : Str} (hx : Ok x) (hy : Ok y) : Ok (x ++ y) := by
  unfold Ok at *
  simp only [PyData.canLay0] at *
  unfold PyData.strOk at *
  rw [Str.cps_append, Array.all_append, hx, hy]; rfl
noncomputable def spMixed : Sp := fun vs H Q _ => ∃ (c : Int) (k : Nat), vs = [.int c, .int (k : Int)] ∧ k ≤ 500 ∧ ∀ n : Int, 0 ≤ n → Q (.int n) H
noncomputable def tLeft : TS := fun D σ H => ∃ (c : Int) (k : Nat) (l : Int), σ = [some (.int c), some (.int (k : Int)), some (.int l), none, none] ∧ k ≤ 500 ∧ ∀ l z3, D.nx [some (.int c), some (.int (k : Int)), some (.int l), z3, none] H
noncomputable def tOwn : TS := fun D σ H => ∃ (c l : Int) (z1 z3 : Option V), σ = [some (.int c), z1, some (.int l), z3, none] ∧ (∀ n : Int, 0 ≤ n → D.rt (.int n) H) ∧ D.nx σ H
section
variable {P : Program} {w : World} {K : PySem.W.Frag} {mg : Str → Option Value} {base : Heap} {f : Addr} {fd : FuncData}
theorem scMixed : FnScope ["_law_cell", "_law_k", "_law_left", "_law_j", "_law_number"] ["_law_cell", "_law_k"] (defScope sMixed) := ⟨rfl, rfl, rfl, by decide +kernel, rfl, by decide +kernel, by decide +kernel⟩
theorem ok_mixed (C : Con K mg w) (F : Fun K "_law_mixed" "_law_mixed" sMixed f fd) : FnOk P w K mg base CX0 1 f fd ["_law_cell", "_law_k"] spMixed := by
  refine F.okQ scMixed (fun vs H Q E h => ?_) (fun cdv A outer s0 H vs Q E hr h => ?_)
  · obtain ⟨c, k, rfl, _⟩ := h; rfl
  obtain ⟨c, k, rfl, hk, q⟩ := h
  have nd := scMixed.nd
  refine ⟨_, qb_cons (qs_set (i := 2) nd rfl (Or.inl rfl) (qe_op op_fdiv (qv 0) qe_int))
    (qb_cons (qs_weak (t' := tLeft) (qs_for PassesOwn.never rfl (qi_range1 rfl C.range (qa_bop (qe_op op_add (qe_op op_fdiv (qv 1) qe_int) (qe_op op_mod (qv 1) qe_int)) qa_nil)) (qg_name (i := 3) nd rfl (Or.inl rfl)) (qb_cons (qs_if (QW.qt (qw_or (qt_cmpR op_eq (qv 2) qe_int (nomark _)) (qw_or1 (qt_cmpR op_eq (qv 2) (qe_un un_neg qe_int) (nomark _))))) (qb_one qs_break) qb_nil)
    (qb_one (qs_set (i := 2) nd rfl (Or.inl rfl) (qe_op op_fdivB (qv 2) qe_int))))) (fun D σ H hh => by
      obtain ⟨c, k, l, rfl, hk, go⟩ := hh
      refine ⟨_, rfl, _, _, rfl, rfl, (show CDiv _ 70 from ⟨by decide, by decide⟩), _, rfl, _, _, rfl, rfl, (show (0 : Int) < 70 by decide), _, _, rfl, rfl, _, rfl, ?_, ?_, ?_⟩
      · lia
      · lia
      refine for_range (lo := 0) (n := ((k : Int) / 70 + (k : Int) % 70).toNat) (fun _ σ H' => ∃ (l : Int) (z3 : Option V), H' = H ∧ σ = [some (.int c), some (.int (k : Int)), some (.int l), z3, none]) ⟨_, none, rfl, rfl⟩ ?_ ?_
      · rintro i σ H' hi ⟨l, z3, rfl, rfl⟩
        refine ⟨_, rfl, rfl, _, rfl, iteB (fun _ => go _ _) (fun _ => ?_)⟩
        refine ⟨_, rfl, _, rfl, rfl, _, rfl, iteB (fun _ => go _ _) (fun _ => ?_)⟩
        exact ⟨_, rfl, _, _, rfl, rfl, (show CDivB _ 2147483587 from ⟨by decide, by decide⟩), _, _, rfl, rfl⟩
      · rintro σ H' ⟨l, z3, rfl, rfl⟩
        exact go _ _))
    (qb_cons (qs_weak (t' := tOwn) (qs_if (QW.qt (qw_and (qt_cmpR op_eq (qe_op op_mod (qv 0) qe_int) qe_int (nomark _)) (qw_and (qt_cmpR op_ne (qv 2) qe_int (nomark _)) (qw_and1 (qt_cmpR op_ne (qv 2) (qe_un un_neg qe_int) (nomark _)))))) (qb_one (qs_ret (qe_op op_mod (qv 2) qe_int))) qb_nil) (fun D σ H hh => by
      obtain ⟨c, l, z1, z3, rfl, go, nx⟩ := hh
      refine ⟨_, rfl, _, _, rfl, rfl, (show (0 : Int) < 2 by decide), rfl, _, rfl, iteB (fun _ => ?_) (fun _ => nx)⟩
      refine ⟨_, rfl, rfl, _, rfl, iteB (fun _ => ?_) (fun _ => nx)⟩
      refine ⟨_, rfl, _, rfl, rfl, _, rfl, iteB (fun _ => ?_) (fun _ => nx)⟩
      exact ⟨_, rfl, _, _, rfl, rfl, (show (0 : Int) < 2147483587 by decide), go _ (Int.emod_nonneg _ (by decide))⟩))
    (qb_cons (qs_set (i := 4) nd rfl (Or.inl rfl) (qe_op op_mod (qe_op op_add (qe_op op_add (qe_op op_mul (qe_op op_mod (qv 0) qe_int) qe_int) (qe_op op_mul (qe_op op_mul (qv 1) (qv 1)) qe_int)) qe_int) qe_int))
    (qb_cons (qs_set (i := 4) nd rfl (Or.inl rfl) (qe_op op_mod (qe_op op_mul (qv 4) (qv 4)) qe_int))
    (qb_one (qs_ret (qe_op op_mod (qe_op op_mul (qv 4) (qe_op op_add (qv 4) qe_int)) qe_int))))))), ?_⟩
  refine ⟨_, rfl, _, _, rfl, rfl, (show CDiv _ 2 from ⟨by decide, by decide⟩), ?_⟩
  refine ⟨c, k, _, rfl, hk, fun l z3 => ?_⟩
  refine ⟨c, l, _, _, rfl, q, ?_⟩
  have b1 := Int.emod_nonneg c (show (2147483647 : Int) ≠ 0 by decide)
  have b2 := Int.emod_lt_of_pos c (show (0 : Int) < 2147483647 by decide)
  refine ⟨_, rfl, _, _, rfl, rfl, (show (0 : Int) < 2147483647 by decide), _, _, rfl, rfl, .inl ⟨by lia, by lia⟩, _, rfl, _, rfl, _, _, rfl, rfl, .inl ⟨by lia, by lia⟩, _, _, rfl, rfl, .inr ⟨by decide, by decide⟩, _, _, rfl, rfl, _, _, rfl, rfl, _, _, rfl, rfl, (show (0 : Int) < 2147483629 by decide), ?_⟩
  generalize (c % 2147483647 * 48271 + (k : Int) * (k : Int) * 69621 + 7919) = y
  have b3 := Int.emod_nonneg y (show (2147483629 : Int) ≠ 0 by decide)
  have b4 := Int.emod_lt_of_pos y (show (0 : Int) < 2147483629 by decide)
  refine ⟨_, rfl, _, rfl, _, _, rfl, rfl, .inl ⟨by lia, by lia⟩, _, _, rfl, rfl, (show (0 : Int) < 2147483587 by decide), ?_⟩
  generalize (y % 2147483629) * (y % 2147483629) = y2
  have b5 := Int.emod_nonneg y2 (show (2147483587 : Int) ≠ 0 by decide)
  have b6 := Int.emod_lt_of_pos y2 (show (0 : Int) < 2147483587 by decide)
  refine ⟨_, rfl, _, rfl, _, _, rfl, rfl, _, _, rfl, rfl, .inl ⟨by lia, by lia⟩, _, _, rfl, rfl, (show (0 : Int) < 2147483563 by decide), ?_⟩
  exact q _ (Int.emod_nonneg _ (by decide))
end
end K30
namespace L2
open PySem PySem.Spec
theorem for_strI {z : Str} {g : TG} {tb : TS} {D : Ends} {σ : St} {H : Hp} (Pv : Nat → St → Hp → Prop) (h0 : Pv 0 σ H)
    (hs : ∀ i c σ H, i < z.cps.size → z.cps.toList[i]? = some c → Pv i σ H → g (.str ⟨#[c]⟩) σ H fun σ2 H2 => tb { D with nx := Pv (i + 1), ct := Pv (i + 1), bk := D.nx } σ2 H2) (hd : ∀ σ H, Pv z.cps.size σ H → D.nx σ H) :
    ∃ W : Nat → Nat → St → Hp → Prop, (∃ m, W 0 m σ H) ∧ ∀ i m σ H, W i m σ H →
      ((Its z).stop i H ∧ D.nx σ H) ∨ ((Its z).go i H ∧ ∃ N : St → Hp → Prop, (∀ σ' H', N σ' H' → ∃ m', m' < m ∧ W (i + 1) m' σ' H') ∧ ∀ x H', (Its z).yld i H x H' → g x σ H' fun σ2 H2 => tb { D with nx := N, ct := N, bk := D.nx } σ2 H2) := by
  refine ⟨fun i m σ H => m = z.cps.size - i ∧ i ≤ z.cps.size ∧ Pv i σ H, ⟨z.cps.size, by simp, Nat.zero_le _, h0⟩, ?_⟩
  rintro i m σ H ⟨rfl, hi, p⟩
  by_cases hlt : i < z.cps.size
  · refine .inr ⟨hlt, Pv (i + 1), fun σ' H' p' => ⟨z.cps.size - (i + 1), by lia, rfl, hlt, p'⟩, fun x H' y => ?_⟩
    obtain ⟨e, c, hc, y⟩ := y
    subst e y
    exact hs i c σ _ hlt (by rw [Array.getElem?_toList]; exact hc) p
  · have e : i = z.cps.size := by lia
    subst e
    exact .inl ⟨Nat.le_refl _, hd σ H p⟩
end L2
namespace K30
open PySem PySem.Spec L2 Mir Kn
noncomputable abbrev sFree : Stmt := top 6
noncomputable abbrev sNames : Stmt := top 7
structure Nm (k : Nat) (x : Str) : Prop where
  len : x.length ≤ k
  ok : Ok x
theorem Nm.mono {k k' : Nat} {x : Str} (h : Nm k x) (hk : k ≤ k') : Nm k' x := ⟨Nat.le_trans h.len hk, h.ok⟩
theorem ok_iff {x : Str} : Ok x ↔ ∀ c ∈ x.cps.toList, c < 0x110000 := by
  unfold Ok
  simp only [PyData.canLay0]
  unfold PyData.strOk
  rw [← Array.all_toList, List.all_eq_true]
  simp only [decide_eq_true_eq]
theorem nm_one {z : Str} (h : Ok z) {c : Nat} (hc : c ∈ z.cps.toList) : Nm 1 ⟨#[c]⟩ := ⟨Nat.le_refl _, ok_iff.mpr fun d hd => by
  simp only [List.mem_cons, List.not_mem_nil, or_false] at hd
  subst hd
  exact ok_iff.mp h _ hc⟩
theorem Nm.app {j k : Nat} {x y : Str} (hx : Nm j x) (hy : Nm k y) : Nm (j + k) (x ++ y) := ⟨by
  have h1 := hx.len; have h2 := hy.len
  have : (x ++ y).length = x.length + y.length := Str.length_append x y
  lia, hx.ok.app hy.ok⟩
theorem Nm.cut {k : Nat} {x : Str} (hx : Nm k x) (lo hi : Option Int) : Nm k (cutS x lo hi) := by
  constructor
  · have := hx.len
    have e : (cutS x lo hi).length ≤ x.length := by
      show ((x.cps.toList.drop (HT.sIx x.length 0 lo)).take _).toArray.size ≤ x.cps.size
      rw [List.size_toArray, List.length_take, List.length_drop, Array.length_toList]
      lia
    lia
  · refine ok_iff.mpr fun c hc => ok_iff.mp hx.ok c ?_
    have hc' : c ∈ (x.cps.toList.drop (HT.sIx x.length 0 lo)).take (HT.sIx x.length x.length hi - HT.sIx x.length 0 lo) := hc
    exact List.mem_of_mem_drop (List.mem_of_mem_take hc')
theorem at_in {α : Type} {xs : List α} {i : Int} (h0 : 0 ≤ i) (h1 : i < xs.length) : ∃ v, atI xs i = some v ∧ v ∈ xs := by
  obtain ⟨j, rfl⟩ : ∃ j : Nat, i = (j : Int) := ⟨i.toNat, by lia⟩
  have hj : j < xs.length := by lia
  exact ⟨xs[j], atI_nat (by rw [List.getElem?_eq_getElem hj]), List.getElem_mem hj⟩
theorem le_line {n : Nat} (h : n ≤ 1000) : n ≤ sizeLine := Nat.le_trans h (by decide)
theorem lt_line {n : Nat} (h : n ≤ 1000) : n < sizeLine := Nat.lt_of_le_of_lt h (by decide)
noncomputable def spNames (K : PySem.W.Frag) : Sp := fun vs H Q _ => ∃ (c : Int) (n : Nat), vs = [.int c, .int (n : Int)] ∧ n ≤ 10 ∧ ∀ l xs H', Same H H' → H' l = some (.lst ((xs : List Str).map V.str)) → xs.length = n → (∀ x ∈ xs, Nm 40 x ∧ ¬ x ∈ Mir.noNames) → Q (.ref l) H'
noncomputable def signsT : Str := "abcdefghijklmnopqrstuvwxyz0123456789"
noncomputable def wordsT : List Str := ["nil", "any", "is", "not", "cell", "stretch", "tree", "nothing", "then", "with"]
theorem words_no : wordsT = Mir.noNames := by decide +kernel
theorem cut_last {x : Str} {pre : List Nat} {c : Nat} (h : x.cps.toList = pre ++ [c]) (d : Nat) : cutS x none (some (-1)) ++ (⟨#[d]⟩ : Str) = ⟨(pre ++ [d]).toArray⟩ := by
  have hl : x.length = pre.length + 1 := by
    have : x.cps.toList.length = pre.length + 1 := by rw [h, List.length_append]; rfl
    rw [Array.length_toList] at this
    exact this
  have h1 : (cutS x none (some (-1))).cps = pre.toArray := by
    show (List.take (HT.sIx x.length x.length (some (-1)) - HT.sIx x.length 0 none) (List.drop (HT.sIx x.length 0 none) x.cps.toList)).toArray = _
    have e1 : HT.sIx x.length x.length (some (-1)) = pre.length := by
      unfold HT.sIx
      simp only [hl]
      rw [if_pos (by decide)]
      lia
    have e2 : HT.sIx x.length 0 none = 0 := rfl
    rw [e1, e2, List.drop_zero, Nat.sub_zero, h, List.take_left']
    rfl
  have h2 : (cutS x none (some (-1)) ++ (⟨#[d]⟩ : Str)).cps = (cutS x none (some (-1))).cps ++ #[d] := Str.cps_append _ _
  have h3 : ∀ a b : Str, a.cps = b.cps → a = b := fun a b e => by cases a; cases b; cases e; rfl
  refine h3 _ _ ?_
  rw [h2, h1]
  show pre.toArray ++ #[d] = (pre ++ [d]).toArray
  simp
theorem nd_len0 {α : Type} [DecidableEq α] : ∀ {l m : List α}, l.Nodup → (∀ x ∈ l, x ∈ m) → l.length ≤ m.length
  | [], _, _, _ => Nat.zero_le _
  | x :: l, m, hn, hm => by
    have hx := hm x (List.mem_cons_self ..)
    obtain ⟨h1, h2⟩ := List.nodup_cons.mp hn
    have h3 := nd_len0 (l := l) (m := m.erase x) h2 fun y hy => (List.mem_erase_of_ne (fun z => h1 (by rw [← z]; exact hy))).mpr (hm y (List.mem_cons_of_mem _ hy))
    rw [List.length_erase_of_mem hx] at h3
    have := List.length_pos_of_mem hx
    rw [List.length_cons]
    lia
theorem free26 {pre : List Nat} {ns : List Str} {z : Str} (hz : z.cps.toList.Nodup) (hl : z.cps.size = 26) (hn : ns.length < 26) : ¬ ∀ k c, k < 26 → z.cps.toList[k]? = some c → (⟨(pre ++ [c]).toArray⟩ : Str) ∈ ns := by
  intro h
  have h1 : (z.cps.toList.map fun c => (⟨(pre ++ [c]).toArray⟩ : Str)).Nodup := List.pairwise_map.mpr (List.Pairwise.imp (fun {a b} hab e => hab (by
    have e2 := congrArg (fun s : Str => s.cps.toList) e
    simpa using e2)) hz)
  have h2 := nd_len0 (m := ns) h1 fun x hx => by
    obtain ⟨c, hc, rfl⟩ := List.mem_map.mp hx
    obtain ⟨k, hk, e⟩ := List.getElem_of_mem hc
    rw [Array.length_toList, hl] at hk
    exact h k c hk (List.getElem?_eq_some_iff.mpr ⟨by rw [Array.length_toList]; lia, e⟩)
  rw [List.length_map, Array.length_toList, hl] at h2
  lia
theorem ok_signs : Ok signsT := show (PyData.str signsT).canLay0 = true by decide +kernel
theorem nm_words : ∀ x ∈ wordsT, Nm 40 x := fun x hx => by
  have h1 : wordsT.all (fun x => decide (x.length ≤ 40) && (PyData.str x).canLay0) = true := by decide +kernel
  have h2 := List.all_eq_true.mp h1 x hx
  rw [Bool.and_eq_true] at h2
  exact ⟨of_decide_eq_true h2.1, h2.2⟩
section
variable {P : Program} {w : World} {K : PySem.W.Frag} {mg : Str → Option Value} {base : Heap} {f : Addr} {fd : FuncData}
theorem scFree : FnScope ["_law_cell", "_law_many", "_law_signs", "_law_names_here", "_law_k", "_law_name", "_law_left", "_law_j", "_law_sign"] ["_law_cell", "_law_many"] (defScope sFree) := ⟨rfl, rfl, rfl, by decide +kernel, rfl, by decide +kernel, by decide +kernel⟩
theorem ok_free (C : Con K mg w) (F : Fun K "_law_free_names" "_law_free_names" sFree f fd) : FnOk P w K mg base CX0 1 f fd ["_law_cell", "_law_many"] (spNames K) := by
  refine F.okQ scFree (fun vs H Q E h => ?_) (fun cdv A outer s0 H vs Q E hr h => ?_)
  · obtain ⟨c, k, rfl, _⟩ := h; rfl
  obtain ⟨c, n, rfl, hn, q⟩ := h
  have nd := scFree.nd
  refine ⟨_, qb_cons (qs_set (i := 2) nd rfl (Or.inl rfl) qe_str)
    (qb_cons (qs_set (i := 3) nd rfl (Or.inl rfl) (qe_lst (qa_str (qa_str (qa_str (qa_str (qa_str (qa_str (qa_str (qa_str (qa_str (qa_str qa_nil))))))))))))
    (qb_cons (qs_for PassesOwn.never rfl (qi_range1 rfl C.range (qa_nm (qv 1) qa_nil)) (qg_name (i := 4) nd rfl (Or.inl rfl)) (qb_cons (qs_set (i := 5) nd rfl (Or.inl rfl) (qe_ix ix_str (qv 2) (qe_op op_mod (qe_op op_fdiv (qv 0) qe_int) qe_int) (fun _ _ => rfl)))
    (qb_cons (qs_set (i := 6) nd rfl (Or.inl rfl) (qe_op op_fdiv (qv 0) qe_int))
    (qb_cons (qs_for PassesOwn.never rfl (qi_range1 rfl C.range (qa_bop (qe_op op_mod (qv 0) qe_int) qa_nil)) (qg_name (i := 7) nd rfl (Or.inl rfl)) (qb_cons (qs_set (i := 5) nd rfl (Or.inl rfl) (qe_op op_add_str (qv 5) (qe_ix ix_str (qv 2) (qe_op op_mod (qv 6) qe_int) (fun _ _ => rfl))))
    (qb_one (qs_set (i := 6) nd rfl (Or.inl rfl) (qe_op op_fdiv (qv 6) qe_int)))))
    (qb_cons (qs_for PassesOwn.never rfl (qi_str (qe_slice sl_str (qv 2) qo_none (qo_some qe_int))) (qg_name (i := 8) nd rfl (Or.inl rfl)) (qb_one (qs_if (qt_cmpR op_in_seq (qv 5) (qv 3) (by with_unfolding_all rfl)) (qb_one (qs_set (i := 5) nd rfl (Or.inl rfl) (qe_op op_add_str (qe_slice sl_str (qv 5) qo_none (qo_some (qe_un un_neg qe_int))) (qv 8)))) qb_nil)))
    (qb_cons (qs_expr (qe_bmK (K := K) rfl PySem.F.plainAttrs_list PySem.F.slot_list_append PySem.F.type_list_append mt_append (qv 3) (qa_nm (qv 5) qa_nil)))
    (qb_one (qs_set (i := 0) nd rfl (Or.inl rfl) (qe_op op_fdivB (qv 0) (qe_op op_mul qe_int (qe_op op_pow qe_int qe_int)))))))))))
    (qb_one (qs_ret (qe_slice sl_list (qv 3) (qo_some qe_int) qo_none))))), ?_⟩
  refine ⟨(by decide), fun l1 hl1 => ?_⟩
  have e0 := same_new hl1 (.lst (wordsT.map V.str))
  have hL0 : (upd H l1 (.lst (wordsT.map V.str))) l1 = some (.lst (wordsT.map V.str)) := upd_same
  replace e0 : Same H (upd H l1 (.lst (wordsT.map V.str))) := e0
  show tSeq _ _ _ _ (upd H l1 (.lst (wordsT.map V.str)))
  generalize upd H l1 (.lst (wordsT.map V.str)) = H1 at e0 hL0 ⊢
  refine ⟨_, rfl, _, rfl, by lia, (by lia), ?_⟩
  refine for_range (lo := 0) (n := (n : Int).toNat) (fun i σ H2 => ∃ (c : Int) (ns : List Str) (z4 z5 z6 z7 z8 : Option V), σ = [some (.int c), some (.int (n : Int)), some (.str signsT), some (.ref l1), z4, z5, z6, z7, z8] ∧ Same H H2 ∧ H2 l1 = some (.lst (ns.map V.str)) ∧ ns.length = 10 + i ∧ (∀ x ∈ ns, Nm 40 x) ∧ ns.take 10 = wordsT ∧ ∀ x ∈ ns.drop 10, ¬ x ∈ wordsT) ⟨c, wordsT, none, none, none, none, none, rfl, e0, hL0, rfl, nm_words, rfl, fun x hx => by cases hx⟩ ?_ ?_
  · rintro i σ H2 hi ⟨c, ns, z4, z5, z6, z7, z8, rfl, e2, hL2, hl2, hn2, hw2, hx2⟩
    have hi10 : i < 10 := by lia
    have hsl : signsT.length ≤ sizeLine := by decide +kernel
    have hs36 : signsT.cps.toList.length = 36 := by decide +kernel
    have m26 := Int.emod_nonneg (c / 8) (show (26 : Int) ≠ 0 by decide)
    have m26' := Int.emod_lt_of_pos (c / 8) (show (0 : Int) < 26 by decide)
    obtain ⟨c1, hc1, hm1⟩ := at_in (xs := signsT.cps.toList) (i := c / 8 % 26) m26 (by rw [hs36]; lia)
    refine ⟨_, rfl, _, rfl, _, _, rfl, rfl, (show CDiv _ 8 from ⟨by decide, by decide⟩), _, _, rfl, rfl, (show (0 : Int) < 26 by decide), signsT, _, c1, rfl, rfl, hsl, hc1, ?_⟩
    refine ⟨_, rfl, _, _, rfl, rfl, (show CDiv _ 208 from ⟨by decide, by decide⟩), ?_⟩
    have m8 := Int.emod_nonneg c (show (8 : Int) ≠ 0 by decide)
    have m8' := Int.emod_lt_of_pos c (show (0 : Int) < 8 by decide)
    refine ⟨_, rfl, _, _, rfl, rfl, (show (0 : Int) < 8 by decide), _, rfl, by lia, by lia, ?_⟩
    refine for_range (lo := 0) (n := (c % 8).toNat) (fun j σ H3 => H3 = H2 ∧ ∃ (nm : Str) (l : Int) (z7 : Option V), σ = [some (.int c), some (.int (n : Int)), some (.str signsT), some (.ref l1), some (.int (0 + (i : Int))), some (.str nm), some (.int l), z7, z8] ∧ Nm (1 + j) nm ∧ ∃ pre c, nm.cps.toList = pre ++ [c]) ⟨rfl, _, _, _, rfl, nm_one ok_signs hm1, [], c1, rfl⟩ ?_ ?_
    · rintro j σ H3 hj ⟨rfl, nm, l, z7, rfl, hnm, hpr⟩
      obtain ⟨c2, hc2, hm2⟩ := at_mod (xs := signsT.cps.toList) (m := 36) (i := l) (by rw [hs36]; rfl) (by decide)
      have hlen := hnm.len
      refine ⟨_, rfl, _, rfl, _, rfl, _, _, rfl, rfl, (show (0 : Int) < 36 by decide), signsT, _, c2, rfl, rfl, hsl, hc2, nm, _, rfl, rfl, le_line (by show nm.length + 1 ≤ 1000; lia), ?_⟩
      exact ⟨_, rfl, _, _, rfl, rfl, (show CDiv _ 36 from ⟨by decide, by decide⟩), rfl, _, _, _, rfl, hnm.app (nm_one ok_signs hm2), nm.cps.toList, c2, by rw [Str.cps_append, Array.toList_append]⟩
    rintro σ H3 ⟨rfl, nm, l, z7, rfl, hnm, pre, c0, hpre⟩
    have hnm8 : Nm 8 nm := hnm.mono (by lia)
    clear hnm
    have hcm : ∀ d ∈ (cutS signsT none (some 26)).cps.toList, d ∈ signsT.cps.toList := fun d hd => by
      have hd' : d ∈ (signsT.cps.toList.drop (HT.sIx signsT.length 0 none)).take (HT.sIx signsT.length signsT.length (some 26) - HT.sIx signsT.length 0 none) := hd
      exact List.mem_of_mem_drop (List.mem_of_mem_take hd')
    have hcz : (cutS signsT none (some 26)).cps.size = 26 := by decide +kernel
    refine ⟨_, rfl, _, rfl, signsT, rfl, hsl, _, rfl, ?_⟩
    refine for_strI (fun j σ H4 => H4 = H3 ∧ ∃ (nm : Str) (z8 : Option V), σ = [some (.int c), some (.int (n : Int)), some (.str signsT), some (.ref l1), some (.int (0 + (i : Int))), some (.str nm), some (.int l), z7, z8] ∧ Nm (8 + j) nm ∧ (∃ c, nm.cps.toList = pre ++ [c]) ∧ (nm ∈ ns → ∀ k c, k < j → (cutS signsT none (some 26)).cps.toList[k]? = some c → (⟨(pre ++ [c]).toArray⟩ : Str) ∈ ns)) ⟨rfl, _, _, rfl, hnm8, ⟨c0, hpre⟩, fun _ k c hk => absurd hk (Nat.not_lt_zero k)⟩ ?_ ?_
    · rintro j d σ H4 hj hdj ⟨rfl, nm, z8, rfl, hnm, ⟨c9, hc9⟩, hall⟩
      have hd := List.mem_of_getElem? hdj
      have hlen := hnm.len
      rw [hcz] at hj
      refine ⟨_, rfl, _, rfl, l1, _, rfl, .inl (SqL.of hL2), rfl, (by rw [List.all_map]; exact List.all_eq_true.mpr fun _ _ => rfl), _, rfl, iteB (fun cin => ?_) (fun cin => ⟨rfl, _, _, rfl, hnm.mono (by lia), ⟨c9, hc9⟩, fun z => by
        have z' : inV (.str nm) (ns.map V.str) = true := (inV_strs nm ns).trans (decide_eq_true z)
        exact absurd (z'.symm.trans cin) (by decide)⟩)⟩
      have hin : nm ∈ ns := of_decide_eq_true ((inV_strs nm ns).symm.trans cin)
      have hc := hnm.cut none (some (-1))
      have hcl := hc.len
      exact ⟨_, rfl, _, rfl, _, rfl, nm, rfl, le_line (by lia), _, rfl, _, _, rfl, rfl, le_line (by show _ + 1 ≤ 1000; lia), rfl, _, _, rfl, hc.app (nm_one ok_signs (hcm d hd)), ⟨d, by rw [cut_last hc9 d]⟩, fun z k c hk hkc => by
        by_cases e : k = j
        · subst e
          rw [hdj] at hkc
          cases hkc
          rw [cut_last hc9 d] at z
          exact z
        · exact hall hin k c (by lia) hkc⟩
    rintro σ H4 ⟨rfl, nm, z8, rfl, hnm, _, hall⟩
    rw [hcz] at hnm hall
    have hfree : ¬ nm ∈ ns := fun z => free26 (pre := pre) (ns := ns) (z := cutS signsT none (some 26)) (by decide +kernel) hcz (by lia) (hall z)
    refine ⟨_, rfl, (.inl ⟨rfl, _, SqL.of hL2⟩), _, rfl, l1, ns.map V.str, _, rfl, rfl, hL2, lt_line (by rw [List.length_map]; lia), ?_⟩
    refine ⟨_, rfl, _, _, rfl, rfl, (show CPow 36 7 from ⟨by decide, by decide, by decide⟩), _, _, rfl, rfl, .inl ⟨by decide, by decide⟩, _, _, rfl, rfl, (show CDivB _ _ from ⟨by decide +kernel, by decide +kernel⟩), ?_⟩
    refine ⟨_, ns ++ [nm], _, _, _, _, _, rfl, ?_, ?_, ?_, ?_, ?_, ?_⟩
    · exact fun b o hb => by rw [upd_ne (ne_of_none hb hl1)]; exact e2 b o hb
    · rw [upd_same, List.map_append]; rfl
    · rw [List.length_append, List.length_singleton]; lia
    · intro x hx
      rcases List.mem_append.mp hx with hx | hx
      · exact hn2 x hx
      · rw [List.mem_singleton.mp hx]; exact hnm.mono (by lia)
    · rw [List.take_append_of_le_length (by lia)]; exact hw2
    · intro x hx
      rw [List.drop_append_of_le_length (by lia)] at hx
      rcases List.mem_append.mp hx with hx | hx
      · exact hx2 x hx
      · rw [List.mem_singleton.mp hx, ← hw2]; exact fun z => hfree (List.mem_of_mem_take z)
  rintro σ H2 ⟨c, ns, z4, z5, z6, z7, z8, rfl, e2, hL2, hl2, hn2, hw2, hx2⟩
  refine ⟨_, rfl, _, rfl, l1, _, rfl, SqL.of hL2, fun p hp => ?_⟩
  have hcv : cutV (ns.map V.str) (some 10) none = (ns.drop 10).map V.str := by
    unfold cutV
    rw [List.length_map, show HT.sIx ns.length 0 (some 10) = 10 by show min 10 ns.length = 10; lia, show HT.sIx ns.length ns.length none = ns.length from rfl, ← List.map_drop, List.take_of_length_le (by rw [List.length_map, List.length_drop]; lia)]
  rw [hcv]
  refine q p (ns.drop 10) _ (e2.trans (same_new hp _)) upd_same (by rw [List.length_drop]; lia) fun x hx => ⟨hn2 x (List.mem_of_mem_drop hx), words_no ▸ hx2 x hx⟩
theorem call_int_bl {X : Cx} : CallR X (.type "int") (fun xs H Q => ∃ b : Bool, xs = [.bl b] ∧ Q (.int (if b = true then 1 else 0)) H) := by
  intro pins s σ H xs us Q I r h
  obtain ⟨b, rfl, q⟩ := h
  obtain ⟨u, rfl, ru⟩ := r.one
  cases ru
  exact PySem.call_int_bool ⟨.int _, H, I.tok _, ⟨_, rfl⟩, q⟩
theorem scNames : FnScope ["_law_cell", "_law_many", "_law_letters", "_law_at", "_law_names_here", "_law_k", "_law_name", "_law_j", "_law_step"] ["_law_cell", "_law_many"] (defScope sNames) := ⟨rfl, rfl, rfl, by decide +kernel, rfl, by decide +kernel, by decide +kernel⟩
noncomputable def lettT : Str := "abcdefghijkmnopqruvwxz"
noncomputable def figT : Str := "0123456789"
theorem ok_lett : Ok lettT := show (PyData.str lettT).canLay0 = true by decide +kernel
noncomputable def evenS (x : Str) : Prop := ∀ c ∈ x.cps.toList, c ∈ lettT.cps.toList ++ figT.cps.toList
theorem even_no {x : Str} (h : evenS x) : ¬ x ∈ Mir.noNames := fun hx => by
  have h1 : Mir.noNames.all (fun y => y.cps.toList.any fun c => !decide (c ∈ lettT.cps.toList ++ figT.cps.toList)) = true := by decide +kernel
  obtain ⟨c, hc, hn⟩ := List.any_eq_true.mp (List.all_eq_true.mp h1 x hx)
  rw [decide_eq_true (h c hc)] at hn
  cases hn
theorem evenS.app {x : Str} (h : evenS x) {c : Nat} (hc : c ∈ lettT.cps.toList ++ figT.cps.toList) : evenS (x ++ ⟨#[c]⟩) := fun d hd => by
  rw [Str.cps_append, Array.toList_append] at hd
  rcases List.mem_append.mp hd with z | z
  · exact h d z
  · rw [List.mem_singleton.mp z]; exact hc
theorem ok_fig : Ok figT := show (PyData.str figT).canLay0 = true by decide +kernel
inductive EvI (H2 : Hp) (c n at0 : Int) (l1 : Addr) (i j : Nat) (σ : St) (H3 : Hp) : Prop
  | mk (h0 : H3 = H2) (nm : Str) (z8 z9 : Option V) (h1 : σ = [some (.int c), some (.int n), some (.str lettT), some (.int at0), some (.ref l1), some (.int (0 + (i : Int))), some (.str nm), z8, z9]) (h2 : Nm j nm) (h3 : evenS nm) : EvI H2 c n at0 l1 i j σ H3
theorem ok_names {gF : Addr} {dF : FuncData} (C : Con K mg w) (F : Fun K "_law_names" "_law_names" sNames f fd) (GF : FnOk P w K mg base CX0 1 gF dF ["_law_cell", "_law_many"] (spNames K)) (cF : Cal K mg "_law_free_names" gF dF ["_law_cell", "_law_many"]) : FnOk P w K mg base CX0 2 f fd ["_law_cell", "_law_many"] (spNames K) := by
  refine F.okQ scNames (fun vs H Q E h => ?_) (fun cdv A outer s0 H vs Q E hr h => ?_)
  · obtain ⟨c, k, rfl, _⟩ := h; rfl
  obtain ⟨c, n, rfl, hn, q⟩ := h
  have nd := scNames.nd
  refine ⟨_, qb_cons (qs_if (qt_cmpR op_eq (qe_op op_mod (qv 0) qe_int) qe_int (nomark _)) (qb_one (qs_ret (qe_call GF hr rfl cF.name cF.keep cF.bind .nil pass0 (qa_bop (qe_op op_fdiv (qv 0) qe_int) (qa_nm (qv 1) qa_nil))))) qb_nil)
    (qb_cons (qs_set (i := 0) nd rfl (Or.inl rfl) (qe_op op_fdiv (qv 0) qe_int))
    (qb_cons (qs_set (i := 2) nd rfl (Or.inl rfl) qe_str)
    (qb_cons (qs_set (i := 3) nd rfl (Or.inl rfl) (qe_op op_mod (qe_op op_fdiv (qv 0) qe_int) (qe_op op_add qe_int (qe_op op_mod (qv 0) qe_int))))
    (qb_cons (qs_set (i := 4) nd rfl (Or.inl rfl) (qe_lst qa_nil))
    (qb_cons (qs_for PassesOwn.never rfl (qi_range1 rfl C.range (qa_nm (qv 1) qa_nil)) (qg_name (i := 5) nd rfl (Or.inl rfl)) (qb_cons (qs_set (i := 6) nd rfl (Or.inl rfl) qe_str)
    (qb_cons (qs_for PassesOwn.never rfl (qi_range1 rfl C.range (qa_bop (qe_op op_add qe_int (qe_op op_mod (qv 0) qe_int)) qa_nil)) (qg_name (i := 7) nd rfl (Or.inl rfl)) (qb_cons (qs_set (i := 8) nd rfl (Or.inl rfl) (qe_op op_add (qe_op op_mul (qv 7) (qe_op op_mod (qe_op op_fdiv (qv 0) qe_int) qe_int)) (qe_op op_mul (qv 5) (qe_callTy call_int_bl rfl C.int PyProof.Rows.boot_int (qa_cons (qe_cmpR op_eq (qv 7) (qv 3) (nomark _)) qa_nil)))))
    (qb_one (qs_if (QW.qt (qw_and (qt_cmpR op_gt (qv 7) qe_int (nomark _)) (qw_and1 (qt_cmpR op_eq (qe_op op_mod (qe_op op_add (qe_op op_fdiv (qv 0) qe_int) (qv 7)) qe_int) qe_int (nomark _))))) (qb_one (qs_set (i := 6) nd rfl (Or.inl rfl) (qe_op op_add_str (qv 6) (qe_ix ix_str qe_str (qe_op op_mod (qe_op op_add (qe_op op_fdiv (qv 0) qe_int) (qv 8)) qe_int) (fun _ _ => rfl))))) (qb_one (qs_set (i := 6) nd rfl (Or.inl rfl) (qe_op op_add_str (qv 6) (qe_ix ix_str (qv 2) (qe_op op_mod (qe_op op_add (qe_op op_fdiv (qv 0) qe_int) (qv 8)) qe_int) (fun _ _ => rfl)))))))))
    (qb_one (qs_expr (qe_bmK (K := K) rfl PySem.F.plainAttrs_list PySem.F.slot_list_append PySem.F.type_list_append mt_append (qv 4) (qa_nm (qv 6) qa_nil)))))))
    (qb_one (qs_ret (qv 4)))))))), ?_⟩
  refine ⟨_, rfl, _, _, rfl, rfl, (show (0 : Int) < 2 by decide), rfl, _, rfl, iteB (fun _ => ?_) (fun _ => ?_)⟩
  · exact ⟨_, rfl, _, _, rfl, rfl, (show CDiv _ 2 from ⟨by decide, by decide⟩), _, rfl, c / 2, n, rfl, hn, q⟩
  refine ⟨_, rfl, _, _, rfl, rfl, (show CDiv _ 2 from ⟨by decide, by decide⟩), ?_⟩
  have m8 := Int.emod_nonneg (c / 2) (show (8 : Int) ≠ 0 by decide)
  refine ⟨_, rfl, _, _, rfl, rfl, (show CDiv _ 8 from ⟨by decide, by decide⟩), _, rfl, _, _, rfl, rfl, (show (0 : Int) < 8 by decide), _, _, rfl, rfl, _, _, rfl, rfl, (show (0 : Int) < 1 + c / 2 % 8 by lia), ?_⟩
  refine ⟨(by decide), fun l1 hl1 => ?_⟩
  refine ⟨_, rfl, _, rfl, by lia, (by lia), ?_⟩
  refine for_range (lo := 0) (n := (n : Int).toNat) (fun i σ H2 => ∃ (c at0 : Int) (ns : List Str) (z6 z7 z8 z9 : Option V), σ = [some (.int c), some (.int (n : Int)), some (.str lettT), some (.int at0), some (.ref l1), z6, z7, z8, z9] ∧ Same H H2 ∧ H2 l1 = some (.lst (ns.map V.str)) ∧ ns.length = i ∧ ∀ x ∈ ns, Nm 40 x ∧ ¬ x ∈ Mir.noNames) ⟨_, _, [], none, none, none, none, rfl, same_new hl1 _, upd_same, rfl, fun x hx => by cases hx⟩ ?_ ?_
  · rintro i σ H2 hi ⟨c, at0, ns, z6, z7, z8, z9, rfl, e2, hL2, hl2, hn2⟩
    have hi10 : i < 10 := by lia
    have m8 := Int.emod_nonneg c (show (8 : Int) ≠ 0 by decide)
    have m8' := Int.emod_lt_of_pos c (show (0 : Int) < 8 by decide)
    have hsl : lettT.length ≤ sizeLine := by decide +kernel
    have hs22 : lettT.cps.toList.length = 22 := by decide +kernel
    have hfl : figT.length ≤ sizeLine := by decide +kernel
    have hf10 : figT.cps.toList.length = 10 := by decide +kernel
    refine ⟨_, rfl, _, _, rfl, rfl, (show (0 : Int) < 8 by decide), _, _, rfl, rfl, _, rfl, by lia, by lia, ?_⟩
    refine for_range (lo := 0) (n := (1 + c % 8).toNat) (fun j σ H3 => EvI H2 c (n : Int) at0 l1 i j σ H3) ⟨rfl, _, _, _, rfl, ⟨Nat.le_refl _, show (PyData.str ("" : Str)).canLay0 = true by decide +kernel⟩, (fun c hc => by cases hc)⟩ ?_ ?_
    · rintro j σ H3 hj ⟨rfl, nm, z8, z9, rfl, hnm, hev⟩
      have hlen := hnm.len
      have hj8 : j < 8 := by lia
      refine ⟨_, rfl, _, rfl, _, _, rfl, rfl, (show CDiv _ 64 from ⟨by decide, by decide⟩), _, _, rfl, rfl, (show (0 : Int) < 5 by decide), _, _, rfl, rfl, .inl ⟨by lia, by lia⟩, ?_⟩
      refine ⟨_, rfl, _, rfl, _, rfl, rfl, _, rfl, _, _, rfl, rfl, .inl ⟨by lia, by lia⟩, _, _, rfl, rfl, ?_⟩
      generalize (if decide (V.int (0 + (j : Int)) = V.int at0) = true then (1 : Int) else 0) = d
      obtain ⟨c1, hc1, hm1⟩ := at_mod (xs := lettT.cps.toList) (m := 22) (i := c / 320 + ((0 + (j : Int)) * (c / 64 % 5) + (0 + (i : Int)) * d)) (by rw [hs22]; rfl) (by decide)
      obtain ⟨c2, hc2, hm2⟩ := at_mod (xs := figT.cps.toList) (m := 10) (i := c / 320 + ((0 + (j : Int)) * (c / 64 % 5) + (0 + (i : Int)) * d)) (by rw [hf10]; rfl) (by decide)
      have go1 : EvI H3 c (n : Int) at0 l1 i (j + 1) [some (.int c), some (.int (n : Int)), some (.str lettT), some (.int at0), some (.ref l1), some (.int (0 + (i : Int))), some (.str (nm ++ ⟨#[c1]⟩)), some (.int (0 + (j : Int))), some (.int ((0 + (j : Int)) * (c / 64 % 5) + (0 + (i : Int)) * d))] H3 := ⟨rfl, _, _, _, rfl, hnm.app (nm_one ok_lett hm1), hev.app (List.mem_append.mpr (.inl hm1))⟩
      have go2 : EvI H3 c (n : Int) at0 l1 i (j + 1) [some (.int c), some (.int (n : Int)), some (.str lettT), some (.int at0), some (.ref l1), some (.int (0 + (i : Int))), some (.str (nm ++ ⟨#[c2]⟩)), some (.int (0 + (j : Int))), some (.int ((0 + (j : Int)) * (c / 64 % 5) + (0 + (i : Int)) * d))] H3 := ⟨rfl, _, _, _, rfl, hnm.app (nm_one ok_fig hm2), hev.app (List.mem_append.mpr (.inr hm2))⟩
      refine ⟨_, rfl, _, _, rfl, rfl, _, rfl, iteB (fun _ => ?_) (fun _ => ?_)⟩
      · refine ⟨_, rfl, _, _, rfl, rfl, (show CDiv _ 7040 from ⟨by decide, by decide⟩), _, rfl, _, _, rfl, rfl, _, _, rfl, rfl, (show (0 : Int) < 3 by decide), rfl, _, rfl, iteB (fun _ => ?_) (fun _ => ?_)⟩
        · exact ⟨_, rfl, _, rfl, _, _, rfl, rfl, (show CDiv _ 320 from ⟨by decide, by decide⟩), _, rfl, _, _, rfl, rfl, _, _, rfl, rfl, (show (0 : Int) < 10 by decide), figT, _, c2, rfl, rfl, hfl, hc2, nm, _, rfl, rfl, le_line (by show nm.length + 1 ≤ 1000; lia), go2⟩
        · exact ⟨_, rfl, _, rfl, _, rfl, _, _, rfl, rfl, (show CDiv _ 320 from ⟨by decide, by decide⟩), _, rfl, _, _, rfl, rfl, _, _, rfl, rfl, (show (0 : Int) < 22 by decide), lettT, _, c1, rfl, rfl, hsl, hc1, nm, _, rfl, rfl, le_line (by show nm.length + 1 ≤ 1000; lia), go1⟩
      · exact ⟨_, rfl, _, rfl, _, rfl, _, _, rfl, rfl, (show CDiv _ 320 from ⟨by decide, by decide⟩), _, rfl, _, _, rfl, rfl, _, _, rfl, rfl, (show (0 : Int) < 22 by decide), lettT, _, c1, rfl, rfl, hsl, hc1, nm, _, rfl, rfl, le_line (by show nm.length + 1 ≤ 1000; lia), go1⟩
    rintro σ H3 ⟨rfl, nm, z8, z9, rfl, hnm, hev⟩
    refine ⟨_, rfl, (.inl ⟨rfl, _, SqL.of hL2⟩), _, rfl, l1, ns.map V.str, _, rfl, rfl, hL2, lt_line (by rw [List.length_map]; lia), ?_⟩
    refine ⟨c, at0, ns ++ [nm], _, _, _, _, rfl, ?_, ?_, ?_, ?_⟩
    · exact fun b o hb => by rw [upd_ne (ne_of_none hb hl1)]; exact e2 b o hb
    · rw [upd_same, List.map_append]; rfl
    · rw [List.length_append, List.length_singleton]; lia
    · intro x hx
      rcases List.mem_append.mp hx with hx | hx
      · exact hn2 x hx
      · rw [List.mem_singleton.mp hx]; exact ⟨hnm.mono (by lia), even_no hev⟩
  rintro σ H2 ⟨c, at0, ns, z6, z7, z8, z9, rfl, e2, hL2, hl2, hn2⟩
  exact ⟨_, rfl, q l1 ns _ e2 hL2 (by lia) hn2⟩
end
end K30
namespace L2
open PySem PySem.Spec PyProof.Rows
noncomputable def CompGo2 (K : PySem.W.Frag) (J : It) (H1 : Hp) (σ : St) (ix : List Nat) (tc : TT) (te : TE) (Q : VK) : Prop := ∀ D, H1 D = none →
  ∃ W : Nat → Nat → Hp → Prop, (∃ m, W 0 m (upd H1 D (.lst []))) ∧ ∀ i m H, W i m H →
    (J.stop i H ∧ Q (.ref D) H) ∨ (J.go i H ∧ ∀ x H', J.yld i H x H' → ∃ p a b, x = .ref p ∧ SqT K H' p [a, b] ∧ tc (some a :: some b :: frees σ ix) H' fun c H2 =>
      if c = true then te (some a :: some b :: frees σ ix) H2 fun y H3 => ∃ ys, H3 D = some (.lst ys) ∧ ys.length < sizeLine ∧ ∃ m', m' < m ∧ W (i + 1) m' (upd H3 D (.lst (ys ++ [y])))
      else ∃ m', m' < m ∧ W (i + 1) m' H2)
noncomputable def tComp2 (K : PySem.W.Frag) (ix : List Nat) (wi : TI) (tc : TT) (te : TE) : TE := fun σ H Q => wi σ H fun J H1 => CompGo2 K J H1 σ ix tc te Q
noncomputable def Ite (l : Addr) : It where
  go := fun i H => ∃ xs x, H l = some (.lst xs) ∧ xs[i]? = some x
  yld := fun i H v H' => ∃ xs x p, H l = some (.lst xs) ∧ xs[i]? = some x ∧ H p = none ∧ H' = upd H p (.tup [.int (i : Int), x]) ∧ v = .ref p
  stop := fun i H => ∃ xs, H l = some (.lst xs) ∧ xs.length ≤ i
noncomputable def enumTn (n l : Addr) (i : Nat) (h : Heap) : Prop := (∃ old, IsEnum h (n + 1) n (i : Int) old) ∧ h.IsListIter n l i
theorem turn_enum {P : Program} {w : World} {K : PySem.W.Frag} {elts : List Expr} {x1} {pos : Pos} (n l : Addr) : Turn P w K (.Tuple elts x1 pos) (Ite l) [n + 1, n] (n + 1) (enumTn n l) where
  mem := by simp
  obj := fun i h st b hb => by
    obtain ⟨⟨old, he⟩, ⟨o1, e1, c1, d1⟩⟩ := st
    simp only [List.mem_cons, List.not_mem_nil, or_false] at hb
    rcases hb with rfl | rfl
    · exact ⟨_, he, fun v z => by cases z⟩
    · exact ⟨o1, e1, fun v z => by rw [d1] at z; cases z⟩
  keep := fun i h h' st k => by
    obtain ⟨⟨old, he⟩, h1⟩ := st
    exact ⟨⟨old, k _ (by simp) _ he⟩, h1.at fun o e => k _ (by simp) o e⟩
  item := by
    intro X hP hw hK hc i pins s σ H E I hf st hg
    subst hP hw hK
    obtain ⟨⟨old, he⟩, hit⟩ := st
    obtain ⟨xs, x, q1, hx⟩ := hg
    obtain ⟨_, its1, n1, r1, _, e1⟩ := I.lstM q1
    have L1 : s.heap.IsList l its1.toArray := ⟨_, e1, rfl, _, rfl⟩
    obtain ⟨u, hu, ru⟩ := r1.get hx
    have hne : n + 1 ≠ n := Nat.succ_ne_self n
    refine wpAny_pyNext_enum_item he hit L1 (x := u) (by simpa using hu) hne fun h' a1 a2 a3 a4 hk => ?_
    have I1 : Inv X pins σ H { s with heap := h', toks := s.toks + 1 } := I.turnedL (ch := [n + 1, n]) (t' := s.toks + 1) (fun b o hb e => by
      simp only [List.mem_cons, List.not_mem_nil, or_false, not_or] at hb
      exact hk b o hb.1 hb.2 e) hf
    refine ⟨.ref s.heap.objs.size, rfl, wpAny_letOwnedTupleGo_enum a1 fun h2' he' hs' => ?_⟩
    have I2 : Inv X pins σ H { s with heap := h2', toks := s.toks + 1 } := I1.turnedL (s := { s with heap := h', toks := s.toks + 1 }) (ch := [n + 1, n]) (t' := s.toks + 1) (fun b o hb e => by
      simp only [List.mem_cons, List.not_mem_nil, or_false, not_or] at hb
      exact hs'.extBut _ _ hb.1 e) hf
    have fresh : H s.heap.objs.size = none := I.hok.fresh (Nat.le_refl _)
    have pz : s.heap.objs.size ≠ n + 1 := Nat.ne_of_gt (Heap.lt_size he)
    have I3 : Inv X pins σ (upd H s.heap.objs.size (.tup [.int (i : Int), x])) { s with heap := h2', toks := s.toks + 1 } := by
      refine I2.track fresh ?_ (Nat.ne_of_gt I.lt) (fun z c' e e2' => ?_) (fun p hp e2' => ?_) ?_
      · cases q : X.s₀.heap.get? s.heap.objs.size with
        | none => rfl
        | some o => exact absurd (Nat.lt_of_lt_of_le (Heap.lt_size q) I.sz) (Nat.lt_irrefl _)
      · obtain ⟨v', q⟩ := I.cell z c' e
        exact absurd (e2' ▸ q.lt) (Nat.lt_irrefl _)
      · exact absurd (e2' ▸ Heap.lt_size (I.pin p hp).1) (Nat.lt_irrefl _)
      · exact ⟨by show 2 ≤ sizeLine; decide, [.int (i : Int) s.toks, u], .cons ⟨_, rfl⟩ (.cons ru .nil), ⟨_, hs'.extBut _ _ pz a3, rfl, _, rfl⟩⟩
    have hpn : ∀ b ∈ [n + 1, n], b ≠ s.heap.objs.size := fun b hb e => by
      have q3 : ∃ o, s.heap.get? b = some o := by
        simp only [List.mem_cons, List.not_mem_nil, or_false] at hb
        obtain ⟨o1, g1, _⟩ := hit
        rcases hb with rfl | rfl
        · exact ⟨_, he⟩
        · exact ⟨_, g1⟩
      obtain ⟨o, q3⟩ := q3
      exact absurd (e ▸ Heap.lt_size q3) (Nat.lt_irrefl _)
    refine ⟨.ref s.heap.objs.size, _, I3, rfl, ⟨xs, x, _, q1, hx, fresh, rfl, rfl⟩, ⟨⟨_, he'⟩, a2.extBut hs'.extBut (Nat.ne_of_lt (Nat.lt_succ_self n))⟩, fun b hb => ?_⟩
    rw [upd_ne (hpn b hb)]; exact (hf b hb).1
  done := by
    intro X hP hw hK hc i pins s σ H E I hf st hg
    subst hP hw hK
    obtain ⟨⟨old, he⟩, hit⟩ := st
    obtain ⟨xs, q1, hl⟩ := hg
    obtain ⟨_, its1, n1, r1, l1', e1⟩ := I.lstM q1
    have L1 : s.heap.IsList l its1.toArray := ⟨_, e1, rfl, _, rfl⟩
    have hlen := r1.length
    refine wpAny_pyNext_enum_end (I.ok.hd hc) he hit L1 (by rw [List.getElem?_toArray, List.getElem?_eq_none (by lia)]) fun h' hk => ⟨rfl, I.turnedL (ch := [n + 1, n]) (t' := s.toks) (fun b o hb e => ?_) hf⟩
    simp only [List.mem_cons, List.not_mem_nil, or_false, not_or] at hb
    exact hk b o hb.2 e
  self := fun _ _ _ _ _ st h => by
    obtain ⟨⟨old, he⟩, _⟩ := st
    exact wpAny_pyIter_enum he h
section
variable {X : Cx}
noncomputable def iEnum (ta : TA) : TI := fun σ H R => ta σ H fun vs H1 => ∃ l xs, vs = [.ref l] ∧ H1 l = some (.lst xs) ∧ R (Ite l) H1
theorem pi_enum {a : Expr} {ta : TA} {p pos tpos : Pos} {elts : List Expr} {x1} (hg : Gl X "enumerate") (hm : X.mg "enumerate" = none) (ha : PA X [a] ta) (hs : starEach [a] X.env = [(false, eval a X.env)]) :
    PI X (.Tuple elts x1 tpos) (.Call (.Name "enumerate" p) [a] [] pos) (iEnum ta) := by
  intro pins s σ H R I h
  refine Call_ (ld_blt I hg hm boot_enumerate (PyProof.Rows.callWith_type1 (thn (ha pos pins s σ H _ I h) fun us s1 ⟨vs, H1, I1, r1, q1⟩ => ?_) (by rw [hs]; rfl) rfl))
  obtain ⟨l, xs, e, q1, q⟩ := q1
  subst e
  cases r1 with
  | cons r rr =>
    cases rr
    cases r
    obtain ⟨_, its1, n1, v1, _, e1⟩ := I1.lstM q1
    refine call_enumerate_list (items := its1.toArray) ⟨_, e1, rfl, _, rfl⟩ fun h' g1 g2 g3 hk => ?_
    have I2 : Inv X pins σ H1 { s1 with heap := h' } := I1.kept (t' := s1.toks) fun b o e => hk b o e
    refine wpAny_pyIter_enum (s := { s1 with heap := h' }) g1 ?_
    refine ⟨s1.heap.objs.size + 1, [s1.heap.objs.size + 1, s1.heap.objs.size], enumTn s1.heap.objs.size l, Ite l, H1, rfl, I2, turn_enum _ _, ⟨⟨_, g1⟩, g2⟩, fun b hb => ?_, q⟩
    have hge : s1.heap.objs.size ≤ b := by
      simp only [List.mem_cons, List.not_mem_nil, or_false] at hb
      rcases hb with rfl | rfl
      · exact Nat.le_add_right _ 1
      · exact Nat.le_refl _
    exact I1.fpOk (H' := H1) hge (I1.hok.fresh hge)
theorem qi_enum {a : Expr} {ta : TA} {p pos tpos : Pos} {elts : List Expr} {x1} (hg : Gl X "enumerate") (hm : X.mg "enumerate" = none) (ha : QA X [a] ta) (hs : starEach [a] X.env = [(false, eval a X.env)] := by rfl) :
    QI X (.Tuple elts x1 tpos) (.Call (.Name "enumerate" p) [a] [] pos) (iEnum ta) := ⟨pi_enum hg hm ha.run hs⟩
end
section
variable {X : Cx}
theorem inv_blk2 {pins : List (Addr × Obj)} {σ : St} {H : Hp} {s : Shared} {N : List Str} {x x2 : Str} {sc : Scope} {cl : List (Str × Addr)} {fp : List Addr} {ix : List Nat} {h1 : Heap} {m : Str → Option Value} {tk : Nat}
    (I : Inv X pins σ H s) (hkind : sc.kind = .function) (hN : N = x :: x2 :: ix.map fun j => (X.N[j]?).getD "")
    (hsub : ∀ y c, cl.lookup y = some c → X.env.cells.lookup y = some c) (hhas : ∀ y, ((relabel sc X.env).names.lookup y = some .cell ∨ (relabel sc X.env).names.lookup y = some .free) → ∃ c, cl.lookup y = some c)
    (hix : ∀ j ∈ ix, ∃ y, X.N[j]? = some y ∧ X.env.kindOf y = some .cell ∧ (relabel sc X.env).names.lookup y = some .cell)
    (hfp : ∀ b ∈ fp, FpOk X pins H b) (hlt : ∀ b ∈ fp, b < s.heap.objs.size)
    (hns : h1.Ns s.heap.objs.size m) (hk : ∀ b o, s.heap.get? b = some o → h1.get? b = some o) :
    Inv (blk X N s H sc cl s.heap.objs.size fp) [] (none :: none :: frees σ ix) H { s with heap := h1, toks := tk } := by
  have fresh : H s.heap.objs.size = none := I.hok.fresh (Nat.le_refl _)
  refine ⟨⟨I.ok.mod, hkind, I.ok.glob, I.ok.blt, Nat.le_refl _, fun y z c h1 h2 => I.ok.inj y z c (hsub y c h1) (hsub z c h2), fun y hy => hhas y hy, fun y c z _ => absurd (show false = true from z) (by decide), I.ok.hd, I.ok.frames, .inl rfl,
    fun b hb => ⟨Nat.ne_of_lt (hlt b hb), fun y c e => (hfp b hb).2.2.2.2.1 y c (hsub y c e)⟩, I.bs, Nat.le_trans I.ok.bsz I.sz, fun b o e hb => ?_, fun b hb z => ?_, I.stack, I.stkFree⟩,
    rfl, I.bare, Un.kept hk, ⟨m, hns, fun i y v e1 e2 e3 => ?_⟩, fun y c e => ?_, fresh, fun y c e => I.freeC y c (hsub y c e), fun p hp => absurd (show p ∈ ([] : List (Addr × Obj)) from hp) (by simp), I.hok.kept hk, ?_⟩
  · rcases (hfp b hb).2.2.2.1 with z | z
    · exact I.ok.noex b o e z
    · exact absurd (Nat.lt_of_lt_of_le (Heap.lt_size e) (Nat.le_trans I.ok.bsz z)) (Nat.lt_irrefl _)
  · rcases List.mem_cons.mp (I.stkSub b z) with q | q
    · exact (hfp b hb).2.1 q
    · exact (hfp b hb).2.2.1 q
  · cases i with
    | zero =>
      have e2' : (some none : Option (Option V)) = some (some v) := e2
      cases e2'
    | succ i =>
      cases i with
      | zero =>
        have e2' : (some none : Option (Option V)) = some (some v) := e2
        cases e2'
      | succ i =>
        have e2' : (frees σ ix)[i]? = some (some v) := by simpa using e2
        unfold frees at e2'
        rw [List.getElem?_map] at e2'
        cases q : ix[i]? with
        | none => rw [q] at e2'; cases e2'
        | some j =>
          rw [q] at e2'
          have e3' : (σ[j]?).getD none = some v := by simpa using e2'
          have e4 : σ[j]? = some (some v) := by
            cases q2 : σ[j]? with
            | none => rw [q2] at e3'; cases e3'
            | some w => rw [q2] at e3'; simpa using e3'
          obtain ⟨y', hy, hc, hr⟩ := hix j (List.mem_of_getElem? q)
          have ey : y' = y := by
            have e1' : N[i + 1 + 1]? = some y := e1
            rw [hN, List.getElem?_cons_succ, List.getElem?_cons_succ, List.getElem?_map, q] at e1'
            have := Option.some.inj e1'
            simpa [hy] using this
          subst ey
          obtain ⟨m0, hn0, hl0⟩ := I.loc
          obtain ⟨u, r, l⟩ := hl0 j y' v hy e4 (.inr (.inl hc))
          refine ⟨u, r, .inr ⟨.inl hr, ?_⟩⟩
          rcases l with ⟨k, _⟩ | ⟨_, c, ec, ic⟩
          · rw [hc] at k; cases k
          · obtain ⟨c', ec'⟩ := hhas y' (.inl hr)
            have := hsub y' c' ec'
            rw [ec] at this; cases this
            obtain ⟨o, ho, hd⟩ := ic
            exact ⟨c, ec', o, hk c o ho, hd⟩
  · obtain ⟨v, o, ho, hd⟩ := I.cell y c (hsub y c e)
    exact ⟨v, o, hk c o ho, hd⟩
  · show (none :: none :: frees σ ix).length = N.length
    rw [hN]
    simp [frees]
theorem pe_comp2 {elt iter : Expr} {x x2 : Str} {px px2 ptt pos : Pos} {kt : Nat} {ifs : List Expr} {sc : Scope} {cl : List (Str × Addr)} {ix : List Nat} {wi : TI} {tc : TT} {te : TE} (N : List Str)
    (hc : X.calm = true) (hi : PI X (.Tuple [.Name x px, .Name x2 px2] kt ptt) iter wi) (hif : ∀ s H C ex, PTs (blk X N s H sc cl C ex) ifs tc) (he : ∀ s H C ex, PE (blk X N s H sc cl C ex) elt te)
    (hkind : sc.kind = .function) (hN : N = x :: x2 :: ix.map fun j => (X.N[j]?).getD "") (hnd : N.Nodup) (hx : sc.names.lookup x = some .local) (hx2 : sc.names.lookup x2 = some .local)
    (hcl : closureFor sc X.env = pure cl) (hcell : ∀ y ∈ sc.names, y.2 ≠ .cell) (hnames : ∀ y ∈ sc.names, y.2 = .local → sc.names.lookup y.1 = some .local)
    (hsub : ∀ y c, cl.lookup y = some c → X.env.cells.lookup y = some c) (hhas : ∀ y, ((relabel sc X.env).names.lookup y = some .cell ∨ (relabel sc X.env).names.lookup y = some .free) → ∃ c, cl.lookup y = some c)
    (hix : ∀ j ∈ ix, ∃ y, X.N[j]? = some y ∧ X.env.kindOf y = some .cell ∧ (relabel sc X.env).names.lookup y = some .cell)
    (hs : ∀ x, foldedSetIterable iter X.env x = pure x := by intro _; rfl) :
    PE X (.ListComp elt [⟨.Tuple [.Name x px, .Name x2 px2] kt ptt, iter, ifs, 0⟩] sc pos) (tComp2 X.K ix wi tc te) := by
  intro pins s σ H Q I h
  rw [eval_ListComp]
  refine wpAny_comprehension_free (use := none) rfl hs hcl hkind hnames (thn (hi pins s σ H _ I h) fun v s1 h1 => thn h1 fun itv s2 h2 => ?_)
  obtain ⟨it, fp, tn, J, H2, e, I2, T, st2, f2, q2⟩ := h2
  subst e
  have fr2 : H2 s2.heap.objs.size = none := I2.hok.fresh (Nat.le_refl _)
  obtain ⟨W, ⟨m0, w0⟩, turn⟩ := q2 s2.heap.objs.size fr2
  refine wpAny_newObj_type ?_
  have I3 : Inv X pins σ (upd H2 s2.heap.objs.size (.lst [])) { s2 with heap := s2.heap.push { cls := .type "list", dict := none, data := .seq ([] : List Value).toArray } } := by
    exact I2.lnew (its := []) (ys := []) (t' := s2.toks) .nil (Nat.zero_le _)
  have lt2 : ∀ b ∈ fp, b < s2.heap.objs.size := fun b hb => by
    obtain ⟨o, ho, _⟩ := T.obj _ _ st2 b hb
    exact Heap.lt_size ho
  have f3 : ∀ b ∈ fp, FpOk X pins (upd H2 s2.heap.objs.size (.lst [])) b := fun b hb => ⟨by rw [upd_ne (Nat.ne_of_lt (lt2 b hb))]; exact (f2 b hb).1, (f2 b hb).2⟩
  generalize hs3 : ({ s2 with heap := s2.heap.push { cls := .type "list", dict := none, data := .seq ([] : List Value).toArray } } : Shared) = s3 at I3
  have hsz3 : s2.heap.objs.size ≤ s3.heap.objs.size := by rw [← hs3]; show _ ≤ (s2.heap.push _).objs.size; rw [Heap.size_push]; exact Nat.le_succ _
  have tn3 : tn 0 s3.heap := T.keep _ _ _ st2 fun b _ o e => by rw [← hs3]; exact Heap.get?_push_of_some _ e
  have lt3 : ∀ b ∈ fp, b < s3.heap.objs.size := fun b hb => Nat.lt_of_lt_of_le (lt2 b hb) hsz3
  refine wpAny_newFunctionEnv hcell (by intro y hy; simp at hy) (fun h4 hns4 hsb4 => ?_) hkind
  have old : ∀ b o, s3.heap.get? b = some o → h4.get? b = some o := fun b o e => hsb4.extBut b o (Nat.ne_of_lt (Heap.lt_size e)) (Heap.get?_push_of_some _ e)
  have I4 := inv_blk2 (m := _) (tk := s3.toks + ([] : List (Str × Value)).length) (N := N) I3 hkind hN hsub hhas hix f3 lt3 hns4 old
  have tn4 : tn 0 h4 := T.keep _ _ _ tn3 fun b _ o e => old b o e
  have fpB : ∀ {H' : Hp}, (∀ b ∈ fp, H' b = none) → ∀ b ∈ fp, FpOk (blk X N s3 (upd H2 s2.heap.objs.size (.lst [])) sc cl s3.heap.objs.size fp) [] H' b := fun {H'} hn b hb =>
    ⟨hn b hb, Nat.ne_of_lt (lt3 b hb), I4.ok.exfs b hb, .inl hb, fun y c e => (I4.ok.exf b hb).2 y c e, fun p hp => absurd (show p ∈ ([] : List (Addr × Obj)) from hp) (by simp)⟩
  have loop : codeAny (model X.prog X.w) X.A (.compLoop (.ListComp elt [⟨.Tuple [.Name x px, .Name x2 px2] kt ptt, iter, ifs, 0⟩] sc pos) 0 (.ref it) (.ref s2.heap.objs.size) (compEnvC sc cl s3.heap.objs.size X.env))
      (compPost (model X.prog X.w) X.A X.xe none (EP X pins σ Q) (.ref s2.heap.objs.size) s3.heap.objs.size) { s3 with heap := h4, toks := s3.toks + ([] : List (Str × Value)).length } := by
    refine compLoop_go (fun n s' => ∃ i v0 v1 H', Inv (blk X N s3 (upd H2 s2.heap.objs.size (.lst [])) sc cl s3.heap.objs.size fp) [] (v0 :: v1 :: frees σ ix) H' s' ∧ tn i s'.heap ∧ (∀ b ∈ fp, H' b = none) ∧ W i n H') ?_ m0
      ⟨0, none, none, _, I4, tn4, fun b hb => (f3 b hb).1, w0⟩
    rintro n s5 ⟨i, v0, v1, H5, I5, st5, fr5, w5⟩
    rcases turn i n H5 w5 with ⟨stop, qn⟩ | ⟨go, step⟩
    · refine thn (T.done (blk X N s3 (upd H2 s2.heap.objs.size (.lst [])) sc cl s3.heap.objs.size fp) rfl rfl rfl hc i [] s5 _ H5 _ I5 (fpB fr5) st5 stop) fun r s6 ⟨hr, I6⟩ => ?_
      subst hr
      obtain ⟨mm, hm, _⟩ := I6.loc
      refine ⟨mm, hm, fun h7 sb7 => ?_⟩
      have I7 : Inv X pins σ H5 { s6 with heap := h7 } := by
        have hC : H5 s3.heap.objs.size = none := I6.free
        have hc3 : s3.heap.get? s3.heap.objs.size = none := Heap.get?_none_of_le (Nat.le_refl _)
        have up : ∀ b o, b ≠ s3.heap.objs.size → s6.heap.get? b = some o → h7.get? b = some o := fun b o hb e => sb7.extBut b o hb e
        have neC : ∀ b o, s3.heap.get? b = some o → b ≠ s3.heap.objs.size := fun b o e => Nat.ne_of_lt (Heap.lt_size e)
        have u := I6.base
        refine I3.call' (s' := { s6 with heap := h7 }) (ch := fp) I6.os ⟨fun b o e n hb hx => ?_, fun b o e n hb hx => ?_, fun b o e n hx => u.free b o e n hx, fun b o e hx => ?_, u.tups, u.frzs, u.tbls⟩ (fun b o e => ?_) I6.bare fun b hb => ⟨(f3 b hb).2.2.2.1, (f3 b hb).2.1, (f3 b hb).2.2.2.2.1, (f3 b hb).2.2.2.2.2⟩
        · exact up b o (neC b o e) (u.keep b o e n hb hx)
        · obtain ⟨sl, e1⟩ := u.slot b o e n hb hx
          exact ⟨sl, up b _ (neC b o e) e1⟩
        · obtain ⟨o', e1⟩ := u.there b o e hx
          exact ⟨o', up b _ (neC b o e) e1⟩
        · refine (I6.hok b o e).stay (fun c v hc' q => up c v ?_ q) (fun _ q => q) fun _ _ q => q
          rintro rfl
          rcases hc' with z | z
          · rw [← z, hC] at e; cases e
          · rw [hC] at z; cases z
      exact ⟨.ref s2.heap.objs.size, H5, I7, rfl, qn⟩
    · refine thn (T.item (blk X N s3 (upd H2 s2.heap.objs.size (.lst [])) sc cl s3.heap.objs.size fp) rfl rfl rfl hc i [] s5 _ H5 _ I5 (fpB fr5) st5 go) fun r s6 ⟨u, hr, h6⟩ => ?_
      subst hr
      refine thn h6 fun _ s7 ⟨y, H7, I7, r7, y7, st7, fr7⟩ => ?_
      have I7' := I7.pinned (fpB fr7) (T.obj _ _ st7)
      obtain ⟨pp, ya, yb, rfl, hpp, step7⟩ := step y H7 y7
      have hPG : PG (blk X N s3 (upd H2 s2.heap.objs.size (.lst [])) sc cl s3.heap.objs.size fp) (.Tuple [.Name x px, .Name x2 px2] kt ptt) (gTup X.K 2 (gCons (gName 0) (gCons (gName 1) gNil))) :=
        pg_tup hc (pgs_cons (pg_name (i := 0) hnd (by show N[0]? = some x; rw [hN]; rfl) (.inl (lookup_relabel_local hx)) (.inr (lookup_relabel_local hx))) (pgs_cons (pg_name (i := 1) hnd (by show N[1]? = some x2; rw [hN]; rfl) (.inl (lookup_relabel_local hx2)) (.inr (lookup_relabel_local hx2))) pgs_nil))
      refine thn (hPG _ s7 _ H7 (.ref pp) _ (fun σ' H' => σ' = some ya :: some yb :: frees σ ix ∧ H' = H7) I7' r7 ⟨pp, _, rfl, hpp, rfl, _, _, rfl, _, _, rfl, rfl, rfl, rfl⟩) fun _ s8 ⟨σ8, H8, I8, eσ, eH⟩ => ?_
      subst eσ eH
      refine thn (hif _ _ _ _ _ s8 _ H8 _ I8 step7) fun ok s9 ⟨H9, I9, q9⟩ => ?_
      have again : ∀ {H' : Hp} {s' : Shared} {m' : Nat}, Inv (blk X N s3 (upd H2 s2.heap.objs.size (.lst [])) sc cl s3.heap.objs.size fp) ([] ++ pinsAt fp s7.heap) (some ya :: some yb :: frees σ ix) H' s' → m' < n → W (i + 1) m' H' →
          ∃ m, m < n ∧ ∃ i v0 v1 H', Inv (blk X N s3 (upd H2 s2.heap.objs.size (.lst [])) sc cl s3.heap.objs.size fp) [] (v0 :: v1 :: frees σ ix) H' s' ∧ tn i s'.heap ∧ (∀ b ∈ fp, H' b = none) ∧ W i m H' := fun {H' s' m'} Ia hm wa => by
        refine ⟨m', hm, i + 1, some ya, some yb, H', Ia.unpinned, T.keep _ _ _ st7 fun b hb o e => (Ia.pin (b, o) (List.mem_append_right _ (List.mem_append_right _ (mem_pinsAt hb e)))).1, fun b hb => ?_, wa⟩
        obtain ⟨o, e, d⟩ := T.obj _ _ st7 b hb
        exact (Ia.pin (b, o) (List.mem_append_right _ (List.mem_append_right _ (mem_pinsAt hb e)))).2.1
      cases ok with
      | false =>
        rw [if_neg Bool.false_ne_true] at q9 ⊢
        obtain ⟨m', hm, wa⟩ := q9
        exact again I9 hm wa
      | true =>
        rw [if_pos rfl] at q9 ⊢
        refine thn (he _ _ _ _ _ s9 _ H9 _ I9 q9) fun v10 s10 ⟨z, H10, I10, r10, ys, hD, hl, m', hm, wa⟩ => ?_
        exact thn (mt_append _ s10 _ H10 (.ref s2.heap.objs.size) [z] (.ref s2.heap.objs.size) [v10] (fun _ H' => H' = upd H10 s2.heap.objs.size (.lst (ys ++ [z]))) I10 rfl (.cons r10 .nil) ⟨_, ys, z, rfl, rfl, hD, hl, rfl⟩)
          fun _ s11 ⟨_, H11, I11, _, e11⟩ => again I11 hm (by rw [e11]; exact wa)
  subst hs3
  exact codeAny_compStart_list loop (T.self _ 0 _ _ _ tn4 loop)
theorem qe_comp2G {X : Cx} {elt iter : Expr} {x x2 : Str} {px px2 ptt pos : Pos} {kt : Nat} {ifs : List Expr} {sc : Scope} {cl : List (Str × Addr)} {wi : TI} {tc : TT} {te : TE} {K : PySem.W.Frag} (hK : X.K = K) (N : List Str) (ix : List Nat) (hi : QI X (.Tuple [.Name x px, .Name x2 px2] kt ptt) iter wi)
    (hif : ∀ s H C ex, QTs (blk X N s H sc cl C ex) ifs tc) (he : ∀ s H C ex, QE (blk X N s H sc cl C ex) elt te)
    (hcl : closureFor sc X.env = pure cl := by rfl) (hcs : ClIn X.env.cells cl := by repeat' first | with_unfolding_all rfl | constructor) (hN : N = x :: x2 :: ix.map (fun j => (X.N[j]?).getD "") := by rfl) (hnd : N.Nodup := by decide +kernel)
    (hkm : cl.map (·.1) = N.tail.tail := by rfl) (hkB : ((relabel sc X.env).names.all fun y => (match y.2 with | .cell => false | .free => false | _ => true) || decide (y.1 ∈ N.tail.tail)) = true := by with_unfolding_all rfl)
    (hix : IxIn X sc ix := by repeat' first | with_unfolding_all rfl | constructor)
    (hx : sc.names.lookup x = some .local := by decide +kernel) (hx2 : sc.names.lookup x2 = some .local := by decide +kernel) (hcell : ∀ z ∈ sc.names, z.2 ≠ .cell := by decide +kernel)
    (hnames : ∀ z ∈ sc.names, z.2 = .local → sc.names.lookup z.1 = some .local := by decide +kernel)
    (hc : X.calm = true := by rfl) (hkind : sc.kind = .function := by rfl) (hs : ∀ x, foldedSetIterable iter X.env x = pure x := by intro _; rfl) :
    QE X (.ListComp elt [⟨.Tuple [.Name x px, .Name x2 px2] kt ptt, iter, ifs, 0⟩] sc pos) (tComp2 K ix wi tc te) := by
  subst hK
  exact ⟨pe_comp2 N hc hi.run (fun s H C ex => (hif s H C ex).run) (fun s H C ex => (he s H C ex).run) hkind hN hnd hx hx2 hcl hcell hnames (cl_sub hcs.all) (cl_has hkm hkB) hix.all hs⟩
end
end L2
namespace L2
open PySem PySem.Spec
noncomputable def pickF {α : Type} (d : α) (p : Nat → Bool) (xs : List α) (n : Nat) : List α := ((List.range n).filter p).map fun i => xs.getD i d
theorem pickF_succ {α : Type} {d : α} {p : Nat → Bool} {xs : List α} {i : Nat} {x : α} (h : xs[i]? = some x) : pickF d p xs (i + 1) = if p i = true then pickF d p xs i ++ [x] else pickF d p xs i := by
  unfold pickF
  rw [List.range_succ, List.filter_append, List.map_append]
  have e : xs.getD i d = x := by rw [List.getD_eq_getElem?_getD, h]; rfl
  cases c : p i with
  | true => rw [if_pos rfl]; simp only [List.filter, c, List.map_cons, List.map_nil, e]
  | false => rw [if_neg Bool.false_ne_true]; simp [List.filter, c]
theorem pickF_len {α : Type} {d : α} {p : Nat → Bool} {xs : List α} {n : Nat} : (pickF d p xs n).length ≤ n := by
  unfold pickF
  rw [List.length_map]
  have := List.length_filter_le p (List.range n)
  rw [List.length_range] at this
  exact this
theorem Paired.nthE {α β : Type} {F : α → β → Prop} : ∀ {l₁ : List α} {l₂ : List β} {i : Nat} {a : α} {b : β}, Paired F l₁ l₂ → l₁[i]? = some a → l₂[i]? = some b → F a b
  | _, _, _, _, _, .nil, e, _ => by simp at e
  | _, _, 0, _, _, .cons h _, e, e' => by simp at e e'; subst e e'; exact h
  | _, _, i + 1, _, _, .cons _ t, e, e' => Paired.nthE (i := i) t (by simpa using e) (by simpa using e')
theorem pickF_paired {α β : Type} {R : α → β → Prop} {d : α} {d' : β} {p : Nat → Bool} {xs : List α} {ys : List β} (h : Paired R xs ys) : ∀ n, n ≤ xs.length → Paired R (pickF d p xs n) (pickF d' p ys n)
  | 0, _ => .nil
  | n + 1, hn => by
    have hl := Paired.length h
    have h1 : xs[n]? = some xs[n] := List.getElem?_eq_getElem hn
    have h2 : ys[n]? = some ys[n] := List.getElem?_eq_getElem (by lia)
    rw [pickF_succ h1, pickF_succ h2]
    have ih := pickF_paired (d := d) (d' := d') (p := p) h n (by lia)
    cases c : p n with
    | true => rw [if_pos rfl, if_pos rfl]; exact Paired.snocP ih (Paired.nthE h h1 h2)
    | false => rw [if_neg Bool.false_ne_true, if_neg Bool.false_ne_true]; exact ih
theorem notInK {X : Cx} {K : PySem.W.Frag} (h : X.K = K) : OpR X (compareOp .NotIn) (rIn K true) := by subst h; exact op_notIn_seq
theorem comp_enum {K : PySem.W.Frag} {l : Addr} {H1 : Hp} {σ : St} {ix : List Nat} {tc : TT} {te : TE} {Q : VK} (as : List Addr) (p : Nat → Bool) (hl : H1 l = some (.lst (as.map V.ref))) (hz : as.length ≤ 1000)
    (ht : ∀ (i : Nat) a H2, as[i]? = some a → Same H1 H2 → ∀ Q' : Bool → Hp → Prop, Q' (p i) H2 → tc (some (.int (i : Int)) :: some (.ref a) :: frees σ ix) H2 Q')
    (he : ∀ (i : Nat) a H2, as[i]? = some a → ∀ Q' : VK, Q' (.ref a) H2 → te (some (.int (i : Int)) :: some (.ref a) :: frees σ ix) H2 Q')
    (hQ : ∀ D H', H1 D = none → Same H1 H' → H' D = some (.lst ((pickF 0 p as as.length).map V.ref)) → Q (.ref D) H') : CompGo2 K (Ite l) H1 σ ix tc te Q := by
  intro D hD
  have put : ∀ H ys, Same H1 H → Same H1 (upd H D (.lst ys)) := fun H ys e b u q => by rw [upd_ne (ne_of_none q hD)]; exact e b u q
  have hlD : l ≠ D := ne_of_none hl hD
  refine ⟨fun i m H => i ≤ as.length ∧ m = as.length - i ∧ Same H1 H ∧ H D = some (.lst ((pickF 0 p as i).map V.ref)), ⟨as.length, Nat.zero_le _, rfl, put _ _ (Same.refl _), upd_same⟩, ?_⟩
  rintro i m H ⟨hi, rfl, e, hD'⟩
  have hl' := e _ _ hl
  by_cases hlt : i < as.length
  · have ha : as[i]? = some as[i] := List.getElem?_eq_getElem hlt
    refine .inr ⟨⟨_, .ref as[i], hl', by rw [List.getElem?_map, ha]; rfl⟩, fun x H' hy => ?_⟩
    obtain ⟨xs, x', p', g1, g2, g3, rfl, rfl⟩ := hy
    rw [hl'] at g1
    cases g1
    rw [List.getElem?_map, ha] at g2
    cases g2
    have s1 := same_new g3 (.tup [.int (i : Int), .ref as[i]])
    refine ⟨p', _, _, rfl, SqT.of upd_same, ht i _ _ ha (e.trans s1) _ ?_⟩
    have hD2 := s1 _ _ hD'
    have hp1 := pickF_succ (d := (0 : Addr)) (p := p) ha
    have hlen := pickF_len (d := (0 : Addr)) (p := p) (xs := as) (n := i)
    cases c : p i with
    | true =>
      rw [if_pos rfl]
      refine he i _ _ ha _ ⟨_, hD2, Nat.lt_of_le_of_lt (by rw [List.length_map]; exact Nat.le_trans hlen (Nat.le_trans hi hz)) (by decide), as.length - (i + 1), by lia, hlt, rfl, put _ _ (e.trans s1), ?_⟩
      rw [upd_same, hp1, if_pos c, List.map_append]; rfl
    | false =>
      rw [if_neg Bool.false_ne_true]
      refine ⟨as.length - (i + 1), by lia, hlt, rfl, e.trans s1, ?_⟩
      rw [hD2, hp1, if_neg (by rw [c]; exact Bool.false_ne_true)]
  · have ei : i = as.length := by lia
    subst ei
    exact .inl ⟨⟨_, hl', by rw [List.length_map]; exact Nat.le_refl _⟩, hQ D H hD e hD'⟩
end L2
namespace K30
open PySem PySem.Spec L2 Mir Kn
noncomputable abbrev sLeft : Stmt := top 1
noncomputable abbrev sRests : Stmt := top 2
noncomputable def NumsAt (H : Hp) (l : Addr) (ks : List Nat) : Prop := ∃ as : List Addr, H l = some (.lst (as.map V.ref)) ∧ Paired (fun b k => H b = some (.lst [.int ((k : Nat) : Int)])) as ks
theorem NumsAt.same {H H' : Hp} {l : Addr} {ks : List Nat} (h : NumsAt H l ks) (e : Same H H') : NumsAt H' l ks := by
  obtain ⟨as, h1, h2⟩ := h
  exact ⟨as, e _ _ h1, Paired.mapP h2 fun b k z => e _ _ z⟩
noncomputable def leftF (ks : List Nat) (P : List (List Str)) : List (List Str) := pickF [] (fun i => !decide (i ∈ ks)) P P.length
structure Two (K : PySem.W.Frag) (H : Hp) (t fl pl : Addr) (F P : List (List Str)) : Prop where
  tup : SqT K H t [.ref fl, .ref pl]
  one : RowsAt K H fl F
  two : RowsAt K H pl P
theorem Two.same {K : PySem.W.Frag} {H H' : Hp} {t fl pl : Addr} {F P : List (List Str)} (h : Two K H t fl pl F P) (e : Same H H') : Two K H' t fl pl F P := ⟨e.seqT h.tup, h.one.same e, h.two.same e⟩
inductive spLeft (K : PySem.W.Frag) (vs : List V) (H : Hp) (Q : VK) (E : XK) : Prop
  | mk (t fl pl rl : Addr) (F P : List (List Str)) (ks : List Nat) (h0 : vs = [.ref t, .ref rl]) (h1 : Two K H t fl pl F P) (h2 : F.length ≤ 100) (h3 : P.length ≤ 100) (h4 : NumsAt H rl ks) (h5 : ks.length ≤ 100)
      (q : ∀ u fa pa H', Same H H' → H u = none → H fa = none → H pa = none → fa ≠ pa → H' u = some (.tup [.ref fa, .ref pa]) → RowsAt K H' fa F → RowsAt K H' pa (leftF ks P) → Q (.ref u) H') : spLeft K vs H Q E
section
variable {P : Program} {w : World} {K : PySem.W.Frag} {mg : Str → Option Value} {base : Heap} {f : Addr} {fd : FuncData}
theorem scLeft : FnScope ["one", "rows", "taken", "row"] ["one", "rows"] (defScope sLeft) := ⟨rfl, rfl, rfl, by decide +kernel, rfl, by decide +kernel, by decide +kernel⟩
theorem inV_nums (k : Nat) (ks : List Nat) : inV (.int (k : Int)) (ks.map fun i : Nat => V.int (i : Int)) = decide (k ∈ ks) := by
  unfold inV
  rw [Bool.eq_iff_iff, List.any_eq_true, decide_eq_true_eq]
  constructor
  · rintro ⟨y, hy, e⟩
    obtain ⟨z, hz, rfl⟩ := List.mem_map.mp hy
    have e' : ((z : Int) == (k : Int)) = true := e
    have : z = k := by
      have := eq_of_beq e'
      lia
    exact this ▸ hz
  · intro h
    exact ⟨.int (k : Int), List.mem_map.mpr ⟨k, h, rfl⟩, by show ((k : Int) == (k : Int)) = true; simp⟩
theorem ok_left (C : Con K mg w) (F : Fun K "left_by" "left_by" sLeft f fd) : FnOk P w K mg base CX0 1 f fd ["one", "rows"] (spLeft K) := by
  refine F.okQ scLeft (fun vs H Q E h => ?_) (fun cdv A outer s0 H vs Q E hr h => ?_)
  · obtain ⟨t, fl, pl, rl, F, P, ks, rfl, _⟩ := h; rfl
  obtain ⟨t, fl, pl, rl, Fs, Ps, ks, rfl, hT, hF, hP, hR, hk, q⟩ := h
  have nd := scLeft.nd
  refine ⟨_, qb_cons (qs_set (i := 2) nd rfl (Or.inr rfl) (qe_lst qa_nil))
    (qb_cons (qs_for PassesOwn.never rfl (qi_list (qv 1)) (qg_name (i := 3) nd rfl (Or.inl rfl)) (qb_one (qs_expr (qe_bmK (K := K) rfl PySem.F.plainAttrs_list PySem.F.slot_list_extend PySem.F.type_list_extend mt_extend (qv 2) (qa_nm (qv 3) qa_nil)))))
    (qb_one (qs_ret (qe_tup (qa_call (qe_callTy call_list_of rfl C.list PyProof.Rows.boot_list (qa_sub (qe_ix ix_tup (qv 0) qe_int (fun _ _ => rfl)) qa_nil)) (qa_cons (qe_comp2G (K := K) rfl ["number", "part", "taken"] [2] (qi_enum rfl C.enumerate (qa_sub (qe_ix ix_tup (qv 0) qe_int (fun _ _ => rfl)) qa_nil)) (fun _ _ _ _ => (qts_one (qt_cmpR (notInK (K := K) rfl) (qv 0) (qv 2) (by with_unfolding_all rfl)))) (fun _ _ _ _ => (qv 1))) qa_nil)))))), ?_⟩
  refine ⟨Nat.zero_le _, fun tk htk => ?_⟩
  obtain ⟨ras, hra, hrp⟩ := hR
  have hrl := Paired.length hrp
  have s1 := same_new htk (.lst [])
  refine ⟨_, rfl, rl, rfl, ⟨_, SqL.of (s1 _ _ hra)⟩, ?_⟩
  refine for_list (xs := ras.map V.ref) (fun i σ H2 => Same H H2 ∧ H2 tk = some (.lst ((ks.take i).map fun k : Nat => V.int (k : Int))) ∧ ∃ z3 : Option V, σ = [some (.ref t), some (.ref rl), some (.ref tk), z3]) ⟨s1, upd_same, _, rfl⟩ (fun i σ H2 _ h => SqL.of (h.1 _ _ hra)) ?_ ?_
  · rintro i x σ H2 hx ⟨e2, htk2, z3, rfl⟩
    obtain ⟨b, hb, rfl⟩ := ref_at hx
    obtain ⟨k, hk', hbk⟩ := Paired.nth hrp hb
    have hki := (List.getElem?_eq_some_iff.mp hk').1
    refine ⟨_, rfl, (.inl ⟨rfl, _, SqL.of htk2⟩), _, rfl, tk, b, _, _, rfl, rfl, htk2, e2 _ _ hbk, le_line (by rw [List.length_map, List.length_take]; show _ + 1 ≤ 1000; lia), ?_⟩
    refine ⟨fun b' o hb' => by rw [upd_ne (ne_of_none hb' htk)]; exact e2 b' o hb', ?_, _, rfl⟩
    rw [upd_same, List.take_add_one, hk', List.map_append]; rfl
  rintro σ H2 ⟨e2, htk2, z3, rfl⟩
  rw [List.length_map, hrl, List.take_length] at htk2
  have hT2 := hT.same e2
  obtain ⟨fas, hfa0, hfp⟩ := id hT2.one
  refine ⟨_, rfl, t, _, 0, _, rfl, rfl, hT2.tup, rfl, fl, _, rfl, .inl (SqL.of hfa0), fun fa hfa => ?_⟩
  have s3 := same_new hfa (.lst (fas.map V.ref))
  have hfaL : (upd H2 fa (.lst (fas.map V.ref))) fa = some (.lst (fas.map V.ref)) := upd_same
  generalize upd H2 fa (.lst (fas.map V.ref)) = H3 at s3 hfaL ⊢
  have hT3 := hT2.same s3
  obtain ⟨pas, hpa0, hpp⟩ := id hT3.two
  have hpl := Paired.length hpp
  refine ⟨_, rfl, t, _, 1, _, rfl, rfl, hT3.tup, rfl, pl, _, rfl, hpa0, ?_⟩
  refine comp_enum pas (fun i => !decide (i ∈ ks)) hpa0 (by lia) (fun i a H4 ha e4 Q' q' => ?_) (fun i a H4 ha Q' q' => ⟨_, rfl, q'⟩) fun D H4 hD e4 hD4 => ?_
  · refine ⟨_, rfl, _, rfl, tk, _, rfl, .inl (SqL.of ((s3.trans e4) _ _ htk2)), rfl, (by rw [List.all_map]; exact List.all_eq_true.mpr fun _ _ => rfl), _, rfl, ?_⟩
    rw [inV_nums]
    exact q'
  refine ⟨(show 2 ≤ sizeLine by decide), fun u hu => ?_⟩
  have s5 := same_new hu (.tup [.ref fa, .ref D])
  have e24 := e2.trans s3
  have e25 := e24.trans e4
  refine q u fa D _ (e25.trans s5) (e25.free hu) (e2.free hfa) (e24.free hD) (ne_of_none hfaL hD) upd_same ?_ ?_
  · exact ⟨fas, (e4.trans s5) _ _ hfaL, Paired.mapP hfp fun _ _ z => RowAt.same z ((s3.trans e4).trans s5)⟩
  · refine ⟨_, s5 _ _ hD4, ?_⟩
    unfold leftF
    rw [← hpl]
    exact pickF_paired (Paired.mapP hpp fun _ _ z => RowAt.same z (e4.trans s5)) _ (Nat.le_refl _)
end
end K30
namespace K30
open PySem PySem.Spec L2 Mir Kn
noncomputable def PapAt (K : PySem.W.Frag) (H : Hp) : Addr → List (Str × Str) → Addr → Prop
  | p, [], rl => SqT K H p [.str "cover", .ref rl]
  | p, s :: S, rl => ∃ q, SqT K H p [.str "split", .str s.1, .str s.2, .ref q, .ref q] ∧ PapAt K H q S rl
theorem PapAt.same {K : PySem.W.Frag} {H H' : Hp} {rl : Addr} (e : Same H H') : ∀ {S : List (Str × Str)} {p : Addr}, PapAt K H p S rl → PapAt K H' p S rl
  | [], _, h => e.seqT (show SqT K H _ _ from h)
  | s :: S, _, h => by
    obtain ⟨q, h1, h2⟩ := h
    exact ⟨q, e.seqT h1, PapAt.same e h2⟩
noncomputable def waysR (F : List (List Str)) : List (Str × Str) → List (List (List Str))
  | [] => [F]
  | s :: S => waysR (F ++ [[("is" : Str), s.1, s.2]]) S ++ waysR (F ++ [[("not" : Str), s.1, s.2]]) S
theorem waysR_len : ∀ (S : List (Str × Str)) (F : List (List Str)), (waysR F S).length = 2 ^ S.length
  | [], _ => rfl
  | s :: S, F => by
    show (waysR _ S ++ waysR _ S).length = 2 ^ (S.length + 1)
    rw [List.length_append, waysR_len S (F ++ [[("is" : Str), s.1, s.2]]), waysR_len S, Nat.pow_succ]
    lia
abbrev It3 := Addr × Addr × Addr
structure Fnd (K : PySem.W.Frag) (H0 H : Hp) (its : List It3) (Ws : List (List (List Str))) (R : List (List Str)) : Prop where
  all : Paired (fun (x : It3) F => Two K H x.1 x.2.1 x.2.2 F R) its Ws
  new : ∀ x ∈ its, H0 x.2.1 = none ∧ H0 x.2.2 = none
  nd : (its.flatMap fun x : It3 => [x.2.1, x.2.2]).Nodup
theorem Fnd.same {K : PySem.W.Frag} {H0 H H' : Hp} {its : List It3} {Ws : List (List (List Str))} {R : List (List Str)} (h : Fnd K H0 H its Ws R) (e : Same H H') : Fnd K H0 H' its Ws R := ⟨Paired.mapP h.all fun _ _ z => Two.same z e, h.new, h.nd⟩
theorem Fnd.nil {K : PySem.W.Frag} {H0 H : Hp} {R : List (List Str)} : Fnd K H0 H [] [] R := ⟨.nil, (fun x hx => by cases hx), List.nodup_nil⟩
theorem Two.alive {K : PySem.W.Frag} {H : Hp} {t fl pl : Addr} {F P : List (List Str)} (h : Two K H t fl pl F P) : H fl ≠ none ∧ H pl ≠ none := by
  obtain ⟨as, h1, _⟩ := h.one
  obtain ⟨bs, h2, _⟩ := h.two
  exact ⟨(fun z => by rw [h1] at z; cases z), (fun z => by rw [h2] at z; cases z)⟩
theorem Fnd.alive {K : PySem.W.Frag} {H0 H : Hp} {its : List It3} {Ws : List (List (List Str))} {R : List (List Str)} (h : Fnd K H0 H its Ws R) : ∀ x ∈ its, H x.2.1 ≠ none ∧ H x.2.2 ≠ none := fun x hx => by
  obtain ⟨i, hi⟩ := List.mem_iff_getElem?.mp hx
  obtain ⟨F, _, h2⟩ := Paired.nth h.all hi
  exact Two.alive h2
theorem Fnd.app {K : PySem.W.Frag} {H0 H1 H2 : Hp} {its its2 : List It3} {Ws Ws2 : List (List (List Str))} {R : List (List Str)} (h : Fnd K H0 H1 its Ws R) (h2 : Fnd K H1 H2 its2 Ws2 R) (e0 : Same H0 H1) (e : Same H1 H2) : Fnd K H0 H2 (its ++ its2) (Ws ++ Ws2) R := by
  refine ⟨Paired.app (h.same e).all h2.all, fun x hx => ?_, ?_⟩
  · rcases List.mem_append.mp hx with z | z
    · exact h.new x z
    · exact ⟨e0.free (h2.new x z).1, e0.free (h2.new x z).2⟩
  · rw [List.flatMap_append, List.nodup_append]
    refine ⟨h.nd, h2.nd, fun a ha b hb hab => ?_⟩
    subst hab
    obtain ⟨x, hx, hxa⟩ := List.mem_flatMap.mp ha
    obtain ⟨y, hy, hya⟩ := List.mem_flatMap.mp hb
    have h3 := h.alive x hx
    have h4 := h2.new y hy
    simp only [List.mem_cons, List.not_mem_nil, or_false] at hxa hya
    rcases hya with rfl | rfl <;> rcases hxa with z | z
    · exact h3.1 (z ▸ h4.1)
    · exact h3.2 (z ▸ h4.1)
    · exact h3.1 (z ▸ h4.2)
    · exact h3.2 (z ▸ h4.2)
theorem Two.put {K : PySem.W.Frag} {H : Hp} {t fl pl l : Addr} {F P : List (List Str)} {xs ys : List V} (hl : H l = some (.lst xs)) (h : Two K H t fl pl F P) (n1 : fl ≠ l) (n2 : pl ≠ l) : Two K (upd H l (.lst ys)) t fl pl F P := by
  obtain ⟨as, h1, h2⟩ := h.one
  obtain ⟨bs, h3, h4⟩ := h.two
  exact ⟨sq_put hl h.tup, ⟨as, by rw [upd_ne n1]; exact h1, Paired.mapP h2 fun _ _ z => row_put hl z⟩, ⟨bs, by rw [upd_ne n2]; exact h3, Paired.mapP h4 fun _ _ z => row_put hl z⟩⟩
theorem paired_mapM {α β : Type} {F G : α → β → Prop} : ∀ {l : List α} {m : List β}, Paired F l m → (∀ a ∈ l, ∀ b, F a b → G a b) → Paired G l m
  | _, _, .nil, _ => .nil
  | _, _, .cons h t, k => .cons (k _ (List.mem_cons_self ..) _ h) (paired_mapM t fun a ha b hb => k a (List.mem_cons_of_mem _ ha) b hb)
theorem Fnd.put {K : PySem.W.Frag} {H0 H : Hp} {its : List It3} {Ws : List (List (List Str))} {R : List (List Str)} {l : Addr} {xs ys : List V} (h : Fnd K H0 H its Ws R) (hl : H l = some (.lst xs)) (hn : ∀ x ∈ its, x.2.1 ≠ l ∧ x.2.2 ≠ l) : Fnd K H0 (upd H l (.lst ys)) its Ws R :=
  ⟨paired_mapM h.all fun x hx F z => Two.put hl z (hn x hx).1 (hn x hx).2, h.new, h.nd⟩
noncomputable def partW (F : List (List Str)) (a b : Str) (S : List (Str × Str)) (i : Nat) : List (List (List Str)) := (([("is" : Str), "not"] : List Str).take i).flatMap fun wd => waysR (F ++ [[wd, a, b]]) S
theorem partW_succ {F : List (List Str)} {a b : Str} {S : List (Str × Str)} {i : Nat} {wd : Str} (h : ([("is" : Str), "not"] : List Str)[i]? = some wd) : partW F a b S (i + 1) = partW F a b S i ++ waysR (F ++ [[wd, a, b]]) S := by
  unfold partW
  rw [List.take_add_one, h, List.flatMap_append]
  show _ ++ (List.flatMap _ [wd]) = _
  rw [List.flatMap_cons, List.flatMap_nil, List.append_nil]
theorem partW_len {F : List (List Str)} {a b : Str} {S : List (Str × Str)} (i : Nat) : (partW F a b S i).length ≤ 2 * 2 ^ S.length := by
  have h : ∀ l : List Str, (l.flatMap fun wd => waysR (F ++ [[wd, a, b]]) S).length = l.length * 2 ^ S.length := fun l => by
    induction l with
    | nil => simp
    | cons x l ih => rw [List.flatMap_cons, List.length_append, ih, waysR_len, List.length_cons, Nat.succ_mul, Nat.add_comm]
  unfold partW
  rw [h, List.length_take]
  exact Nat.mul_le_mul_right _ (Nat.min_le_right _ _)
inductive RI (K : PySem.W.Frag) (H H4 : Hp) (t pp fo : Addr) (ot : V) (F : List (List Str)) (a b : Str) (S : List (Str × Str)) (R : List (List Str)) (i : Nat) (σ : St) (H5 : Hp) : Prop
  | mk (its : List It3) (z4 z5 : Option V) (e : Same H H5) (e4 : SameX fo H4 H5) (hf : H5 fo = some (.lst (its.map fun x => V.ref x.1))) (fnd : Fnd K H H5 its (partW F a b S i) R) (ne : ∀ x ∈ its, x.2.1 ≠ fo ∧ x.2.2 ≠ fo) (hs : σ = [some (.ref t), some ot, some (.ref pp), some (.ref fo), z4, z5]) : RI K H H4 t pp fo ot F a b S R i σ H5
inductive spRests (K : PySem.W.Frag) (n : Nat) (vs : List V) (H : Hp) (Q : VK) (E : XK) : Prop
  | mk (t fl pl rl pp : Addr) (ot : V) (F P : List (List Str)) (ks : List Nat) (S : List (Str × Str)) (h0 : vs = [.ref t, ot, .ref pp]) (h1 : Two K H t fl pl F P) (h2 : F.length + S.length ≤ 100) (h3 : P.length ≤ 100) (h4 : NumsAt H rl ks) (h5 : ks.length ≤ 100) (h6 : PapAt K H pp S rl) (h7 : S.length < n)
      (q : ∀ l its H', Same H H' → H l = none → H' l = some (.lst ((its : List It3).map fun x => V.ref x.1)) → Fnd K H H' its (waysR F S) (leftF ks P) → (∀ x ∈ its, x.2.1 ≠ l ∧ x.2.2 ≠ l) → Q (.ref l) H') : spRests K n vs H Q E
section
variable {P : Program} {w : World} {K : PySem.W.Frag} {mg : Str → Option Value} {base : Heap} {f gL : Addr} {fd dL : FuncData}
theorem scRests : FnScope ["one", "other", "paper", "found", "word", "inner"] ["one", "other", "paper"] (defScope sRests) := ⟨rfl, rfl, rfl, by decide +kernel, rfl, by decide +kernel, by decide +kernel⟩
theorem ok_rests0 : FnOk P w K mg base CX0 1 f fd ["one", "other", "paper"] (spRests K 0) :=
  ⟨fun vs H Q E h => by obtain ⟨t, fl, pl, rl, pp, ot, F, P, ks, S, _, _, _, _, _, _, _, h7, _⟩ := h; exact absurd h7 (Nat.not_lt_zero _),
   fun A outer s H args us vs Q E _ _ _ _ h => by obtain ⟨t, fl, pl, rl, pp, ot, F, P, ks, S, _, _, _, _, _, _, _, h7, _⟩ := h; exact absurd h7 (Nat.not_lt_zero _)⟩
theorem ok_restsS {n : Nat} (hn : n ≤ 5) (C : Con K mg w) (F : Fun K "rests" "rests" sRests f fd) (GL : FnOk P w K mg base CX0 1 gL dL ["one", "rows"] (spLeft K)) (cL : Cal K mg "left_by" gL dL ["one", "rows"])
    (GR : FnOk P w K mg base CX0 (n + 1) f fd ["one", "other", "paper"] (spRests K n)) (cR : Cal K mg "rests" f fd ["one", "other", "paper"]) : FnOk P w K mg base CX0 (n + 1 + 1) f fd ["one", "other", "paper"] (spRests K (n + 1)) := by
  refine F.okQ scRests (fun vs H Q E h => ?_) (fun cdv A outer s0 H vs Q E hr h => ?_)
  · obtain ⟨t, fl, pl, rl, pp, ot, F, P, ks, S, rfl, _⟩ := h; rfl
  obtain ⟨t, fl, pl, rl, pp, ot, Fs, Ps, ks, S, rfl, hT, hF, hP, hR, hk, hpap, hSn, q⟩ := h
  have nd := scRests.nd
  have hr1 := hr.mono (j := 1) (by lia)
  refine ⟨_, qb_cons (qs_if (qt_cmpR op_eq (qe_ix ix_tup (qv 2) qe_int (fun _ _ => rfl)) qe_str (nomark _)) (qb_one (qs_ret (qe_lst (qa_call (qe_call GL hr1 rfl cL.name cL.keep cL.bind .nil pass0 (qa_nm (qv 0) (qa_sub (qe_ix ix_tup (qv 2) qe_int (fun _ _ => rfl)) qa_nil))) qa_nil)))) qb_nil)
    (qb_cons (qs_set (i := 3) nd rfl (Or.inl rfl) (qe_lst qa_nil))
    (qb_cons (qs_if (qt_cmpR op_eq (qe_ix ix_tup (qv 2) qe_int (fun _ _ => rfl)) qe_str (nomark _)) (qb_one (qs_for PassesOwn.never rfl (qi_tup (qe_tup (qa_tp (qa_str (qa_sub (qe_ix ix_tup (qv 2) qe_int (fun _ _ => rfl)) qa_nil)) (qa_tp (qa_str (qa_sub (qe_ix ix_tup (qv 2) qe_int (fun _ _ => rfl)) qa_nil)) qa_nil)))) (qg_tup2 (qg_name (i := 4) nd rfl (Or.inl rfl)) (qg_name (i := 5) nd rfl (Or.inl rfl))) (qb_one (qs_expr (qe_bmK (K := K) rfl PySem.F.plainAttrs_list PySem.F.slot_list_extend PySem.F.type_list_extend mt_extend (qv 3) (qa_call (qe_call GR hr rfl cR.name cR.keep cR.bind .nil pass0 (qa_tp (qa_bop (qe_op op_cat (qe_ix ix_tup (qv 0) qe_int (fun _ _ => rfl)) (qe_lst (qa_tp (qa_nm (qv 4) (qa_sub (qe_ix ix_tup (qv 2) qe_int (fun _ _ => rfl)) (qa_sub (qe_ix ix_tup (qv 2) qe_int (fun _ _ => rfl)) qa_nil))) qa_nil))) (qa_sub (qe_ix ix_tup (qv 0) qe_int (fun _ _ => rfl)) qa_nil)) (qa_nm (qv 1) (qa_nm (qv 5) qa_nil)))) qa_nil)))))) qb_nil)
    (qb_one (qs_ret (qv 3))))), ?_⟩
  cases S with
  | nil =>
    have hpap' : SqT K H pp [.str "cover", .ref rl] := hpap
    refine ⟨_, rfl, pp, _, 0, _, rfl, rfl, hpap', rfl, rfl, _, rfl, iteB (fun c => ?_) (fun c => absurd c (by decide))⟩
    refine ⟨_, rfl, _, rfl, pp, _, 1, _, rfl, rfl, hpap', rfl, ?_⟩
    refine ⟨t, fl, pl, rl, Fs, Ps, ks, rfl, hT, by simpa using hF, hP, hR, hk, fun u fa pa H1 e1 hu hfa hpa hne hu1 hf1 hp1 => ?_⟩
    refine ⟨(show 1 ≤ sizeLine by decide), fun l hl => ?_⟩
    have s2 := same_new hl (.lst [.ref u])
    obtain ⟨_, hf1a, _⟩ := id hf1
    obtain ⟨_, hp1a, _⟩ := id hp1
    refine q l [(u, fa, pa)] _ (e1.trans s2) (e1.free hl) upd_same ⟨.cons ⟨SqT.of (s2 _ _ hu1), hf1.same s2, hp1.same s2⟩ .nil, fun x hx => ?_, ?_⟩ fun x hx => ?_
    · rw [List.mem_singleton.mp hx]; exact ⟨hfa, hpa⟩
    · show ([fa, pa] : List Addr).Nodup
      exact List.nodup_cons.mpr ⟨fun z => hne (List.mem_singleton.mp z), List.nodup_cons.mpr ⟨(fun z => by cases z), List.nodup_nil⟩⟩
    · rw [List.mem_singleton.mp hx]; exact ⟨ne_of_none hf1a hl, ne_of_none hp1a hl⟩
  | cons sp S =>
    obtain ⟨a, b⟩ := sp
    obtain ⟨qq, hpap1, hpap2⟩ := id hpap
    refine ⟨_, rfl, pp, _, 0, _, rfl, rfl, hpap1, rfl, rfl, _, rfl, iteB (fun c => absurd c (by decide +kernel)) (fun c => ?_)⟩
    refine ⟨Nat.zero_le _, fun fo hfo => ?_⟩
    have s1 := same_new hfo (.lst [])
    have hfo1 : (upd H fo (.lst [])) fo = some (.lst []) := upd_same
    show tSeq _ _ _ _ (upd H fo (.lst []))
    generalize upd H fo (.lst []) = H1 at s1 hfo1 ⊢
    refine ⟨_, rfl, pp, _, 0, _, rfl, rfl, s1.seqT hpap1, rfl, rfl, _, rfl, iteB (fun c => ?_) (fun c => absurd c (by decide +kernel))⟩
    refine ⟨_, rfl, pp, _, 3, _, rfl, rfl, s1.seqT hpap1, rfl, (show 2 ≤ sizeLine by decide), fun t1 ht1 => ?_⟩
    have s2 := same_new ht1 (.tup [.str "is", .ref qq])
    have ht1' : (upd H1 t1 (.tup [.str "is", .ref qq])) t1 = some (.tup [.str "is", .ref qq]) := upd_same
    generalize upd H1 t1 (.tup [.str "is", .ref qq]) = H2 at s2 ht1' ⊢
    refine ⟨_, rfl, pp, _, 4, _, rfl, rfl, (s1.trans s2).seqT hpap1, rfl, (show 2 ≤ sizeLine by decide), fun t2 ht2 => ?_⟩
    have s3 := same_new ht2 (.tup [.str "not", .ref qq])
    have ht2' : (upd H2 t2 (.tup [.str "not", .ref qq])) t2 = some (.tup [.str "not", .ref qq]) := upd_same
    generalize upd H2 t2 (.tup [.str "not", .ref qq]) = H3 at s3 ht2' ⊢
    refine ⟨(show 2 ≤ sizeLine by decide), fun t0 ht0 => ?_⟩
    have s4 := same_new ht0 (.tup [.ref t1, .ref t2])
    have ht0' : (upd H3 t0 (.tup [.ref t1, .ref t2])) t0 = some (.tup [.ref t1, .ref t2]) := upd_same
    generalize upd H3 t0 (.tup [.ref t1, .ref t2]) = H4 at s4 ht0' ⊢
    have e4 : Same H H4 := ((s1.trans s2).trans s3).trans s4
    have hfo4 := ((s2.trans s3).trans s4) _ _ hfo1
    have ht14 := (s3.trans s4) _ _ ht1'
    have ht24 := s4 _ _ ht2'
    clear s1 s2 s3 s4 hfo1 ht1' ht2' ht0 ht1 ht2
    have ho0 : ∀ {b : Addr} {xs : List V} {H5 : Hp}, SameX fo H4 H5 → H4 b = some (.tup xs) → H5 b = some (.tup xs) := fun {b xs H5} e h => e _ _ h (fun z => by rw [z, hfo4] at h; cases h)
    refine ⟨t0, rfl, ⟨_, SqT.of ht0'⟩, ?_⟩
    refine for_tup (xs := [.ref t1, .ref t2]) (RI K H H4 t pp fo ot Fs a b S (leftF ks Ps)) ⟨[], none, none, e4, fun _ _ h _ => h, hfo4, Fnd.nil, (fun x hx => by cases hx), rfl⟩ (fun i σ H5 _ h => by obtain ⟨its, z4, z5, _, e, _⟩ := h; exact SqT.of (ho0 e ht0')) ?_ ?_
    · rintro i x σ H5 hx ⟨its, z4, z5, e5, e45, hfo5, fnd5, ne5, rfl⟩
      obtain ⟨wd, ti, hwd, rfl, hti⟩ : ∃ (wd : Str) (ti : Addr), ([("is" : Str), "not"] : List Str)[i]? = some wd ∧ x = .ref ti ∧ H5 ti = some (.tup [.str wd, .ref qq]) := by
        match i, hx with
        | 0, hx => cases hx; exact ⟨_, t1, rfl, rfl, ho0 e45 ht14⟩
        | 1, hx => cases hx; exact ⟨_, t2, rfl, rfl, ho0 e45 ht24⟩
      refine ⟨ti, _, rfl, SqT.of hti, rfl, _, _, rfl, _, _, rfl, rfl, ?_⟩
      have hT5 := hT.same e5
      have hp5 := e5.seqT hpap1
      obtain ⟨fas, hfa5, hfp5⟩ := id hT5.one
      have hfl := Paired.length hfp5
      refine ⟨_, rfl, (.inl ⟨rfl, _, SqL.of hfo5⟩), ?_⟩
      refine ⟨_, rfl, t, _, 0, _, rfl, rfl, hT5.tup, rfl, _, rfl, _, rfl, pp, _, 1, _, rfl, rfl, hp5, rfl, _, rfl, pp, _, 2, _, rfl, rfl, hp5, rfl, (show 3 ≤ sizeLine by decide), fun r1 hr1 => ?_⟩
      have s1 := same_new hr1 (.tup [.str wd, .str a, .str b])
      have hr1' : (upd H5 r1 (.tup [.str wd, .str a, .str b])) r1 = some (.tup [.str wd, .str a, .str b]) := upd_same
      generalize upd H5 r1 (.tup [.str wd, .str a, .str b]) = H6 at s1 hr1' ⊢
      refine ⟨(show 1 ≤ sizeLine by decide), fun l1 hl1 => ?_⟩
      have s2 := same_new hl1 (.lst [.ref r1])
      have hl1' : (upd H6 l1 (.lst [.ref r1])) l1 = some (.lst [.ref r1]) := upd_same
      generalize upd H6 l1 (.lst [.ref r1]) = H7 at s2 hl1' ⊢
      refine ⟨fl, l1, _, _, rfl, rfl, (s1.trans s2) _ _ hfa5, hl1', le_line (by rw [List.length_map]; show _ + 1 ≤ 1000; lia), fun c hc => ?_⟩
      have s3 := same_new hc (.lst (fas.map V.ref ++ [.ref r1]))
      have hc' : (upd H7 c (.lst (fas.map V.ref ++ [.ref r1]))) c = some (.lst ((fas ++ [r1]).map V.ref)) := by rw [upd_same, List.map_append]; rfl
      generalize upd H7 c (.lst (fas.map V.ref ++ [.ref r1])) = H8 at s3 hc' ⊢
      have s13 := (s1.trans s2).trans s3
      refine ⟨_, rfl, t, _, 1, _, rfl, rfl, s13.seqT hT5.tup, rfl, (show 2 ≤ sizeLine by decide), fun o ho => ?_⟩
      have s4 := same_new ho (.tup [.ref c, .ref pl])
      have ho' : (upd H8 o (.tup [.ref c, .ref pl])) o = some (.tup [.ref c, .ref pl]) := upd_same
      generalize upd H8 o (.tup [.ref c, .ref pl]) = H9 at s4 ho' ⊢
      have s14 := s13.trans s4
      have e9 := e5.trans s14
      refine ⟨_, rfl, _, rfl, ?_⟩
      refine ⟨o, c, pl, rl, qq, ot, Fs ++ [[wd, a, b]], Ps, ks, S, rfl, ⟨SqT.of ho', ⟨fas ++ [r1], s4 _ _ hc', Paired.app (Paired.mapP hfp5 fun _ _ z => RowAt.same z s14) (.cons (SqT.of (((s2.trans s3).trans s4) _ _ hr1')) .nil)⟩, hT.two.same e9⟩, ?_, hP, hR.same e9, hk, hpap2.same e9, ?_, fun l its2 H10 e10 hl10 hl10' fnd10 _ => ?_⟩
      · rw [List.length_append, List.length_singleton]
        rw [List.length_cons] at hF
        lia
      · rw [List.length_cons] at hSn
        lia
      have e510 := s14.trans e10
      have hfo10 := e510 _ _ hfo5
      have hS5 : 2 ^ S.length ≤ 2 ^ 5 := Nat.pow_le_pow_right (by decide) (by rw [List.length_cons] at hSn; lia)
      have hl5 := Paired.length fnd5.all
      have hl10a := Paired.length fnd10.all
      rw [waysR_len] at hl10a
      have hpl := partW_len (F := Fs) (a := a) (b := b) (S := S) i
      refine ⟨fo, l, _, _, rfl, rfl, hfo10, hl10', le_line (by rw [List.length_map, List.length_map]; lia), ?_⟩
      have ne10 : ∀ x ∈ its2, x.2.1 ≠ fo ∧ x.2.2 ≠ fo := fun x hx => ⟨(fun z => by have := (fnd10.new x hx).1; rw [z, s14 _ _ hfo5] at this; cases this), (fun z => by have := (fnd10.new x hx).2; rw [z, s14 _ _ hfo5] at this; cases this)⟩
      have ne' : ∀ x ∈ its ++ its2, x.2.1 ≠ fo ∧ x.2.2 ≠ fo := fun x hx => by
        rcases List.mem_append.mp hx with z | z
        · exact ne5 x z
        · exact ne10 x z
      refine ⟨its ++ its2, _, _, fun b' u h => ?_, fun b' u h hne => ?_, ?_, ?_, ne', rfl⟩
      · rw [upd_ne (ne_of_none h hfo)]; exact e510 _ _ (e5 _ _ h)
      · rw [upd_ne hne]; exact e510 _ _ (e45 _ _ h hne)
      · rw [upd_same, List.map_append]
      · rw [partW_succ hwd]
        exact ((fnd5.same s14).app fnd10 (e5.trans s14) e10).put hfo10 ne'
    · rintro σ H5 ⟨its, z4, z5, e5, e45, hfo5, fnd5, ne5, rfl⟩
      have ew : partW Fs a b S ([V.ref t1, V.ref t2] : List V).length = waysR Fs ((a, b) :: S) := by
        show (waysR _ S ++ (waysR _ S ++ [])) = _
        rw [List.append_nil]; rfl
      rw [ew] at fnd5
      exact ⟨_, rfl, q fo its H5 e5 hfo hfo5 fnd5 ne5⟩
end
end K30
namespace K30
open PySem PySem.Spec L2 Mir Kn
noncomputable abbrev sPaper : Stmt := top 8
noncomputable abbrev sWays : Stmt := top 9
noncomputable def pr (s : Str × Str) : List Str := [s.1, s.2]
inductive spPaper (K : PySem.W.Frag) (vs : List V) (H : Hp) (Q : VK) (E : XK) : Prop
  | mk (sl rl : Addr) (S : List (Str × Str)) (h0 : vs = [.ref sl, .ref rl]) (h1 : RowsAt K H sl (S.map pr)) (q : ∀ p H', Same H H' → PapAt K H' p S rl → Q (.ref p) H') : spPaper K vs H Q E
theorem rev_take {α : Type} {l : List α} {i : Nat} {x : α} (h : l.reverse[i]? = some x) : (l.reverse.take (i + 1)).reverse = x :: (l.reverse.take i).reverse := by
  rw [List.take_add_one, h, List.reverse_append]; rfl
section
variable {P : Program} {w : World} {K : PySem.W.Frag} {mg : Str → Option Value} {base : Heap} {f : Addr} {fd : FuncData}
theorem scPaper : FnScope ["_law_splits", "_law_rows", "_law_paper_here", "_law_a", "_law_b"] ["_law_splits", "_law_rows"] (defScope sPaper) := ⟨rfl, rfl, rfl, by decide +kernel, rfl, by decide +kernel, by decide +kernel⟩
theorem paired_rev {α β : Type} {F : α → β → Prop} : ∀ {l : List α} {m : List β}, Paired F l m → Paired F l.reverse m.reverse
  | _, _, .nil => .nil
  | _, _, .cons h t => by rw [List.reverse_cons, List.reverse_cons]; exact Paired.app (paired_rev t) (.cons h .nil)
theorem ok_paper (F : Fun K "_law_paper" "_law_paper" sPaper f fd) : FnOk P w K mg base CX0 1 f fd ["_law_splits", "_law_rows"] (spPaper K) := by
  refine F.okQ scPaper (fun vs H Q E h => ?_) (fun cdv A outer s0 H vs Q E hr h => ?_)
  · obtain ⟨sl, rl, S, rfl, _⟩ := h; rfl
  obtain ⟨sl, rl, S, rfl, hS, q⟩ := h
  have nd := scPaper.nd
  refine ⟨_, qb_cons (qs_set (i := 2) nd rfl (Or.inl rfl) (qe_tup (qa_str (qa_nm (qv 1) qa_nil))))
    (qb_cons (qs_for PassesOwn.never rfl (qi_list (qe_rev (qv 0))) (qg_tup2 (qg_name (i := 3) nd rfl (Or.inl rfl)) (qg_name (i := 4) nd rfl (Or.inl rfl))) (qb_one (qs_set (i := 2) nd rfl (Or.inl rfl) (qe_tup (qa_str (qa_nm (qv 3) (qa_nm (qv 4) (qa_nm (qv 2) (qa_nm (qv 2) qa_nil)))))))))
    (qb_one (qs_ret (qv 2)))), ?_⟩
  refine ⟨_, rfl, (show 2 ≤ sizeLine by decide), fun p0 hp0 => ?_⟩
  have s1 := same_new hp0 (.tup [.str "cover", .ref rl])
  have hp1 : (upd H p0 (.tup [.str "cover", .ref rl])) p0 = some (.tup [.str "cover", .ref rl]) := upd_same
  show tSeq _ _ _ _ (upd H p0 (.tup [.str "cover", .ref rl]))
  generalize upd H p0 (.tup [.str "cover", .ref rl]) = H1 at s1 hp1 ⊢
  obtain ⟨as, hsl, hsp⟩ := hS
  refine ⟨_, rfl, sl, _, rfl, SqL.of (s1 _ _ hsl), fun rv hrv => ?_⟩
  have s2 := same_new hrv (.lst (as.map V.ref).reverse)
  have hrv2 : (upd H1 rv (.lst (as.map V.ref).reverse)) rv = some (.lst (as.reverse.map V.ref)) := by rw [upd_same, List.map_reverse]
  generalize upd H1 rv (.lst (as.map V.ref).reverse) = H2 at s2 hrv2 ⊢
  have e2 := s1.trans s2
  refine ⟨rv, rfl, ⟨_, SqL.of hrv2⟩, ?_⟩
  have hsp2 : Paired (fun b r => RowAt K H2 b r) as.reverse (S.map pr).reverse := paired_rev (Paired.mapP hsp fun _ _ z => RowAt.same z e2)
  refine for_list (xs := as.reverse.map V.ref) (fun i σ H3 => Same H2 H3 ∧ ∃ (p : Addr) (z3 z4 : Option V), PapAt K H3 p ((S.reverse.take i).reverse) rl ∧ σ = [some (.ref sl), some (.ref rl), some (.ref p), z3, z4])
    ⟨Same.refl _, p0, none, none, SqT.of (s2 _ _ hp1), rfl⟩ (fun i σ H3 _ h => SqL.of (h.1 _ _ hrv2)) ?_ ?_
  · rintro i x σ H3 hx ⟨e3, p, z3, z4, hpap, rfl⟩
    obtain ⟨b, hb, rfl⟩ := ref_at hx
    obtain ⟨r, hr', hbr⟩ := Paired.nth hsp2 hb
    rw [← List.map_reverse, List.getElem?_map] at hr'
    cases hs : S.reverse[i]? with
    | none => rw [hs] at hr'; cases hr'
    | some s =>
      rw [hs] at hr'
      obtain rfl : pr s = r := Option.some.inj hr'
      have hbr3 : SqT K H3 b [.str s.1, .str s.2] := RowAt.same hbr e3
      refine ⟨b, _, rfl, hbr3, rfl, _, _, rfl, _, _, rfl, rfl, ?_⟩
      refine ⟨_, rfl, _, rfl, _, rfl, _, rfl, (show 5 ≤ sizeLine by decide), fun u hu => ?_⟩
      have s4 := same_new hu (.tup [.str "split", .str s.1, .str s.2, .ref p, .ref p])
      refine ⟨e3.trans s4, u, _, _, ?_, rfl⟩
      rw [rev_take hs]
      exact ⟨p, SqT.of upd_same, hpap.same s4⟩
  · rintro σ H3 ⟨e3, p, z3, z4, hpap, rfl⟩
    have hl := Paired.length hsp
    rw [List.length_map] at hl
    rw [List.length_map, List.length_reverse, hl, List.take_of_length_le (by rw [List.length_reverse]; exact Nat.le_refl _), List.reverse_reverse] at hpap
    exact ⟨_, rfl, q p H3 (e2.trans e3) hpap⟩
end
noncomputable def stepW (s : Str × Str) (W : List (List (List Str))) : List (List (List Str)) := W.flatMap fun F => [F ++ [[("is" : Str), s.1, s.2]], F ++ [[("not" : Str), s.1, s.2]]]
noncomputable def waysL (W : List (List (List Str))) (S : List (Str × Str)) : List (List (List Str)) := S.foldl (fun W s => stepW s W) W
theorem waysL_R : ∀ (S : List (Str × Str)) (W : List (List (List Str))), waysL W S = W.flatMap fun F => waysR F S
  | [], W => by
    show W = _
    induction W with
    | nil => rfl
    | cons x W ih => rw [List.flatMap_cons, ← ih]; rfl
  | s :: S, W => by
    show waysL (stepW s W) S = _
    rw [waysL_R S]
    unfold stepW
    rw [List.flatMap_assoc]
    congr 1
    funext F
    rw [List.flatMap_cons, List.flatMap_cons, List.flatMap_nil, List.append_nil]; rfl
theorem waysL_snoc (W : List (List (List Str))) (S : List (Str × Str)) (s : Str × Str) : waysL W (S ++ [s]) = stepW s (waysL W S) := by unfold waysL; rw [List.foldl_append]; rfl
theorem stepW_len (s : Str × Str) : ∀ W : List (List (List Str)), (stepW s W).length = 2 * W.length
  | [] => rfl
  | x :: W => by
    have ih := stepW_len s W
    unfold stepW at ih ⊢
    rw [List.flatMap_cons, List.length_append, ih]
    have e : (x :: W).length = W.length + 1 := rfl
    rw [e]
    show 2 + _ = _
    lia
theorem waysR_size : ∀ (S : List (Str × Str)) (F W : List (List Str)), W ∈ waysR F S → W.length = F.length + S.length
  | [], F, W, h => by rw [List.mem_singleton.mp h]; rfl
  | s :: S, F, W, h => by
    rcases List.mem_append.mp h with z | z
    · rw [waysR_size S _ W z]; simp only [List.length_append, List.length_cons, List.length_nil]; lia
    · rw [waysR_size S _ W z]; simp only [List.length_append, List.length_cons, List.length_nil]; lia
theorem waysL_one (F : List (List Str)) (S : List (Str × Str)) : waysL [F] S = waysR F S := by rw [waysL_R, List.flatMap_cons, List.flatMap_nil, List.append_nil]
noncomputable def RssAt (K : PySem.W.Frag) (H : Hp) (l : Addr) (Ws : List (List (List Str))) : Prop := ∃ ms : List Addr, H l = some (.lst (ms.map V.ref)) ∧ Paired (fun b W => RowsAt K H b W) ms Ws ∧ ∀ b ∈ ms, b ≠ l
theorem rows_put {K : PySem.W.Frag} {H : Hp} {l b : Addr} {xs ys : List V} {W : List (List Str)} (hl : H l = some (.lst xs)) (h : RowsAt K H b W) (hne : b ≠ l) : RowsAt K (upd H l (.lst ys)) b W := by
  obtain ⟨as, h1, h2⟩ := h
  exact ⟨as, by rw [upd_ne hne]; exact h1, Paired.mapP h2 fun _ _ z => row_put hl z⟩
theorem RssAt.app {K : PySem.W.Frag} {H : Hp} {l b : Addr} {Ws : List (List (List Str))} {W : List (List Str)} {ms : List Addr} (h1 : H l = some (.lst (ms.map V.ref))) (h2 : Paired (fun b W => RowsAt K H b W) ms Ws) (h3 : ∀ b ∈ ms, b ≠ l) (hb : RowsAt K H b W) (hne : b ≠ l) : RssAt K (upd H l (.lst (ms.map V.ref ++ [.ref b]))) l (Ws ++ [W]) := by
  refine ⟨ms ++ [b], by rw [upd_same, List.map_append]; rfl, Paired.app (paired_mapM h2 fun x hx _ z => rows_put h1 z (h3 x hx)) (.cons (rows_put h1 hb hne) .nil), fun x hx => ?_⟩
  rcases List.mem_append.mp hx with z | z
  · exact h3 x z
  · rw [List.mem_singleton.mp z]; exact hne
inductive spWays (K : PySem.W.Frag) (vs : List V) (H : Hp) (Q : VK) (E : XK) : Prop
  | mk (fl sl : Addr) (F : List (List Str)) (S : List (Str × Str)) (h0 : vs = [.ref fl, .ref sl]) (h1 : RowsAt K H fl F) (h2 : F.length ≤ 100) (h3 : RowsAt K H sl (S.map pr)) (h4 : S.length ≤ 5) (q : ∀ l H', Same H H' → RssAt K H' l (waysR F S) → Q (.ref l) H') : spWays K vs H Q E
inductive WO (K : PySem.W.Frag) (H : Hp) (fl sl : Addr) (Ws : List (List (List Str))) (σ : St) (H3 : Hp) : Prop
  | mk (wl : Addr) (z3 z4 z5 z6 : Option V) (e : Same H H3) (h : RssAt K H3 wl Ws) (hs : σ = [some (.ref fl), some (.ref sl), some (.ref wl), z3, z4, z5, z6]) : WO K H fl sl Ws σ H3
inductive WI (K : PySem.W.Frag) (H3 : Hp) (fl sl wl mo : Addr) (a b : Str) (Ws : List (List (List Str))) (σ : St) (H4 : Hp) : Prop
  | mk (z6 : Option V) (e : Same H3 H4) (h : RssAt K H4 mo Ws) (hs : σ = [some (.ref fl), some (.ref sl), some (.ref wl), some (.str a), some (.str b), some (.ref mo), z6]) : WI K H3 fl sl wl mo a b Ws σ H4
section
variable {P : Program} {w : World} {K : PySem.W.Frag} {mg : Str → Option Value} {base : Heap} {f : Addr} {fd : FuncData}
theorem scWays : FnScope ["_law_facts", "_law_splits", "_law_ways_here", "_law_a", "_law_b", "_law_more", "_law_way"] ["_law_facts", "_law_splits"] (defScope sWays) := ⟨rfl, rfl, rfl, by decide +kernel, rfl, by decide +kernel, by decide +kernel⟩
theorem ok_ways (C : Con K mg w) (F : Fun K "_law_ways" "_law_ways" sWays f fd) : FnOk P w K mg base CX0 1 f fd ["_law_facts", "_law_splits"] (spWays K) := by
  refine F.okQ scWays (fun vs H Q E h => ?_) (fun cdv A outer s0 H vs Q E hr h => ?_)
  · obtain ⟨fl, sl, F, S, rfl, _⟩ := h; rfl
  obtain ⟨fl, sl, Fs, S, rfl, hF, hF10, hS, hS5, q⟩ := h
  have nd := scWays.nd
  refine ⟨_, qb_cons (qs_set (i := 2) nd rfl (Or.inl rfl) (qe_lst (qa_call (qe_callTy call_list_of rfl C.list PyProof.Rows.boot_list (qa_nm (qv 0) qa_nil)) qa_nil)))
    (qb_cons (qs_for PassesOwn.never rfl (qi_list (qv 1)) (qg_tup2 (qg_name (i := 3) nd rfl (Or.inl rfl)) (qg_name (i := 4) nd rfl (Or.inl rfl))) (qb_cons (qs_set (i := 5) nd rfl (Or.inl rfl) (qe_lst qa_nil))
    (qb_cons (qs_for PassesOwn.never rfl (qi_list (qv 2)) (qg_name (i := 6) nd rfl (Or.inl rfl)) (qb_cons (qs_expr (qe_bmK (K := K) rfl PySem.F.plainAttrs_list PySem.F.slot_list_append PySem.F.type_list_append mt_append (qv 5) (qa_bop (qe_op op_cat (qv 6) (qe_lst (qa_tp (qa_str (qa_nm (qv 3) (qa_nm (qv 4) qa_nil))) qa_nil))) qa_nil)))
    (qb_one (qs_expr (qe_bmK (K := K) rfl PySem.F.plainAttrs_list PySem.F.slot_list_append PySem.F.type_list_append mt_append (qv 5) (qa_bop (qe_op op_cat (qv 6) (qe_lst (qa_tp (qa_str (qa_nm (qv 3) (qa_nm (qv 4) qa_nil))) qa_nil))) qa_nil))))))
    (qb_one (qs_set (i := 2) nd rfl (Or.inl rfl) (qv 5))))))
    (qb_one (qs_ret (qv 2)))), ?_⟩
  obtain ⟨fas, hfl, hfp⟩ := id hF
  refine ⟨_, rfl, fl, _, rfl, .inl (SqL.of hfl), fun c hc => ?_⟩
  have s1 := same_new hc (.lst (fas.map V.ref))
  have hc1 : (upd H c (.lst (fas.map V.ref))) c = some (.lst (fas.map V.ref)) := upd_same
  generalize upd H c (.lst (fas.map V.ref)) = H1 at s1 hc1 ⊢
  refine ⟨(show 1 ≤ sizeLine by decide), fun wl hwl => ?_⟩
  have s2 := same_new hwl (.lst [.ref c])
  have hwl2 : (upd H1 wl (.lst [.ref c])) wl = some (.lst [.ref c]) := upd_same
  have hcw : c ≠ wl := ne_of_none hc1 hwl
  show tSeq _ _ _ _ (upd H1 wl (.lst [.ref c]))
  generalize upd H1 wl (.lst [.ref c]) = H2 at s2 hwl2 ⊢
  have e2 := s1.trans s2
  have hR2 : RssAt K H2 wl [Fs] := ⟨[c], hwl2, .cons ⟨fas, s2 _ _ hc1, Paired.mapP hfp fun _ _ z => RowAt.same z e2⟩ .nil, fun x hx => by rw [List.mem_singleton.mp hx]; exact hcw⟩
  obtain ⟨as, hsl, hsp⟩ := hS
  have hsl2 := Paired.length hsp
  rw [List.length_map] at hsl2
  refine ⟨_, rfl, sl, rfl, ⟨_, SqL.of (e2 _ _ hsl)⟩, ?_⟩
  refine for_list (xs := as.map V.ref) (fun i σ H3 => WO K H fl sl (waysL [Fs] (S.take i)) σ H3) ⟨wl, none, none, none, none, e2, hR2, rfl⟩ (fun i σ H3 _ h => by obtain ⟨_, _, _, _, _, e, _⟩ := h; exact SqL.of (e _ _ hsl)) ?_ ?_
  · rintro i x σ H3 hx ⟨wl, z3, z4, z5, z6, e3, hR3, rfl⟩
    obtain ⟨b, hb, rfl⟩ := ref_at hx
    obtain ⟨r, hr', hbr⟩ := Paired.nth hsp hb
    rw [List.getElem?_map] at hr'
    cases hs : S[i]? with
    | none => rw [hs] at hr'; cases hr'
    | some s =>
      rw [hs] at hr'
      obtain rfl : pr s = r := Option.some.inj hr'
      have hbr3 : SqT K H3 b [.str s.1, .str s.2] := RowAt.same hbr e3
      refine ⟨b, _, rfl, hbr3, rfl, _, _, rfl, _, _, rfl, rfl, ?_⟩
      have hi := (List.getElem?_eq_some_iff.mp hs).1
      have hWl := waysL_one Fs (S.take i)
      have hlen : (waysL [Fs] (S.take i)).length ≤ 2 ^ 5 := by
        rw [hWl, waysR_len]
        exact Nat.pow_le_pow_right (by decide) (by rw [List.length_take]; lia)
      have hsz : ∀ W ∈ waysL [Fs] (S.take i), W.length ≤ 105 := fun W hW => by
        rw [hWl] at hW
        rw [waysR_size _ _ _ hW, List.length_take]; lia
      have esn : waysL [Fs] (S.take (i + 1)) = stepW s (waysL [Fs] (S.take i)) := by rw [List.take_add_one, hs]; exact waysL_snoc _ _ _
      rw [esn]
      generalize waysL [Fs] (S.take i) = Ws at hlen hsz hR3 ⊢
      refine ⟨Nat.zero_le _, fun mo hmo => ?_⟩
      have s4 := same_new hmo (.lst [])
      have hmo4 : (upd H3 mo (.lst [])) mo = some (.lst []) := upd_same
      show tSeq _ _ _ _ (upd H3 mo (.lst []))
      generalize upd H3 mo (.lst []) = H4 at s4 hmo4 ⊢
      obtain ⟨wls, hwl3, hwp3, hwn3⟩ := hR3
      have hwl := Paired.length hwp3
      refine ⟨_, rfl, wl, rfl, ⟨_, SqL.of (s4 _ _ hwl3)⟩, ?_⟩
      refine for_list (xs := wls.map V.ref) (fun j σ H5 => WI K H3 fl sl wl mo s.1 s.2 (stepW s (Ws.take j)) σ H5) ⟨z6, s4, ⟨[], hmo4, .nil, fun x hx => by cases hx⟩, rfl⟩ (fun j σ H5 _ h => by obtain ⟨_, e, _⟩ := h; exact SqL.of (e _ _ hwl3)) ?_ ?_
      · rintro j x σ H5 hx ⟨z6, e5, ⟨ms, hmo5, hmp5, hmn5⟩, rfl⟩
        obtain ⟨v, hv, rfl⟩ := ref_at hx
        obtain ⟨W, hW, hvW⟩ := Paired.nth hwp3 hv
        have hj := (List.getElem?_eq_some_iff.mp hW).1
        have hW105 := hsz W (List.mem_of_getElem? hW)
        have hml := Paired.length hmp5
        rw [stepW_len, List.length_take] at hml
        have est : stepW s (Ws.take (j + 1)) = (stepW s (Ws.take j) ++ [W ++ [[("is" : Str), s.1, s.2]]]) ++ [W ++ [[("not" : Str), s.1, s.2]]] := by
          rw [List.take_add_one, hW]
          unfold stepW
          rw [List.flatMap_append, List.append_assoc]
          rfl
        rw [est]
        generalize stepW s (Ws.take j) = Ms at hmp5 hml ⊢
        have hMs := Paired.length hmp5
        obtain ⟨vas, hva, hvp⟩ := RowsAt.same hvW e5
        have hvl := Paired.length hvp
        obtain ⟨_, hv3, _⟩ := id hvW
        have hvm : v ≠ mo := ne_of_none hv3 hmo
        refine ⟨_, rfl, (.inl ⟨rfl, _, SqL.of hmo5⟩), _, rfl, _, rfl, _, rfl, (show 3 ≤ sizeLine by decide), fun r1 hr1 => ?_⟩
        have t1 := same_new hr1 (.tup [.str "is", .str s.1, .str s.2])
        have hr1' : (upd H5 r1 (.tup [.str "is", .str s.1, .str s.2])) r1 = some (.tup [.str "is", .str s.1, .str s.2]) := upd_same
        generalize upd H5 r1 (.tup [.str "is", .str s.1, .str s.2]) = H6 at t1 hr1' ⊢
        refine ⟨(show 1 ≤ sizeLine by decide), fun l1 hl1 => ?_⟩
        have t2 := same_new hl1 (.lst [.ref r1])
        have hl1' : (upd H6 l1 (.lst [.ref r1])) l1 = some (.lst [.ref r1]) := upd_same
        generalize upd H6 l1 (.lst [.ref r1]) = H7 at t2 hl1' ⊢
        refine ⟨v, l1, _, _, rfl, rfl, (t1.trans t2) _ _ hva, hl1', le_line (by rw [List.length_map]; show _ + 1 ≤ 1000; lia), fun n1 hn1 => ?_⟩
        have t3 := same_new hn1 (.lst (vas.map V.ref ++ [.ref r1]))
        have hn1' : (upd H7 n1 (.lst (vas.map V.ref ++ [.ref r1]))) n1 = some (.lst ((vas ++ [r1]).map V.ref)) := by rw [upd_same, List.map_append]; rfl
        generalize upd H7 n1 (.lst (vas.map V.ref ++ [.ref r1])) = H8 at t3 hn1' ⊢
        have t13 := (t1.trans t2).trans t3
        have hmo8 := t13 _ _ hmo5
        have hN1 : RowsAt K H8 n1 (W ++ [[("is" : Str), s.1, s.2]]) := ⟨vas ++ [r1], hn1', Paired.app (Paired.mapP hvp fun _ _ z => RowAt.same z t13) (.cons (SqT.of ((t2.trans t3) _ _ hr1')) .nil)⟩
        have hnm : n1 ≠ mo := (ne_of_none ((t1.trans t2) _ _ hmo5) hn1).symm
        refine ⟨mo, ms.map V.ref, _, rfl, rfl, hmo8, lt_line (by rw [List.length_map]; lia), ?_⟩
        have hA := RssAt.app hmo8 (Paired.mapP hmp5 fun _ _ z => RowsAt.same z t13) hmn5 hN1 hnm
        have eA : Same H3 (upd H8 mo (.lst (ms.map V.ref ++ [.ref n1]))) := fun b' o' h' => by rw [upd_ne (ne_of_none h' hmo)]; exact (e5.trans t13) _ _ h'
        have hvA : (upd H8 mo (.lst (ms.map V.ref ++ [.ref n1]))) v = some (.lst (vas.map V.ref)) := by rw [upd_ne hvm]; exact t13 _ _ hva
        have hvpA : Paired (fun b r => RowAt K (upd H8 mo (.lst (ms.map V.ref ++ [.ref n1]))) b r) vas W := Paired.mapP hvp fun _ _ z => row_put hmo8 (RowAt.same z t13)
        generalize upd H8 mo (.lst (ms.map V.ref ++ [.ref n1])) = H9 at hA eA hvA hvpA ⊢
        clear hmp5 hmn5 hmo5 hva hvp hN1 hmo8 t13 t1 t2 t3
        obtain ⟨ms2, hmo9, hmp9, hmn9⟩ := hA
        have hml9 := Paired.length hmp9
        rw [List.length_append, List.length_singleton] at hml9
        refine ⟨_, rfl, (.inl ⟨rfl, _, SqL.of hmo9⟩), _, rfl, _, rfl, _, rfl, (show 3 ≤ sizeLine by decide), fun r1 hr1 => ?_⟩
        have t1 := same_new hr1 (.tup [.str "not", .str s.1, .str s.2])
        have hr1' : (upd H9 r1 (.tup [.str "not", .str s.1, .str s.2])) r1 = some (.tup [.str "not", .str s.1, .str s.2]) := upd_same
        generalize upd H9 r1 (.tup [.str "not", .str s.1, .str s.2]) = H6 at t1 hr1' ⊢
        refine ⟨(show 1 ≤ sizeLine by decide), fun l1 hl1 => ?_⟩
        have t2 := same_new hl1 (.lst [.ref r1])
        have hl1' : (upd H6 l1 (.lst [.ref r1])) l1 = some (.lst [.ref r1]) := upd_same
        generalize upd H6 l1 (.lst [.ref r1]) = H7 at t2 hl1' ⊢
        refine ⟨v, l1, _, _, rfl, rfl, (t1.trans t2) _ _ hvA, hl1', le_line (by rw [List.length_map]; show _ + 1 ≤ 1000; lia), fun n2 hn2 => ?_⟩
        have t3 := same_new hn2 (.lst (vas.map V.ref ++ [.ref r1]))
        have hn2' : (upd H7 n2 (.lst (vas.map V.ref ++ [.ref r1]))) n2 = some (.lst ((vas ++ [r1]).map V.ref)) := by rw [upd_same, List.map_append]; rfl
        generalize upd H7 n2 (.lst (vas.map V.ref ++ [.ref r1])) = H8 at t3 hn2' ⊢
        have t13 := (t1.trans t2).trans t3
        have hmo8 := t13 _ _ hmo9
        have hN2 : RowsAt K H8 n2 (W ++ [[("not" : Str), s.1, s.2]]) := ⟨vas ++ [r1], hn2', Paired.app (Paired.mapP hvpA fun _ _ z => RowAt.same z t13) (.cons (SqT.of ((t2.trans t3) _ _ hr1')) .nil)⟩
        have hnm2 : n2 ≠ mo := (ne_of_none ((t1.trans t2) _ _ hmo9) hn2).symm
        refine ⟨mo, ms2.map V.ref, _, rfl, rfl, hmo8, lt_line (by rw [List.length_map]; lia), ?_⟩
        exact ⟨_, fun b' o' h' => by rw [upd_ne (ne_of_none h' hmo)]; exact (eA.trans t13) _ _ h', RssAt.app hmo8 (Paired.mapP hmp9 fun _ _ z => RowsAt.same z t13) hmn9 hN2 hnm2, rfl⟩
      · rintro σ H5 ⟨z6, e5, hR5, rfl⟩
        rw [List.length_map, hwl, List.take_length] at hR5
        exact ⟨_, rfl, mo, _, _, _, _, e3.trans e5, hR5, rfl⟩
  · rintro σ H3 ⟨wl, z3, z4, z5, z6, e3, hR3, rfl⟩
    rw [List.length_map, hsl2, List.take_length, waysL_one] at hR3
    exact ⟨_, rfl, q wl H3 e3 hR3⟩
end
end K30
namespace K30
open PySem PySem.Spec L2 Mir Kn
noncomputable abbrev sIs : Stmt := top 11
structure Dn (n : Nat) (d : PyData) : Prop where
  lay : d.canLay0 = true
  dep : d.depth ≤ n
theorem Dn.ok {n : Nat} {d : PyData} (h : Dn n d) (hn : n ≤ 16) : EqOk d := ⟨h.lay, Nat.le_trans h.dep hn⟩
theorem Dn.mono {m n : Nat} {d : PyData} (h : Dn m d) (hn : m ≤ n) : Dn n d := ⟨h.lay, Nat.le_trans h.dep hn⟩
theorem dn_all {n : Nat} : ∀ {ds : List PyData}, (∀ d ∈ ds, Dn n d) → PyData.canLayAll0 ds = true ∧ PyData.depthAll ds ≤ n
  | [], _ => ⟨by simp only [PyData.canLayAll0], by simp only [PyData.depthAll]; lia⟩
  | d :: ds, h => by
    obtain ⟨h1, h2⟩ := dn_all (ds := ds) fun x hx => h x (List.mem_cons_of_mem _ hx)
    have h3 := h d (List.mem_cons_self ..)
    refine ⟨?_, ?_⟩
    · simp only [PyData.canLayAll0, Bool.and_eq_true]
      exact ⟨h3.lay, h1⟩
    · simp only [PyData.depthAll]
      exact Nat.max_le.mpr ⟨h3.dep, h2⟩
theorem Dn.lst {n : Nat} {ds : List PyData} (h : ∀ d ∈ ds, Dn n d) : Dn (n + 1) (.list ds) := by
  obtain ⟨h1, h2⟩ := dn_all h
  refine ⟨?_, ?_⟩
  · simp only [PyData.canLay0]; exact h1
  · simp only [PyData.depth]; lia
theorem Dn.tup {n : Nat} {ds : List PyData} (h : ∀ d ∈ ds, Dn n d) : Dn (n + 1) (.tuple ds) := by
  obtain ⟨h1, h2⟩ := dn_all h
  refine ⟨?_, ?_⟩
  · simp only [PyData.canLay0]; exact h1
  · simp only [PyData.depth]; lia
theorem Dn.str {x : Str} (h : Ok x) : Dn 0 (.str x) := ⟨h, by simp only [PyData.depth]; exact Nat.le_refl _⟩
noncomputable def RowsOk (rs : List (List Str)) : Prop := ∀ r ∈ rs, ∀ y ∈ r, Ok y
theorem dn_rows {rs : List (List Str)} (h : RowsOk rs) : Dn 2 (.list (rs.map dRow)) := by
  refine Dn.lst fun d hd => ?_
  obtain ⟨r, hr, rfl⟩ := List.mem_map.mp hd
  refine Dn.tup fun e he => ?_
  obtain ⟨y, hy, rfl⟩ := List.mem_map.mp he
  exact Dn.str (h r hr y hy)
theorem dn_tell {rss : List (List (List Str))} (h : ∀ rs ∈ rss, RowsOk rs) : Dn 3 (.tuple (rss.map fun rs => .list (rs.map dRow))) := by
  refine Dn.tup fun d hd => ?_
  obtain ⟨r, hr, rfl⟩ := List.mem_map.mp hd
  exact dn_rows (h r hr)
theorem Two.tell {K : PySem.W.Frag} {H : Hp} {t fl pl : Addr} {F P : List (List Str)} (h : Two K H t fl pl F P) : TellAt K H t [F, P] := ⟨[fl, pl], h.tup, .cons h.one (.cons h.two .nil)⟩
inductive spIs (K : PySem.W.Frag) (vs : List V) (H : Hp) (Q : VK) (E : XK) : Prop
  | mk (a b : Addr) (its : List It3) (us : List Addr) (Ws : List (List (List Str))) (R : List (List Str)) (h0 : vs = [.ref a, .ref b]) (h1 : H a = some (.lst (its.map fun x => V.ref x.1))) (h2 : Paired (fun (x : It3) W => Two K H x.1 x.2.1 x.2.2 W R) its Ws)
      (h3 : H b = some (.lst (us.map V.ref))) (h4 : Paired (fun u W => TellAt K H u [W, R]) us Ws) (h6 : ∀ W ∈ Ws, RowsOk W) (h7 : RowsOk R) (q : ∀ H', Same H H' → Q (.bl true) H') : spIs K vs H Q E
section
variable {P : Program} {w : World} {K : PySem.W.Frag} {mg : Str → Option Value} {base : Heap} {f : Addr} {fd : FuncData}
theorem scIs : FnScope ["_law_found", "_law_due", "_law_one", "_law_other"] ["_law_found", "_law_due"] (defScope sIs) := ⟨rfl, rfl, rfl, by decide +kernel, rfl, by decide +kernel, by decide +kernel⟩
theorem ok_is (C : Con K mg w) (F : Fun K "_law_is" "_law_is" sIs f fd) : FnOk P w K mg base CX0 1 f fd ["_law_found", "_law_due"] (spIs K) := by
  refine F.okQ scIs (fun vs H Q E h => ?_) (fun cdv A outer s0 H vs Q E hr h => ?_)
  · obtain ⟨a, b, its, us, Ws, R, rfl, _⟩ := h; rfl
  obtain ⟨a, b, its, us, Ws, R, rfl, ha, hI, hb, hU, hWo, hRo, q⟩ := h
  have nd := scIs.nd
  have hu := Nat.lt_of_le_of_lt (Nat.add_le_add_left (show 32 ≤ 64 by decide) _) hr.units
  refine ⟨_, qb_cons (qs_if (QW.qt (qw_or (qt_not (qt_val (qe_callB call_isi_list rfl C.isi PyProof.Rows.boot_isinstance (qa_nm (qv 0) (qa_nm ⟨gty C.list PyProof.Rows.boot_list⟩ qa_nil))))) (qw_or1 (qt_cmpR op_ne (qe_callB call_len_seq rfl C.len PySem.boot_len (qa_nm (qv 0) qa_nil)) (qe_callB call_len_seq rfl C.len PySem.boot_len (qa_nm (qv 1) qa_nil)) (nomark _))))) (qb_one (qs_ret qe_bl)) qb_nil)
    (qb_cons (qs_for PassesOwn.never rfl (qi_zip rfl C.zip (qa_nm (qv 0) (qa_nm (qv 1) qa_nil))) (qg_tup2 (qg_name (i := 2) nd rfl (Or.inl rfl)) (qg_name (i := 3) nd rfl (Or.inl rfl))) (qb_cons (qs_if (QW.qt (qw_or (qt_not (qt_val (qe_callB call_isi_tuple rfl C.isi PyProof.Rows.boot_isinstance (qa_nm (qv 2) (qa_nm ⟨gty C.tuple PyProof.Rows.boot_tuple⟩ qa_nil))))) (qw_or (qt_cmpR op_ne (qe_callB call_len_seq rfl C.len PySem.boot_len (qa_nm (qv 2) qa_nil)) qe_int (nomark _)) (qw_or (qt_not (qt_val (qe_callB call_isi_list rfl C.isi PyProof.Rows.boot_isinstance (qa_sub (qe_ix ix_tup (qv 2) qe_int (fun _ _ => rfl)) (qa_nm ⟨gty C.list PyProof.Rows.boot_list⟩ qa_nil))))) (qw_or1 (qt_not (qt_val (qe_callB call_isi_list rfl C.isi PyProof.Rows.boot_isinstance (qa_sub (qe_ix ix_tup (qv 2) qe_int (fun _ _ => rfl)) (qa_nm ⟨gty C.list PyProof.Rows.boot_list⟩ qa_nil)))))))))) (qb_one (qs_ret qe_bl)) qb_nil)
    (qb_one (qs_if (qt_cmpR (op_neD hu) (qv 2) (qv 3) (nomark _)) (qb_one (qs_ret qe_bl)) qb_nil))))
    (qb_one (qs_ret qe_bl))), ?_⟩
  have hil := Paired.length hI
  have hul := Paired.length hU
  have hxy : (its.map fun x : It3 => V.ref x.1).length = (us.map V.ref).length := by rw [List.length_map, List.length_map]; lia
  refine ⟨_, rfl, a, _, rfl, SqL.of ha, _, rfl, iteN rfl ?_⟩
  refine ⟨_, rfl, a, _, rfl, .inl (SqL.of ha), _, rfl, b, _, rfl, .inl (SqL.of hb), rfl, _, rfl, iteB (fun c => ?_) (fun _ => ?_)⟩
  · rw [hxy] at c
    simp at c
  refine ⟨_, rfl, _, rfl, a, b, _, _, rfl, ha, hb, ?_⟩
  refine for_zip (fun i σ H2 => Same H H2 ∧ ∃ z2 z3 : Option V, σ = [some (.ref a), some (.ref b), z2, z3]) ⟨Same.refl _, none, none, rfl⟩ (fun i σ H2 h => ⟨h.1 _ _ ha, h.1 _ _ hb⟩) hxy ?_ ?_
  · rintro i x y σ H2 p hx hy ⟨e2, z2, z3, rfl⟩ hp
    rw [List.getElem?_map] at hx
    obtain ⟨u, hu', rfl⟩ := ref_at hy
    cases hit : its[i]? with
    | none => rw [hit] at hx; cases hx
    | some it =>
      rw [hit] at hx
      obtain rfl : V.ref it.1 = x := Option.some.inj hx
      obtain ⟨W, hW, hT⟩ := Paired.nth hI hit
      have hTu := Paired.at2 hU hu' hW
      have s3 := same_new hp (.tup [.ref it.1, .ref u])
      refine ⟨p, _, rfl, SqT.of upd_same, rfl, _, _, rfl, _, _, rfl, rfl, ?_⟩
      have e3 := e2.trans s3
      generalize upd H2 p (.tup [.ref it.1, .ref u]) = H3 at s3 e3 ⊢
      have hT3 := Two.same hT e3
      have hU3 := TellAt.same hTu e3
      obtain ⟨fas, hfa, _⟩ := id hT3.one
      obtain ⟨pas, hpa, _⟩ := id hT3.two
      refine ⟨_, rfl, it.1, _, rfl, hT3.tup, _, rfl, iteN rfl ?_⟩
      refine ⟨_, rfl, it.1, _, rfl, .inr hT3.tup, rfl, _, rfl, iteB (fun c => absurd (show (!decide (V.int 2 = V.int 2)) = true from c) (by decide)) (fun _ => ?_)⟩
      refine ⟨_, rfl, it.1, _, 0, _, rfl, rfl, hT3.tup, rfl, it.2.1, _, rfl, SqL.of hfa, _, rfl, iteN rfl ?_⟩
      refine ⟨_, rfl, it.1, _, 1, _, rfl, rfl, hT3.tup, rfl, it.2.2, _, rfl, SqL.of hpa, _, rfl, iteN rfl ?_⟩
      have hd : Dn 3 (.tuple ([W, R].map fun rs => .list (rs.map dRow))) := dn_tell fun rs hrs => by
        simp only [List.mem_cons, List.not_mem_nil, or_false] at hrs
        rcases hrs with rfl | rfl
        · exact hWo _ (List.mem_of_getElem? hW)
        · exact hRo
      refine ⟨_, rfl, _, rfl, _, _, hT3.tell.dp, hU3.dp, hd.ok (by decide), hd.ok (by decide), _, rfl, iteB (fun c => ?_) (fun _ => ?_)⟩
      · rw [SeqAt.eqv_refl _ hd.lay] at c; cases c
      · exact ⟨e3, _, _, rfl⟩
  · rintro σ H2 ⟨e2, z2, z3, rfl⟩
    exact q H2 e2
end
end K30
namespace K30
open PySem PySem.Spec L2 Mir Kn
noncomputable def dNum (k : Nat) : PyData := .list [.int (k : Int)]
theorem eqv_num (a b : Nat) : PyData.eqv (dNum a) (dNum b) = decide (a = b) := by
  unfold dNum
  simp only [PyData.eqv, PyData.eqvAll, Bool.and_true]
  by_cases e : a = b
  · rw [e, decide_eq_true rfl]; simp
  · rw [decide_eq_false e]
    have : ¬ (a : Int) = (b : Int) := by lia
    rw [Bool.eq_false_iff]
    intro z
    exact this (by simpa using z)
theorem any_nums (ks : List Nat) (i : Nat) : ((ks.map dNum).any fun e => PyData.eqv e (dNum i)) = decide (i ∈ ks) := by
  rw [List.any_map, Bool.eq_iff_iff, List.any_eq_true, decide_eq_true_eq]
  constructor
  · rintro ⟨k, hk, e⟩
    have e' : PyData.eqv (dNum k) (dNum i) = true := e
    rw [eqv_num, decide_eq_true_eq] at e'
    exact e' ▸ hk
  · intro h
    exact ⟨i, h, by show PyData.eqv (dNum i) (dNum i) = true; rw [eqv_num]; simp⟩
theorem dn_num (k : Nat) : Dn 1 (dNum k) := Dn.lst fun d hd => by
  rw [List.mem_singleton.mp hd]
  exact ⟨by simp only [PyData.canLay0], by simp only [PyData.depth]; exact Nat.le_refl _⟩
theorem dn_nums (ks : List Nat) : Dn 2 (.list (ks.map dNum)) := Dn.lst fun d hd => by
  obtain ⟨k, _, rfl⟩ := List.mem_map.mp hd
  exact dn_num k
theorem dp_nums {K : PySem.W.Frag} {H : Hp} : ∀ {as : List Addr} {ks : List Nat}, Paired (fun b (k : Nat) => H b = some (.lst [.int (k : Int)])) as ks → DpAll K H (as.map V.ref) (ks.map dNum)
  | _, _, .nil => .nil
  | _, _, .cons h t => .cons (.lst (SqL.of h) (.cons (.int _) .nil)) (dp_nums t)
theorem NumsAt.dp {K : PySem.W.Frag} {H : Hp} {l : Addr} {ks : List Nat} (h : NumsAt H l ks) : Dp K H (.ref l) (.list (ks.map dNum)) := by
  obtain ⟨as, h1, h2⟩ := h
  exact .lst (SqL.of h1) (dp_nums h2)
noncomputable def dPap (ks : List Nat) : List (Str × Str) → PyData
  | [] => .tuple [.str "cover", .list (ks.map dNum)]
  | s :: S => .tuple [.str "split", .str s.1, .str s.2, dPap ks S, dPap ks S]
theorem PapAt.dp {K : PySem.W.Frag} {H : Hp} {rl : Addr} {ks : List Nat} (hr : NumsAt H rl ks) : ∀ {S : List (Str × Str)} {p : Addr}, PapAt K H p S rl → Dp K H (.ref p) (dPap ks S)
  | [], _, h => .tup (show SqT K H _ _ from h) (.cons (.str _) (.cons hr.dp .nil))
  | s :: S, _, h => by
    obtain ⟨q, h1, h2⟩ := h
    have h3 := PapAt.dp hr h2
    exact .tup h1 (.cons (.str _) (.cons (.str _) (.cons (.str _) (.cons h3 (.cons h3 .nil)))))
theorem dn_pap {ks : List Nat} : ∀ {S : List (Str × Str)}, (∀ s ∈ S, Ok s.1 ∧ Ok s.2) → Dn (S.length + 3) (dPap ks S)
  | [], _ => Dn.tup fun d hd => by
    simp only [List.mem_cons, List.not_mem_nil, or_false] at hd
    rcases hd with rfl | rfl
    · exact (Dn.str (show (PyData.str "cover").canLay0 = true by decide +kernel)).mono (Nat.zero_le _)
    · exact dn_nums ks
  | s :: S, h => by
    have ih := dn_pap (ks := ks) fun x hx => h x (List.mem_cons_of_mem _ hx)
    have hs := h s (List.mem_cons_self ..)
    refine Dn.tup fun d hd => ?_
    simp only [List.mem_cons, List.not_mem_nil, or_false] at hd
    rcases hd with rfl | rfl | rfl | rfl | rfl
    · exact (Dn.str (show (PyData.str "split").canLay0 = true by decide +kernel)).mono (Nat.zero_le _)
    · exact (Dn.str hs.1).mono (Nat.zero_le _)
    · exact (Dn.str hs.2).mono (Nat.zero_le _)
    · exact ih.mono (by rw [List.length_cons]; lia)
    · exact ih.mono (by rw [List.length_cons]; lia)
theorem ways_ok : ∀ {S : List (Str × Str)} {F : List (List Str)}, (∀ s ∈ S, Ok s.1 ∧ Ok s.2) → RowsOk F → ∀ W ∈ waysR F S, RowsOk W
  | [], _, _, h, W, hW => by rw [List.mem_singleton.mp hW]; exact h
  | s :: S, F, hs, h, W, hW => by
    have h1 := hs s (List.mem_cons_self ..)
    have h2 : ∀ x ∈ S, Ok x.1 ∧ Ok x.2 := fun x hx => hs x (List.mem_cons_of_mem _ hx)
    have h3 : ∀ wd : Str, Ok wd → RowsOk (F ++ [[wd, s.1, s.2]]) := fun wd hw r hr => by
      rcases List.mem_append.mp hr with z | z
      · exact h r z
      · rw [List.mem_singleton.mp z]
        intro y hy
        simp only [List.mem_cons, List.not_mem_nil, or_false] at hy
        rcases hy with rfl | rfl | rfl
        · exact hw
        · exact h1.1
        · exact h1.2
    rcases List.mem_append.mp hW with z | z
    · exact ways_ok h2 (h3 _ (show (PyData.str "is").canLay0 = true by decide +kernel)) W z
    · exact ways_ok h2 (h3 _ (show (PyData.str "not").canLay0 = true by decide +kernel)) W z
theorem left_ok {ks : List Nat} {P : List (List Str)} (h : RowsOk P) : RowsOk (leftF ks P) := fun r hr => by
  unfold leftF pickF at hr
  obtain ⟨i, hi, rfl⟩ := List.mem_map.mp hr
  have hi' := List.mem_range.mp (List.mem_filter.mp hi).1
  rw [List.getD_eq_getElem?_getD, List.getElem?_eq_getElem hi']
  exact h _ (List.getElem_mem hi')
noncomputable def wo (H : Hp) (D : Addr) : Hp := fun c => if c = D then none else H c
theorem wo_ne {H : Hp} {D c : Addr} (h : c ≠ D) : wo H D c = H c := by unfold wo; rw [if_neg h]
theorem wo_same {H H' : Hp} {D : Addr} (e : SameX D H H') : Same (wo H D) (wo H' D) := fun b u h => by
  by_cases c : b = D
  · subst c; unfold wo at h; rw [if_pos rfl] at h; cases h
  · rw [wo_ne c] at h ⊢; exact e b u h c
theorem wo_back {H : Hp} {D : Addr} : Same (wo H D) H := fun b u h => by
  by_cases c : b = D
  · subst c; unfold wo at h; rw [if_pos rfl] at h; cases h
  · rw [wo_ne c] at h; exact h
theorem wo_to {H H' : Hp} {D : Addr} (hD : H D = none) (e : Same H H') : Same H (wo H' D) := fun b u h => by
  rw [wo_ne (ne_of_none h hD)]; exact e b u h
theorem cut_drop (xs : List V) (n : Nat) : cutV xs (some (n : Int)) none = xs.drop n := by
  unfold cutV
  rw [HT.sIx_nat, show HT.sIx xs.length xs.length none = xs.length from rfl]
  by_cases h : n ≤ xs.length
  · rw [Nat.min_eq_left h, List.take_of_length_le (by rw [List.length_drop]; lia)]
  · rw [Nat.min_eq_right (by lia), List.drop_length, List.drop_eq_nil_of_le (by lia), List.take_nil]
theorem paired_drop {α β : Type} {F : α → β → Prop} : ∀ {l : List α} {m : List β} (n : Nat), Paired F l m → Paired F (l.drop n) (m.drop n)
  | _, _, 0, h => h
  | _, _, _ + 1, .nil => .nil
  | _, _, n + 1, .cons _ t => paired_drop n t
inductive CI (K : PySem.W.Frag) (H0 : Hp) (fo : Addr) (its : List It3) (Ws : List (List (List Str))) (R : List (List Str)) (i : Nat) (H : Hp) : Prop
  | mk (e : Same H0 H) (hf : H fo = some (.lst (its.map fun x => V.ref x.1))) (all : Paired (fun (x : It3) F => Two K H x.1 x.2.1 x.2.2 F R) (its.drop i) (Ws.drop i)) : CI K H0 fo its Ws R i H
theorem CI.step {K : PySem.W.Frag} {H0 H : Hp} {fo : Addr} {its : List It3} {Ws : List (List (List Str))} {R : List (List Str)} {i : Nat} (h : CI K H0 fo its Ws R i H) (new : ∀ x ∈ its, H0 x.2.1 = none ∧ H0 x.2.2 = none) (nd : (its.flatMap fun x : It3 => [x.2.1, x.2.2]).Nodup)
    (nf : ∀ x ∈ its, x.2.1 ≠ fo ∧ x.2.2 ≠ fo) {x : It3} (hx : its[i]? = some x) : ∃ (W : List (List Str)) (xs ys : List V), Two K H x.1 x.2.1 x.2.2 W R ∧ H x.2.1 = some (.lst xs) ∧ H x.2.2 = some (.lst ys) ∧ x.2.1 ≠ x.2.2 ∧ CI K H0 fo its Ws R (i + 1) (upd (upd H x.2.1 (.lst [])) x.2.2 (.lst [])) := by
  obtain ⟨e, hf, all⟩ := h
  obtain ⟨hi, hxi⟩ := List.getElem?_eq_some_iff.mp hx
  have hd : its.drop i = x :: its.drop (i + 1) := by rw [← List.getElem_cons_drop (h := hi), hxi]
  have hm := List.mem_of_getElem? hx
  have ndd : ((its.drop i).flatMap fun x : It3 => [x.2.1, x.2.2]).Nodup := by
    have : its.flatMap (fun x : It3 => [x.2.1, x.2.2]) = (its.take i).flatMap (fun x : It3 => [x.2.1, x.2.2]) ++ (its.drop i).flatMap (fun x : It3 => [x.2.1, x.2.2]) := by rw [← List.flatMap_append, List.take_append_drop]
    rw [this, List.nodup_append] at nd
    exact nd.2.1
  rw [hd] at all ndd
  rw [List.flatMap_cons] at ndd
  have n1 := List.nodup_cons.mp ndd
  have n2 := List.nodup_cons.mp n1.2
  have hne : x.2.1 ≠ x.2.2 := fun z => n1.1 (by rw [z]; exact List.mem_cons_self ..)
  have far : ∀ y ∈ its.drop (i + 1), y.2.1 ≠ x.2.1 ∧ y.2.2 ≠ x.2.1 ∧ y.2.1 ≠ x.2.2 ∧ y.2.2 ≠ x.2.2 := fun y hy => by
    have h1 : y.2.1 ∈ (its.drop (i + 1)).flatMap fun x : It3 => [x.2.1, x.2.2] := List.mem_flatMap.mpr ⟨y, hy, List.mem_cons_self ..⟩
    have h2 : y.2.2 ∈ (its.drop (i + 1)).flatMap fun x : It3 => [x.2.1, x.2.2] := List.mem_flatMap.mpr ⟨y, hy, List.mem_cons_of_mem _ (List.mem_cons_self ..)⟩
    exact ⟨fun z => n1.1 (List.mem_cons_of_mem _ (z ▸ h1)), fun z => n1.1 (List.mem_cons_of_mem _ (z ▸ h2)), fun z => n2.1 (z ▸ h1), fun z => n2.1 (z ▸ h2)⟩
  cases hW : Ws.drop i with
  | nil => rw [hW] at all; cases all
  | cons W Ws' =>
    rw [hW] at all
    have hW' : Ws.drop (i + 1) = Ws' := by rw [← List.drop_drop (i := 1), hW]; rfl
    cases all with
    | cons h t =>
      obtain ⟨as, h1, _⟩ := id h.one
      obtain ⟨bs, h2, _⟩ := id h.two
      have h2' : (upd H x.2.1 (.lst [])) x.2.2 = some (.lst (bs.map V.ref)) := by rw [upd_ne hne.symm]; exact h2
      refine ⟨W, _, _, h, h1, h2, hne, ⟨fun b u hb => ?_, ?_, ?_⟩⟩
      · rw [upd_ne (ne_of_none hb (new x hm).2), upd_ne (ne_of_none hb (new x hm).1)]; exact e b u hb
      · rw [upd_ne (nf x hm).2.symm, upd_ne (nf x hm).1.symm]; exact hf
      · rw [hW']
        exact paired_mapM t fun y hy F z => Two.put h2' (Two.put h1 z (far y hy).1 (far y hy).2.1) (far y hy).2.2.1 (far y hy).2.2.2
theorem CI.same {K : PySem.W.Frag} {H0 H H' : Hp} {fo : Addr} {its : List It3} {Ws : List (List (List Str))} {R : List (List Str)} {i : Nat} (h : CI K H0 fo its Ws R i H) (e : Same H H') : CI K H0 fo its Ws R i H' := by
  obtain ⟨h1, h2, h3⟩ := h
  exact ⟨h1.trans e, e _ _ h2, Paired.mapP h3 fun _ _ z => Two.same z e⟩
theorem refs_ext {β : Type} {T : Addr → β → Prop} : ∀ {ys : List V} {rs : List β}, Paired (fun y r => ∃ u, y = V.ref u ∧ T u r) ys rs → ∃ us : List Addr, ys = us.map V.ref ∧ Paired T us rs
  | _, _, .nil => ⟨[], rfl, .nil⟩
  | _, _, .cons h t => by
    obtain ⟨u, rfl, hu⟩ := h
    obtain ⟨us, rfl, h2⟩ := refs_ext t
    exact ⟨u :: us, rfl, .cons hu h2⟩
noncomputable def pV (ks : List Nat) : V → Bool := fun v => match v with | .int k => !decide (k.toNat ∈ ks) | _ => false
noncomputable def fV (as : List Addr) : V → V := fun v => match v with | .int k => .ref (as.getD k.toNat 0) | _ => v
theorem pick_nums (ks : List Nat) (as : List Addr) (n : Nat) : ((nums 0 n).filter (pV ks)).map (fV as) = (pickF 0 (fun i => !decide (i ∈ ks)) as n).map V.ref := by
  unfold nums pickF
  rw [List.filter_map, List.map_map, List.map_map]
  have h1 : (pV ks ∘ fun i : Nat => V.int (0 + (i : Int))) = fun i => !decide (i ∈ ks) := by
    funext i
    show (!decide ((0 + (i : Int)).toNat ∈ ks)) = _
    rw [Int.zero_add, Int.toNat_natCast]
  have h2 : (fV as ∘ fun i : Nat => V.int (0 + (i : Int))) = V.ref ∘ fun i => as.getD i 0 := by
    funext i
    show V.ref (as.getD (0 + (i : Int)).toNat 0) = V.ref (as.getD i 0)
    rw [Int.zero_add, Int.toNat_natCast]
  rw [h1, h2]
end K30
namespace L2
open PySem PySem.Spec PyProof.Rows
theorem qe_compH {X : Cx} {elt iter : Expr} {x : Str} {px pos : Pos} {ifs : List Expr} {sc : Scope} {cl : List (Str × Addr)} {wi : TI} {tc : TT} {te : TE} (hcl : closureFor sc X.env = pure cl) (N : List Str) (ix : List Nat) (hi : QI X (.Name x px) iter wi)
    (hif : ∀ s H C ex, QTs (blk X N s H sc cl C ex) ifs tc) (he : ∀ s H C ex, QE (blk X N s H sc cl C ex) elt te)
    (hcs : ClIn X.env.cells cl := by repeat' first | with_unfolding_all rfl | constructor) (hN : N = x :: ix.map (fun j => (X.N[j]?).getD "") := by rfl) (hnd : N.Nodup := by decide +kernel)
    (hkm : cl.map (·.1) = N.tail := by rfl) (hkB : ((relabel sc X.env).names.all fun y => (match y.2 with | .cell => false | .free => false | _ => true) || decide (y.1 ∈ N.tail)) = true := by with_unfolding_all rfl)
    (hix : IxIn X sc ix := by repeat' first | with_unfolding_all rfl | constructor)
    (hx : sc.names.lookup x = some .local := by decide +kernel) (hcell : ∀ z ∈ sc.names, z.2 ≠ .cell := by decide +kernel)
    (hnames : ∀ z ∈ sc.names, z.2 = .local → sc.names.lookup z.1 = some .local := by decide +kernel)
    (hc : X.calm = true := by rfl) (hkind : sc.kind = .function := by rfl) (hs : ∀ x, foldedSetIterable iter X.env x = pure x := by intro _; rfl) :
    QE X (.ListComp elt [⟨.Name x px, iter, ifs, 0⟩] sc pos) (tComp ix wi tc te) :=
  ⟨pe_comp N hc hi.run (fun s H C ex => (hif s H C ex).run) (fun s H C ex => (he s H C ex).run) hkind hN hnd hx hcl hcell hnames (cl_sub hcs.all) (cl_has hkm hkB) hix.all hs⟩
theorem qs_setCH {X : Cx} {elt iter : Expr} {x yv : Str} {px pos py pos2 : Pos} {i : Nat} {ifs : List Expr} {sc : Scope} {cl : List (Str × Addr)} {wi : TI} {tc : TT} {te : TE} (hcl : closureFor sc X.env = pure cl) (N : List Str) (ix : List Nat) (hNd : X.N.Nodup) (hiy : X.N[i]? = some yv) (hyv : Loc X.env.scope yv) (hi : QI X (.Name x px) iter wi)
    (hif : ∀ s H C ex, QTs (blk X N s H sc cl C ex) ifs tc) (he : ∀ s H C ex, QE (blk X N s H sc cl C ex) elt te)
    (hsw : swapsWith (.ListComp elt [⟨.Name x px, iter, ifs, 0⟩] sc pos) (some (.Name yv py)) pos2.line X.env = pure true := by rfl) (hfy : X.fn yv = true ∨ X.env.scope.names.lookup yv = some .local := by first | exact .inl rfl | exact .inr rfl | assumption)
    (hcs : ClIn X.env.cells cl := by repeat' first | with_unfolding_all rfl | constructor) (hN : N = x :: ix.map (fun j => (X.N[j]?).getD "") := by rfl) (hnd : N.Nodup := by decide +kernel)
    (hkm : cl.map (·.1) = N.tail := by rfl) (hkB : ((relabel sc X.env).names.all fun y => (match y.2 with | .cell => false | .free => false | _ => true) || decide (y.1 ∈ N.tail)) = true := by with_unfolding_all rfl)
    (hix : IxIn X sc ix := by repeat' first | with_unfolding_all rfl | constructor)
    (hx : sc.names.lookup x = some .local := by decide +kernel) (hcell : ∀ z ∈ sc.names, z.2 ≠ .cell := by decide +kernel)
    (hnames : ∀ z ∈ sc.names, z.2 = .local → sc.names.lookup z.1 = some .local := by decide +kernel)
    (hc : X.calm = true := by rfl) (hkind : sc.kind = .function := by rfl) (hs : ∀ x, foldedSetIterable iter X.env x = pure x := by intro _; rfl) :
    QS X (.Assign [.Name yv py] (.ListComp elt [⟨.Name x px, iter, ifs, 0⟩] sc pos) pos2) (tAsg (tComp ix wi tc te) (gName i)) :=
  ⟨ps_setcomp N hNd hiy hyv hsw hfy hc hi.run (fun s H C ex => (hif s H C ex).run) (fun s H C ex => (he s H C ex).run) hkind hN hnd hx hcl hcell hnames (cl_sub hcs.all) (cl_has hkm hkB) hix.all hs⟩
end L2
namespace L2
open PySem PySem.Spec
noncomputable def rNinD (K : PySem.W.Frag) : R2 := fun x y H Q => ∃ p ys ds d, y = .ref p ∧ SqL K H p ys ∧ DpAll K H ys ds ∧ Dp K H x d ∧ EqOk (.list ds) ∧ EqOk d ∧ Q (.bl (!ds.any fun e => PyData.eqv e d)) H
theorem op_ninD {X : Cx} {K : PySem.W.Frag} (hK : X.K = K) (hu : X.A.units + 32 < cLine) : OpR X (compareOp .NotIn) (rNinD K) := by
  subst hK
  intro pins s σ H x y v u Q I rx ry h
  obtain ⟨p, ys, ds, d, rfl, hy, hds, hd, o1, o2, q⟩ := h
  obtain ⟨as, ra⟩ := Dp.reads I (.lst hy hds) ry
  obtain ⟨bs, rb⟩ := Dp.reads I hd rx
  have h1 := o1.1
  simp only [PyData.canLay0] at h1
  have h2 := o2.2
  exact PySem.SeqAt.notIn_list_reads ra rb h1 o2.1 (by have := Nat.min_le_right (PyData.depthAll ds) d.depth; lia) ⟨.bl _, H, I, rfl, q⟩
end L2
namespace K30
open PySem PySem.Spec L2 Mir Kn
noncomputable abbrev sLaw : Stmt := top 12
theorem ixK {X : Cx} {K : PySem.W.Frag} (h : X.K = K) : IxR X (rIxL K) := by subst h; exact ix_list
theorem ints2 {c a b : Int} (h : a = b) : [V.int c, V.int a] = [V.int c, V.int b] := by rw [h]
theorem rows_ext {H : Hp} {PS : List (Str × Str)} : ∀ {l ys : List V}, Paired (fun _ y => ∃ (b : Addr) (s : Str × Str), y = V.ref b ∧ s ∈ PS ∧ H b = some (.tup ((pr s).map V.str))) l ys → ∃ (as : List Addr) (S : List (Str × Str)), ys = as.map V.ref ∧ Paired (fun b r => H b = some (.tup ((r : List Str).map V.str))) as (S.map pr) ∧ (∀ s ∈ S, s ∈ PS) ∧ S.length = l.length
  | _, _, .nil => ⟨[], [], rfl, .nil, (fun s hs => by cases hs), rfl⟩
  | _, _, .cons h t => by
    obtain ⟨b, s, rfl, hs, hb⟩ := h
    obtain ⟨as, S, rfl, h2, h3, h4⟩ := rows_ext t
    refine ⟨b :: as, s :: S, rfl, .cons hb h2, fun x hx => ?_, by rw [List.length_cons, List.length_cons, h4]⟩
    rcases List.mem_cons.mp hx with rfl | z
    · exact hs
    · exact h3 x z
noncomputable def PrsAt (H : Hp) (l : Addr) (PS : List (Str × Str)) : Prop := ∃ as : List Addr, H l = some (.lst (as.map V.ref)) ∧ Paired (fun b (s : Str × Str) => H b = some (.tup ((pr s).map V.str))) as PS
theorem PrsAt.same {H H' : Hp} {l : Addr} {PS : List (Str × Str)} (h : PrsAt H l PS) (e : Same H H') : PrsAt H' l PS := by
  obtain ⟨as, h1, h2⟩ := h
  exact ⟨as, e _ _ h1, Paired.mapP h2 fun _ _ z => e _ _ z⟩
theorem pair_at {H : Hp} {l : Addr} {PS : List (Str × Str)} (h : PrsAt H l PS) (h4 : PS.length = 4) : ∃ as : List Addr, H l = some (.lst (as.map V.ref)) ∧ ∀ i : Int, ∃ (b : Addr) (s : Str × Str), atI (as.map V.ref) (i % 4) = some (.ref b) ∧ s ∈ PS ∧ H b = some (.tup ((pr s).map V.str)) := by
  obtain ⟨as, h1, h2⟩ := h
  have hl := Paired.length h2
  rw [h4] at hl
  refine ⟨as, h1, fun i => ?_⟩
  obtain ⟨v, hv, hm⟩ := at_mod (xs := as.map V.ref) (m := 4) (i := i) (by rw [List.length_map, hl]; rfl) (by decide)
  obtain ⟨b, hb, rfl⟩ := List.mem_map.mp hm
  obtain ⟨j, hj⟩ := List.mem_iff_getElem?.mp hb
  obtain ⟨s, hs, hR⟩ := Paired.nth h2 hj
  exact ⟨b, s, hv, List.mem_of_getElem? hs, hR⟩
theorem refint {a : Addr} {x y : Int} (h : x = y) : [V.ref a, V.int x] = [V.ref a, V.int y] := by rw [h]
theorem paired_ins {α β : Type} {F : α → β → Prop} {l : List α} {m : List β} {x : α} {y : β} (h : Paired F l m) (hxy : F x y) (n : Nat) : Paired F (l.take n ++ x :: l.drop n) (m.take n ++ y :: m.drop n) := by
  induction h generalizing n with
  | nil => rw [List.take_nil, List.take_nil, List.drop_nil, List.drop_nil]; exact .cons hxy .nil
  | cons h t ih =>
    cases n with
    | zero => exact .cons hxy (.cons h t)
    | succ n => exact .cons h (ih n)
theorem insV_map {α : Type} {f : α → V} {l : List α} {n : Nat} {x : α} : insV (l.map f) n (f x) = (l.take n ++ x :: l.drop n).map f := by
  unfold insV
  rw [List.map_append, List.map_take, List.map_cons, List.map_drop]
theorem mem_ins {α : Type} {l : List α} {n : Nat} {x y : α} (h : y ∈ l.take n ++ x :: l.drop n) : y = x ∨ y ∈ l := by
  rcases List.mem_append.mp h with z | z
  · exact .inr (List.mem_of_mem_take z)
  · rcases List.mem_cons.mp z with z | z
    · exact .inl z
    · exact .inr (List.mem_of_mem_drop z)
theorem len_ins {α : Type} {l : List α} {n : Nat} {x : α} : (l.take n ++ x :: l.drop n).length = l.length + 1 := by
  rw [List.length_append, List.length_cons, List.length_take, List.length_drop]
  lia
inductive LI (K : PySem.W.Frag) (H0 : Hp) (a l0 prl D fl : Addr) (cc : Int) (wd : Str) (m : Nat) (pl wl rl : Addr) (i : Nat) (σ : St) (H : Hp) : Prop
  | mk (P Wd : List (List Str)) (pas was ras : List Addr) (ks : List Nat) (z11 z12 z13 z14 : Option V) (e : Same H0 H) (hp : H pl = some (.lst (pas.map V.ref))) (hpp : Paired (fun b r => RowAt K H b r) pas P) (hpi : P.length = i) (okP : RowsOk P)
      (hw : H wl = some (.lst (was.map V.ref))) (hwp : Paired (fun b r => RowAt K H b r) was Wd) (okW : RowsOk Wd) (hwi : Wd.length ≤ i) (hr : H rl = some (.lst (ras.map V.ref))) (hrp : Paired (fun b (k : Nat) => H b = some (.lst [.int (k : Int)])) ras ks) (hki : ks.length = Wd.length) (hrn : ∀ b ∈ ras, b ≠ pl ∧ b ≠ wl ∧ b ≠ rl)
      (hs : σ = [some (.ref a), some (.ref l0), some (.ref prl), some (.int cc), some (.ref D), some (.str wd), some (.ref fl), some (.int (m : Int)), some (.ref pl), some (.ref wl), some (.ref rl), z11, z12, z13, z14, none, none, none, none]) : LI K H0 a l0 prl D fl cc wd m pl wl rl i σ H
noncomputable def RowO (r : List Str) : Prop := ∀ y ∈ r, Ok y
section
variable {P : Program} {w : World} {K : PySem.W.Frag} {mg : Str → Option Value} {base : Heap} {f gC gM gN gP gW gI gR : Addr} {fd dC dM dN dP dW dI dR : FuncData}
theorem scLaw : FnScope ["_law_script", "_law_names_here", "_law_pairs", "_law_cell", "_law_splits", "_law_word", "_law_facts", "_law_many", "_law_parts", "_law_wanted", "_law_rows", "_law_k", "_law_n", "_law_part", "_law_at", "_law_paper_here", "_law_handed", "_law_due", "_law_found"] ["_law_script"] (defScope sLaw) := ⟨rfl, rfl, rfl, by decide +kernel, rfl, by decide +kernel, by decide +kernel⟩
theorem ok_law (C : Con K mg w) (F : Fun K "law" "law" sLaw f fd)
    (GC : FnOk P w K mg base CX0 1 gC dC ["_law_script", "_law_k"] (spCell K)) (cC : Cal K mg "_law_cell_at" gC dC ["_law_script", "_law_k"])
    (GM : FnOk P w K mg base CX0 1 gM dM ["_law_cell", "_law_k"] spMixed) (cM : Cal K mg "_law_mixed" gM dM ["_law_cell", "_law_k"])
    (GN : FnOk P w K mg base CX0 2 gN dN ["_law_cell", "_law_many"] (spNames K)) (cN : Cal K mg "_law_names" gN dN ["_law_cell", "_law_many"])
    (GP : FnOk P w K mg base CX0 1 gP dP ["_law_splits", "_law_rows"] (spPaper K)) (cP : Cal K mg "_law_paper" gP dP ["_law_splits", "_law_rows"])
    (GW : FnOk P w K mg base CX0 1 gW dW ["_law_facts", "_law_splits"] (spWays K)) (cW : Cal K mg "_law_ways" gW dW ["_law_facts", "_law_splits"])
    (GI : FnOk P w K mg base CX0 1 gI dI ["_law_found", "_law_due"] (spIs K)) (cI : Cal K mg "_law_is" gI dI ["_law_found", "_law_due"])
    (GR : FnOk P w K mg base CX0 6 gR dR ["one", "other", "paper"] (spRests K 5)) (cR : Cal K mg "rests" gR dR ["one", "other", "paper"]) : FnOk P w K mg base CX0 7 f fd ["_law_script"] (spLaw K) := by
  refine F.okQ scLaw (fun vs H Q E h => ?_) (fun cdv A outer s0 H vs Q E hr h => ?_)
  · obtain ⟨a, ns, rfl, _⟩ := h; rfl
  obtain ⟨a, ns, rfl, hS, q⟩ := h
  have nd := scLaw.nd
  have hu := Nat.lt_of_le_of_lt (Nat.add_le_add_left (show 32 ≤ 64 by decide) _) hr.units
  have hr1 := hr.mono (j := 1) (by lia)
  have hr2 := hr.mono (j := 2) (by lia)
  refine ⟨_, qb_cons (qs_set (i := 1) nd rfl (Or.inl rfl) (qe_call GN hr2 rfl cN.name cN.keep cN.bind .nil pass0 (qa_call (qe_call GC hr1 rfl cC.name cC.keep cC.bind .nil pass0 (qa_nm (qv 0) (qa_int qa_nil))) (qa_int qa_nil))))
    (qb_cons (qs_flat (qs_set (i := 2) nd rfl (Or.inr rfl) (qe_lst (qa_tp (qa_sub (qe_ix ix_list (qv 1) qe_int (fun _ _ => rfl)) (qa_sub (qe_ix ix_list (qv 1) qe_int (fun _ _ => rfl)) qa_nil)) (qa_tp (qa_sub (qe_ix ix_list (qv 1) qe_int (fun _ _ => rfl)) (qa_str qa_nil)) (qa_tp (qa_str (qa_sub (qe_ix ix_list (qv 1) qe_int (fun _ _ => rfl)) qa_nil)) (qa_tp (qa_sub (qe_ix ix_list (qv 1) qe_int (fun _ _ => rfl)) (qa_sub (qe_ix ix_list (qv 1) qe_int (fun _ _ => rfl)) qa_nil)) qa_nil)))))))
    (qb_cons (qs_set (i := 3) nd rfl (Or.inr rfl) (qe_call GC hr1 rfl cC.name cC.keep cC.bind .nil pass0 (qa_nm (qv 0) (qa_int qa_nil))))
    (qb_cons (qs_flat (qs_setCG ["_law_k", "_law_pairs", "_law_cell"] [2, 3] (i := 4) nd rfl (Or.inl rfl) (qi_range1 rfl C.range (qa_bop (qe_op op_mod (qe_call GM hr1 rfl cM.name cM.keep cM.bind .nil pass0 (qa_nm (qv 3) (qa_int qa_nil))) qe_int) qa_nil)) (fun _ _ _ _ => qts_nil) (fun _ _ _ _ => (qe_ix (ixK (K := K) rfl) (qv 1) (qe_op op_mod (qe_call GM hr1 rfl cM.name cM.keep cM.bind .nil pass0 (qa_nm (qv 2) (qa_bop (qe_op op_add qe_int (qv 0)) qa_nil))) qe_int) (fun _ _ => rfl)))))
    (qb_cons (qs_set (i := 5) nd rfl (Or.inl rfl) (qe_ix ix_list (qe_lst (qa_str (qa_str qa_nil))) (qe_op op_mod (qe_call GM hr1 rfl cM.name cM.keep cM.bind .nil pass0 (qa_nm (qv 3) (qa_int qa_nil))) qe_int) (fun _ _ => rfl)))
    (qb_cons (qs_set (i := 6) nd rfl (Or.inl rfl) (qe_lst (qa_bop (qe_op op_catT (qe_tup (qa_nm (qv 5) qa_nil)) (qe_ix ix_list (qv 2) (qe_op op_mod (qe_call GM hr1 rfl cM.name cM.keep cM.bind .nil pass0 (qa_nm (qv 3) (qa_int qa_nil))) qe_int) (fun _ _ => rfl))) (qa_bop (qe_op op_catT (qe_tup (qa_str qa_nil)) (qe_ix ix_list (qv 2) (qe_op op_mod (qe_call GM hr1 rfl cM.name cM.keep cM.bind .nil pass0 (qa_nm (qv 3) (qa_int qa_nil))) qe_int) (fun _ _ => rfl))) qa_nil))))
    (qb_cons (qs_flat (qs_set (i := 6) nd rfl (Or.inl rfl) (qe_op op_cat (qe_lst (qa_tp (qa_str (qa_sub (qe_ix ix_list (qv 1) qe_int (fun _ _ => rfl)) (qa_sub (qe_ix ix_list (qv 1) qe_int (fun _ _ => rfl)) qa_nil))) (qa_tp (qa_str (qa_sub (qe_ix ix_list (qv 1) qe_int (fun _ _ => rfl)) (qa_sub (qe_ix ix_list (qv 1) qe_int (fun _ _ => rfl)) qa_nil))) qa_nil))) (qe_slice sl_list (qv 6) qo_none (qo_some (qe_op op_mod (qe_call GM hr1 rfl cM.name cM.keep cM.bind .nil pass0 (qa_nm (qv 3) (qa_int qa_nil))) qe_int))))))
    (qb_cons (qs_flat (qs_set (i := 7) nd rfl (Or.inr rfl) (qe_op op_add qe_int (qe_op op_mod (qe_call GM hr1 rfl cM.name cM.keep cM.bind .nil pass0 (qa_nm (qv 3) (qa_int qa_nil))) qe_int))))
    (qb_cons (qs_set (i := 8) nd rfl (Or.inr rfl) (qe_lst qa_nil))
    (qb_cons (qs_set (i := 9) nd rfl (Or.inl rfl) (qe_lst qa_nil))
    (qb_cons (qs_flat (qs_set (i := 10) nd rfl (Or.inr rfl) (qe_lst qa_nil)))
    (qb_cons (qs_for PassesOwn.never rfl (qi_range1 rfl C.range (qa_nm (qv 7) qa_nil)) (qg_name (i := 11) nd rfl (Or.inl rfl)) (qb_cons (qs_set (i := 12) nd rfl (Or.inl rfl) (qe_call GM hr1 rfl cM.name cM.keep cM.bind .nil pass0 (qa_call (qe_call GC hr1 rfl cC.name cC.keep cC.bind .nil pass0 (qa_nm (qv 0) (qa_bop (qe_op op_add qe_int (qv 11)) qa_nil))) (qa_nm (qv 11) qa_nil))))
    (qb_cons (qs_set (i := 13) nd rfl (Or.inl rfl) (qe_tup (qa_str (qa_sub (qe_ix ix_list (qv 1) (qv 11) (fun _ _ => rfl)) (qa_sub (qe_ix ix_list (qe_op op_cat (qv 1) (qe_lst (qa_str qa_nil))) (qe_op op_mod (qv 12) qe_int) (fun _ _ => rfl)) (qa_sub (qe_ix ix_list (qe_op op_cat (qv 1) (qe_lst (qa_str qa_nil))) (qe_op op_mod (qe_op op_fdiv (qv 12) qe_int) qe_int) (fun _ _ => rfl)) qa_nil))))))
    (qb_cons (qs_expr (qe_bmK (K := K) rfl PySem.F.plainAttrs_list PySem.F.slot_list_append PySem.F.type_list_append mt_append (qv 8) (qa_nm (qv 13) qa_nil)))
    (qb_one (qs_if (qt_cmpR op_eq (qe_op op_mod (qe_op op_fdiv (qv 12) qe_int) qe_int) qe_int (nomark _)) (qb_cons (qs_set (i := 14) nd rfl (Or.inl rfl) (qe_op op_mod (qe_op op_fdiv (qv 12) qe_int) (qe_op op_add (qe_callB call_len_seq rfl C.len PySem.boot_len (qa_nm (qv 9) qa_nil)) qe_int)))
    (qb_cons (qs_expr (qe_bmK (K := K) rfl PySem.F.plainAttrs_list PySem.F.slot_list_insert PySem.F.type_list_insert mt_insert (qv 9) (qa_nm (qv 14) (qa_sub (qe_ix ix_list (qe_lst (qa_nm (qv 13) (qa_tp (qa_str (qa_sub (qe_ix ix_tup (qv 13) qe_int (fun _ _ => rfl)) (qa_str (qa_sub (qe_ix ix_tup (qv 13) qe_int (fun _ _ => rfl)) qa_nil)))) qa_nil))) (qe_callTy call_int_bl rfl C.int PyProof.Rows.boot_int (qa_cons (qe_cmpR op_eq (qe_op op_mod (qe_op op_fdiv (qv 12) qe_int) qe_int) qe_int (nomark _)) qa_nil)) (fun _ _ => rfl)) qa_nil))))
    (qb_one (qs_expr (qe_bmK (K := K) rfl PySem.F.plainAttrs_list PySem.F.slot_list_insert PySem.F.type_list_insert mt_insert (qv 10) (qa_nm (qv 14) (qa_ls (qa_nm (qv 11) qa_nil) qa_nil))))))) qb_nil))))))
    (qb_cons (qs_set (i := 15) nd rfl (Or.inl rfl) (qe_call GP hr1 rfl cP.name cP.keep cP.bind .nil pass0 (qa_nm (qv 4) (qa_nm (qv 10) qa_nil))))
    (qb_cons (qs_set (i := 16) nd rfl (Or.inl rfl) (qe_lst (qa_tp (qa_call (qe_callTy call_list_of rfl C.list PyProof.Rows.boot_list (qa_nm (qv 6) qa_nil)) (qa_call (qe_callTy call_list_of rfl C.list PyProof.Rows.boot_list (qa_nm (qv 8) qa_nil)) qa_nil)) (qa_tp (qa_ls qa_nil (qa_call (qe_callTy call_list_of rfl C.list PyProof.Rows.boot_list (qa_nm (qv 9) qa_nil)) qa_nil)) qa_nil))))
    (qb_cons (qs_flat (qs_setCH rfl ["_law_way", "_law_rows", "_law_parts", "_law_many"] [10, 8, 7] (i := 17) nd rfl (Or.inl rfl) (qi_list (qe_call GW hr1 rfl cW.name cW.keep cW.bind .nil pass0 (qa_nm (qv 6) (qa_nm (qv 4) qa_nil)))) (fun _ _ _ _ => qts_nil) (fun _ _ _ _ => (qe_tup (qa_nm (qv 0) (qa_cons (qe_compG ["_law_k", "_law_rows", "_law_parts"] [1, 2] (qi_range1 rfl C.range (qa_nm (qv 3) qa_nil)) (fun _ _ _ _ => (qts_one (qt_cmpR (op_ninD (K := K) rfl hu) (qe_lst (qa_nm (qv 0) qa_nil)) (qv 1) (by with_unfolding_all rfl)))) (fun _ _ _ _ => (qe_ix (ixK (K := K) rfl) (qv 2) (qv 0) (fun _ _ => rfl)))) qa_nil))))))
    (qb_cons (qs_flat (qs_set (i := 18) nd rfl (Or.inl rfl) (qe_call GR hr rfl cR.name cR.keep cR.bind .nil pass0 (qa_sub (qe_ix ix_list (qv 16) qe_int (fun _ _ => rfl)) (qa_sub (qe_ix ix_list (qv 16) qe_int (fun _ _ => rfl)) (qa_nm (qv 15) qa_nil))))))
    (qb_cons (qs_if (QW.qt (qw_or (qt_not (qt_val (qe_call GI hr1 rfl cI.name cI.keep cI.bind .nil pass0 (qa_nm (qv 18) (qa_nm (qv 17) qa_nil))))) (qw_or (qt_cmpR (op_neD hu) (qv 16) (qe_lst (qa_tp (qa_nm (qv 6) (qa_nm (qv 8) qa_nil)) (qa_tp (qa_ls qa_nil (qa_nm (qv 9) qa_nil)) qa_nil))) (nomark _)) (qw_or1 (qt_cmpR (op_neD hu) (qv 15) (qe_call GP hr1 rfl cP.name cP.keep cP.bind .nil pass0 (qa_nm (qv 4) (qa_nm (qv 10) qa_nil))) (nomark _)))))) (qb_one (qs_ret qe_bl)) qb_nil)
    (qb_cons (qs_for PassesOwn.never rfl (qi_range1 rfl C.range (qa_call (qe_callB call_len_seq rfl C.len PySem.boot_len (qa_nm (qv 18) qa_nil)) qa_nil)) (qg_name (i := 11) nd rfl (Or.inl rfl)) (qb_cons (qs_expr (qe_bm0 PySem.F.plainAttrs_list PySem.F.slot_list_clear PySem.F.type_list_clear mt_clear (qe_ix ix_tup (qe_ix ix_list (qv 18) (qv 11) (fun _ _ => rfl)) qe_int (fun _ _ => rfl))))
    (qb_cons (qs_expr (qe_bm0 PySem.F.plainAttrs_list PySem.F.slot_list_clear PySem.F.type_list_clear mt_clear (qe_ix ix_tup (qe_ix ix_list (qv 18) (qv 11) (fun _ _ => rfl)) qe_int (fun _ _ => rfl))))
    (qb_one (qs_if (qt_not (qt_val (qe_call GI hr1 rfl cI.name cI.keep cI.bind .nil pass0 (qa_sub (qe_slice sl_list (qv 18) (qo_some (qe_op op_add (qv 11) qe_int)) qo_none) (qa_sub (qe_slice sl_list (qv 17) (qo_some (qe_op op_add (qv 11) qe_int)) qo_none) qa_nil))))) (qb_one (qs_ret qe_bl)) qb_nil)))))
    (qb_one (qs_ret (qe_call GI hr1 rfl cI.name cI.keep cI.bind .nil pass0 (qa_call (qe_call GR hr rfl cR.name cR.keep cR.bind .nil pass0 (qa_sub (qe_ix ix_list (qv 16) qe_int (fun _ _ => rfl)) (qa_sub (qe_ix ix_list (qv 16) qe_int (fun _ _ => rfl)) (qa_nm (qv 15) qa_nil)))) (qa_nm (qv 17) qa_nil)))))))))))))))))))))), ?_⟩
  refine ⟨_, rfl, a, ns, 0, rfl, hS, cellAt ns 0, 6, rfl, by decide, fun l0 xs H1 e1 hL0 hx6 hxn => ?_⟩
  have at4 : atI (xs.map V.str) (4 : Int) = some (.str (xs.getD 4 "")) := getD_at (i := 4) (by lia)
  have at5 : atI (xs.map V.str) (5 : Int) = some (.str (xs.getD 5 "")) := getD_at (i := 5) (by lia)
  have okg : ∀ i, i < 6 → Ok (xs.getD i "") := fun i hi => by
    rw [List.getD_eq_getElem?_getD, List.getElem?_eq_getElem (by lia)]
    exact (hxn _ (List.getElem_mem _)).1.ok
  have ok4 := okg 4 (by decide)
  have ok5 := okg 5 (by decide)
  have okN : Ok "nil" := show (PyData.str "nil").canLay0 = true by decide +kernel
  generalize xs.getD 4 "" = n4 at at4 ok4 ⊢
  generalize xs.getD 5 "" = n5 at at5 ok5 ⊢
  refine ⟨_, rfl, l0, _, 4, _, rfl, rfl, SqL.of hL0, at4, _, rfl, l0, _, 5, _, rfl, rfl, SqL.of hL0, at5, (show 2 ≤ sizeLine by decide), fun t1 ht1 => ?_⟩
  have s1 := same_new ht1 (.tup [.str n4, .str n5])
  have k1 : (upd H1 t1 (.tup [.str n4, .str n5])) t1 = some (.tup [.str n4, .str n5]) := upd_same
  generalize upd H1 t1 (.tup [.str n4, .str n5]) = H2 at s1 k1 ⊢
  refine ⟨_, rfl, l0, _, 5, _, rfl, rfl, SqL.of (s1 _ _ hL0), at5, (show 2 ≤ sizeLine by decide), fun t2 ht2 => ?_⟩
  have s2 := same_new ht2 (.tup [.str n5, .str "nil"])
  have k2 : (upd H2 t2 (.tup [.str n5, .str "nil"])) t2 = some (.tup [.str n5, .str "nil"]) := upd_same
  generalize upd H2 t2 (.tup [.str n5, .str "nil"]) = H3 at s2 k2 ⊢
  refine ⟨_, rfl, l0, _, 4, _, rfl, rfl, SqL.of ((s1.trans s2) _ _ hL0), at4, (show 2 ≤ sizeLine by decide), fun t3 ht3 => ?_⟩
  have s3 := same_new ht3 (.tup [.str "nil", .str n4])
  have k3 : (upd H3 t3 (.tup [.str "nil", .str n4])) t3 = some (.tup [.str "nil", .str n4]) := upd_same
  generalize upd H3 t3 (.tup [.str "nil", .str n4]) = H4 at s3 k3 ⊢
  refine ⟨_, rfl, l0, _, 5, _, rfl, rfl, SqL.of (((s1.trans s2).trans s3) _ _ hL0), at5, _, rfl, l0, _, 4, _, rfl, rfl, SqL.of (((s1.trans s2).trans s3) _ _ hL0), at4, (show 2 ≤ sizeLine by decide), fun t4 ht4 => ?_⟩
  have s4 := same_new ht4 (.tup [.str n5, .str n4])
  have k4 : (upd H4 t4 (.tup [.str n5, .str n4])) t4 = some (.tup [.str n5, .str n4]) := upd_same
  generalize upd H4 t4 (.tup [.str n5, .str n4]) = H5 at s4 k4 ⊢
  refine ⟨(show 4 ≤ sizeLine by decide), fun prl hprl => ?_⟩
  have s5 := same_new hprl (.lst [.ref t1, .ref t2, .ref t3, .ref t4])
  have hpr0 : PrsAt (upd H5 prl (.lst [.ref t1, .ref t2, .ref t3, .ref t4])) prl [(n4, n5), (n5, "nil"), ("nil", n4), (n5, n4)] :=
    ⟨[t1, t2, t3, t4], upd_same, .cons ((((s2.trans s3).trans s4).trans s5) _ _ k1) (.cons (((s3.trans s4).trans s5) _ _ k2) (.cons ((s4.trans s5) _ _ k3) (.cons (s5 _ _ k4) .nil)))⟩
  have e5 : Same H (upd H5 prl (.lst [.ref t1, .ref t2, .ref t3, .ref t4])) := ((((e1.trans s1).trans s2).trans s3).trans s4).trans s5
  have hL5 : (upd H5 prl (.lst [.ref t1, .ref t2, .ref t3, .ref t4])) l0 = some (.lst (xs.map V.str)) := ((((s1.trans s2).trans s3).trans s4).trans s5) _ _ hL0
  generalize upd H5 prl (.lst [.ref t1, .ref t2, .ref t3, .ref t4]) = H6 at hpr0 e5 hL5 ⊢
  intro τ eτ
  obtain rfl : τ = [some (.ref a), some (.ref l0), some (.ref prl), none, none, none, none, none, none, none, none, none, none, none, none, none, none, none, none] := eτ
  clear s1 s2 s3 s4 s5 k1 k2 k3 k4 ht1 ht2 ht3 ht4 hprl hL0 e1
  have okP : ∀ s ∈ ([(n4, n5), (n5, "nil"), ("nil", n4), (n5, n4)] : List (Str × Str)), Ok s.1 ∧ Ok s.2 := fun s hs => by
    simp only [List.mem_cons, List.not_mem_nil, or_false] at hs
    rcases hs with rfl | rfl | rfl | rfl
    · exact ⟨ok4, ok5⟩
    · exact ⟨ok5, okN⟩
    · exact ⟨okN, ok4⟩
    · exact ⟨ok5, ok4⟩
  have hPS : ([(n4, n5), (n5, "nil"), ("nil", n4), (n5, n4)] : List (Str × Str)).length = 4 := rfl
  generalize ([(n4, n5), (n5, "nil"), ("nil", n4), (n5, n4)] : List (Str × Str)) = PS at hpr0 okP hPS
  refine ⟨_, rfl, a, ns, 1, rfl, e5.seq hS, ?_⟩
  generalize cellAt ns 1 = cc
  refine ⟨_, rfl, cc, 1, rfl, by decide, fun m1 hm1 => ?_⟩
  have m5 := Int.emod_nonneg m1 (show (5 : Int) ≠ 0 by decide)
  have m5' := Int.emod_lt_of_pos m1 (show (0 : Int) < 5 by decide)
  refine ⟨_, _, rfl, rfl, (show (0 : Int) < 5 by decide), _, rfl, by lia, by lia, ?_⟩
  refine comp_rel (nums 0 (m1 % 5).toNat) (fun _ => true) (fun D x y H' => ∃ (b : Addr) (s : Str × Str), y = V.ref b ∧ s ∈ PS ∧ H6 b = some (.tup ((pr s).map V.str))) jseq_rng trivial (by unfold nums; rw [List.length_map, List.length_range]; exact le_line (by lia))
    (fun D x y H7 H8 hR _ => hR) (fun x hx H7 e7 Q' q' => q' H7 (Same.refl _)) (fun D x hx _ H7 e7 _ Q' q' => ?_) (fun D H7 ys hD e7 hD7 hpp => ?_)
  · obtain ⟨i, hi, rfl⟩ := List.mem_map.mp hx
    obtain ⟨as, hpl, hat⟩ := pair_at hpr0 hPS
    have hi5 := List.mem_range.mp hi
    refine ⟨_, rfl, _, rfl, _, rfl, _, _, rfl, rfl, cc, 20 + i, ints2 (by lia), (by lia), fun m hm => ?_⟩
    obtain ⟨b, s, h1, h2, h3⟩ := hat m
    exact ⟨_, _, rfl, rfl, (show (0 : Int) < 4 by decide), prl, _, _, _, rfl, rfl, SqL.of (e7 _ _ hpl), h1, q' _ H7 (Same.refl _) ⟨b, s, rfl, h2, h3⟩⟩
  obtain ⟨sas, S, rfl, hsp, hSP, hSl⟩ := rows_ext hpp
  have hS4 : S.length ≤ 4 := by
    rw [hSl]
    refine Nat.le_trans (List.length_filter_le _ _) ?_
    unfold nums
    rw [List.length_map, List.length_range]
    lia
  have hsl7 : RowsAt K H7 D (S.map pr) := ⟨sas, hD7, Paired.mapP hsp fun _ _ z => SqT.of (e7 _ _ z)⟩
  have okS : ∀ s ∈ S, Ok s.1 ∧ Ok s.2 := fun s hs => okP s (hSP s hs)
  have hpr7 := hpr0.same e7
  have hL7 := e7 _ _ hL5
  have e07 := e5.trans e7
  clear hpr0 hpp hsp hSl hD7 hD hL5 e5 e7 m5 m5' hm1 hSP
  intro τ eτ
  obtain rfl : τ = [some (.ref a), some (.ref l0), some (.ref prl), some (.int cc), some (.ref D), none, none, none, none, none, none, none, none, none, none, none, none, none, none] := eτ
  refine ⟨(show 2 ≤ sizeLine by decide), fun w0 hw0 => ?_⟩
  have s1 := same_new hw0 (.lst [.str "is", .str "not"])
  have hw1 : (upd H7 w0 (.lst [.str "is", .str "not"])) w0 = some (.lst [.str "is", .str "not"]) := upd_same
  generalize upd H7 w0 (.lst [.str "is", .str "not"]) = H8 at s1 hw1 ⊢
  refine ⟨_, rfl, cc, 2, rfl, by decide, fun m2 hm2 => ?_⟩
  obtain ⟨v, hv, hvm⟩ := at_mod (xs := [V.str "is", V.str "not"]) (m := 2) (i := m2) rfl (by decide)
  obtain ⟨wd, rfl, okw⟩ : ∃ wd : Str, v = .str wd ∧ Ok wd := by
    simp only [List.mem_cons, List.not_mem_nil, or_false] at hvm
    rcases hvm with rfl | rfl
    · exact ⟨_, rfl, show (PyData.str "is").canLay0 = true by decide +kernel⟩
    · exact ⟨_, rfl, show (PyData.str "not").canLay0 = true by decide +kernel⟩
  refine ⟨_, _, rfl, rfl, (show (0 : Int) < 2 by decide), w0, _, _, _, rfl, rfl, SqL.of hw1, hv, ?_⟩
  have okNot : Ok "not" := show (PyData.str "not").canLay0 = true by decide +kernel
  have okIs : Ok "is" := show (PyData.str "is").canLay0 = true by decide +kernel
  have hpr8 := hpr7.same s1
  refine ⟨_, rfl, (show 1 ≤ sizeLine by decide), fun u1 hu1 => ?_⟩
  have s2 := same_new hu1 (.tup [.str wd])
  have k1 : (upd H8 u1 (.tup [.str wd])) u1 = some (.tup [.str wd]) := upd_same
  generalize upd H8 u1 (.tup [.str wd]) = H9 at s2 k1 ⊢
  obtain ⟨pas, hpl9, hat9⟩ := pair_at (hpr8.same s2) hPS
  refine ⟨_, rfl, _, rfl, cc, 3, rfl, by decide, fun m3 hm3 => ?_⟩
  obtain ⟨b1, p1, g1, g2, g3⟩ := hat9 m3
  refine ⟨_, _, rfl, rfl, (show (0 : Int) < 4 by decide), prl, _, _, _, rfl, rfl, SqL.of hpl9, g1, ?_⟩
  refine ⟨u1, b1, _, _, rfl, rfl, SqT.of k1, SqT.of g3, (by simp), (show 3 ≤ sizeLine by decide), (fun z => by cases z), fun _ r1 hr1 => ?_⟩
  have s3 := same_new hr1 (.tup ([.str wd] ++ (pr p1).map V.str))
  have k2 : (upd H9 r1 (.tup ([.str wd] ++ (pr p1).map V.str))) r1 = some (.tup (([wd, p1.1, p1.2] : List Str).map V.str)) := upd_same
  generalize upd H9 r1 (.tup ([.str wd] ++ (pr p1).map V.str)) = H10 at s3 k2 ⊢
  refine ⟨(show 1 ≤ sizeLine by decide), fun u2 hu2 => ?_⟩
  have s4 := same_new hu2 (.tup [.str "not"])
  have k3 : (upd H10 u2 (.tup [.str "not"])) u2 = some (.tup [.str "not"]) := upd_same
  generalize upd H10 u2 (.tup [.str "not"]) = H11 at s4 k3 ⊢
  obtain ⟨pas2, hpl11, hat11⟩ := pair_at (((hpr8.same s2).same s3).same s4) hPS
  refine ⟨_, rfl, _, rfl, cc, 4, rfl, by decide, fun m4 hm4 => ?_⟩
  obtain ⟨b2, p2, g4, g5, g6⟩ := hat11 m4
  refine ⟨_, _, rfl, rfl, (show (0 : Int) < 4 by decide), prl, _, _, _, rfl, rfl, SqL.of hpl11, g4, ?_⟩
  refine ⟨u2, b2, _, _, rfl, rfl, SqT.of k3, SqT.of g6, (by simp), (show 3 ≤ sizeLine by decide), (fun z => by cases z), fun _ r2 hr2 => ?_⟩
  have s5 := same_new hr2 (.tup ([.str "not"] ++ (pr p2).map V.str))
  have k4 : (upd H11 r2 (.tup ([.str "not"] ++ (pr p2).map V.str))) r2 = some (.tup (([("not" : Str), p2.1, p2.2] : List Str).map V.str)) := upd_same
  generalize upd H11 r2 (.tup ([.str "not"] ++ (pr p2).map V.str)) = H12 at s5 k4 ⊢
  refine ⟨(show 2 ≤ sizeLine by decide), fun f0 hf0 => ?_⟩
  have s6 := same_new hf0 (.lst [.ref r1, .ref r2])
  have k5 : (upd H12 f0 (.lst [.ref r1, .ref r2])) f0 = some (.lst [.ref r1, .ref r2]) := upd_same
  have hr1' := ((s4.trans s5).trans s6) _ _ k2
  have hr2' := s6 _ _ k4
  have e712 : Same H7 (upd H12 f0 (.lst [.ref r1, .ref r2])) := ((((s1.trans s2).trans s3).trans s4).trans s5).trans s6
  generalize upd H12 f0 (.lst [.ref r1, .ref r2]) = H13 at k5 hr1' hr2' e712 ⊢
  have okr1 : RowO [wd, p1.1, p1.2] := fun y hy => by
    simp only [List.mem_cons, List.not_mem_nil, or_false] at hy
    rcases hy with rfl | rfl | rfl
    · exact okw
    · exact (okP _ g2).1
    · exact (okP _ g2).2
  have okr2 : RowO [("not" : Str), p2.1, p2.2] := fun y hy => by
    simp only [List.mem_cons, List.not_mem_nil, or_false] at hy
    rcases hy with rfl | rfl | rfl
    · exact okNot
    · exact (okP _ g5).1
    · exact (okP _ g5).2
  generalize ([wd, p1.1, p1.2] : List Str) = R1 at hr1' okr1
  generalize ([("not" : Str), p2.1, p2.2] : List Str) = R2 at hr2' okr2
  have hL13 := e712 _ _ hL7
  have e13 := e07.trans e712
  have hsl13 := hsl7.same e712
  clear s1 s2 s3 s4 s5 s6 k1 k2 k3 k4 hu1 hu2 hr1 hr2 hf0 hpl9 hat9 hpl11 hat11 g1 g2 g3 g4 g5 g6 hpr8 hpr7 hw1 hw0 hv hvm e712 hL7 hsl7 e07 okw
  refine ⟨_, rfl, l0, _, 4, _, rfl, rfl, SqL.of hL13, at4, _, rfl, l0, _, 4, _, rfl, rfl, SqL.of hL13, at4, (show 3 ≤ sizeLine by decide), fun q1 hq1 => ?_⟩
  have s1 := same_new hq1 (.tup [.str "is", .str n4, .str n4])
  have k1 : (upd H13 q1 (.tup [.str "is", .str n4, .str n4])) q1 = some (.tup (([("is" : Str), n4, n4] : List Str).map V.str)) := upd_same
  generalize upd H13 q1 (.tup [.str "is", .str n4, .str n4]) = H14 at s1 k1 ⊢
  refine ⟨_, rfl, l0, _, 5, _, rfl, rfl, SqL.of (s1 _ _ hL13), at5, _, rfl, l0, _, 5, _, rfl, rfl, SqL.of (s1 _ _ hL13), at5, (show 3 ≤ sizeLine by decide), fun q2 hq2 => ?_⟩
  have s2 := same_new hq2 (.tup [.str "is", .str n5, .str n5])
  have k2 : (upd H14 q2 (.tup [.str "is", .str n5, .str n5])) q2 = some (.tup (([("is" : Str), n5, n5] : List Str).map V.str)) := upd_same
  generalize upd H14 q2 (.tup [.str "is", .str n5, .str n5]) = H15 at s2 k2 ⊢
  refine ⟨(show 2 ≤ sizeLine by decide), fun lq hlq => ?_⟩
  have s3 := same_new hlq (.lst [.ref q1, .ref q2])
  have k3 : (upd H15 lq (.lst [.ref q1, .ref q2])) lq = some (.lst [.ref q1, .ref q2]) := upd_same
  generalize upd H15 lq (.lst [.ref q1, .ref q2]) = H16 at s3 k3 ⊢
  refine ⟨_, rfl, _, rfl, cc, 5, rfl, by decide, fun m5 hm5 => ?_⟩
  obtain ⟨j5, hj5⟩ : ∃ j : Nat, m5 % 3 = (j : Int) := ⟨(m5 % 3).toNat, by have := Int.emod_nonneg m5 (show (3 : Int) ≠ 0 by decide); lia⟩
  refine ⟨_, _, rfl, rfl, (show (0 : Int) < 3 by decide), _, rfl, f0, _, rfl, SqL.of (((s1.trans s2).trans s3) _ _ k5), fun cu hcu => ?_⟩
  rw [hj5, cut_V]
  have s4 := same_new hcu (.lst (([.ref r1, .ref r2] : List V).take j5))
  have k4 : (upd H16 cu (.lst (([.ref r1, .ref r2] : List V).take j5))) cu = some (.lst (([.ref r1, .ref r2] : List V).take j5)) := upd_same
  generalize upd H16 cu (.lst (([.ref r1, .ref r2] : List V).take j5)) = H17 at s4 k4 ⊢
  have hlt : (([.ref r1, .ref r2] : List V).take j5).length ≤ 2 := by rw [List.length_take]; exact Nat.min_le_right _ _
  refine ⟨lq, cu, _, _, rfl, rfl, s4 _ _ k3, k4, le_line (by show 2 + _ ≤ 1000; lia), fun fl hfl => ?_⟩
  have s5 := same_new hfl (.lst ([.ref q1, .ref q2] ++ ([.ref r1, .ref r2] : List V).take j5))
  have e1317 : Same H13 (upd H17 fl (.lst ([.ref q1, .ref q2] ++ ([.ref r1, .ref r2] : List V).take j5))) := (((s1.trans s2).trans s3).trans s4).trans s5
  have hF18 : RowsAt K (upd H17 fl (.lst ([.ref q1, .ref q2] ++ ([.ref r1, .ref r2] : List V).take j5))) fl ([[("is" : Str), n4, n4], [("is" : Str), n5, n5]] ++ [R1, R2].take j5) := by
    refine ⟨[q1, q2] ++ [r1, r2].take j5, ?_, Paired.app (.cons (SqT.of ((((s2.trans s3).trans s4).trans s5) _ _ k1)) (.cons (SqT.of (((s3.trans s4).trans s5) _ _ k2)) .nil)) (paired_take j5 (.cons (SqT.of (e1317 _ _ hr1')) (.cons (SqT.of (e1317 _ _ hr2')) .nil)))⟩
    rw [upd_same, List.map_append, List.map_take]; rfl
  have okF : RowsOk ([[("is" : Str), n4, n4], [("is" : Str), n5, n5]] ++ [R1, R2].take j5) := fun r hr => by
    rcases List.mem_append.mp hr with z | z
    · simp only [List.mem_cons, List.not_mem_nil, or_false] at z
      rcases z with rfl | rfl
      · intro y hy
        simp only [List.mem_cons, List.not_mem_nil, or_false] at hy
        rcases hy with rfl | rfl | rfl
        · exact okIs
        · exact ok4
        · exact ok4
      · intro y hy
        simp only [List.mem_cons, List.not_mem_nil, or_false] at hy
        rcases hy with rfl | rfl | rfl
        · exact okIs
        · exact ok5
        · exact ok5
    · have := List.mem_of_mem_take z
      simp only [List.mem_cons, List.not_mem_nil, or_false] at this
      rcases this with rfl | rfl
      · exact okr1
      · exact okr2
  have hFl : ([[("is" : Str), n4, n4], [("is" : Str), n5, n5]] ++ [R1, R2].take j5).length ≤ 4 := by
    rw [List.length_append, List.length_take]
    show 2 + min j5 2 ≤ 4
    lia
  generalize ([[("is" : Str), n4, n4], [("is" : Str), n5, n5]] ++ [R1, R2].take j5) = Fs at hF18 okF hFl
  have hL18 := e1317 _ _ hL13
  have e18 := e13.trans e1317
  have hsl18 := hsl13.same e1317
  clear s1 s2 s3 s4 s5 k1 k2 k3 k4 k5 hq1 hq2 hlq hcu hlt hj5 hr1' hr2' okr1 okr2 hL13 hsl13 e13 e1317 hfl
  generalize upd H17 fl (.lst ([.ref q1, .ref q2] ++ ([.ref r1, .ref r2] : List V).take j5)) = H18 at hF18 hL18 e18 hsl18 ⊢
  intro τ eτ
  obtain rfl : τ = [some (.ref a), some (.ref l0), some (.ref prl), some (.int cc), some (.ref D), some (.str wd), some (.ref fl), none, none, none, none, none, none, none, none, none, none, none, none] := eτ
  refine ⟨_, rfl, cc, 6, rfl, by decide, fun m6 hm6 => ?_⟩
  have h64 := Int.emod_nonneg m6 (show (4 : Int) ≠ 0 by decide)
  have h64' := Int.emod_lt_of_pos m6 (show (0 : Int) < 4 by decide)
  refine ⟨_, _, rfl, rfl, (show (0 : Int) < 4 by decide), _, _, rfl, rfl, ?_⟩
  obtain ⟨m, hm, hm4⟩ : ∃ m : Nat, 1 + m6 % 4 = (m : Int) ∧ m ≤ 4 := ⟨(1 + m6 % 4).toNat, by lia, by lia⟩
  intro τ eτ
  obtain rfl : τ = [some (.ref a), some (.ref l0), some (.ref prl), some (.int cc), some (.ref D), some (.str wd), some (.ref fl), some (.int (m : Int)), none, none, none, none, none, none, none, none, none, none, none] := by rw [← hm]; exact eτ
  clear hm h64 h64' hm6 eτ
  refine ⟨Nat.zero_le _, fun pl hpl => ?_⟩
  have s1 := same_new hpl (.lst [])
  have k1 : (upd H18 pl (.lst [])) pl = some (.lst []) := upd_same
  show tSeq _ _ _ _ (upd H18 pl (.lst []))
  generalize upd H18 pl (.lst []) = H19 at s1 k1 ⊢
  refine ⟨Nat.zero_le _, fun wl hwl => ?_⟩
  have s2 := same_new hwl (.lst [])
  have k2 : (upd H19 wl (.lst [])) wl = some (.lst []) := upd_same
  have npw : pl ≠ wl := ne_of_none k1 hwl
  show tSeq _ _ _ _ (upd H19 wl (.lst []))
  generalize upd H19 wl (.lst []) = H20 at s2 k2 ⊢
  refine ⟨Nat.zero_le _, fun rl hrl => ?_⟩
  have s3 := same_new hrl (.lst [])
  have k3 : (upd H20 rl (.lst [])) rl = some (.lst []) := upd_same
  have npr : pl ≠ rl := ne_of_none (s2 _ _ k1) hrl
  have nwr : wl ≠ rl := ne_of_none k2 hrl
  generalize upd H20 rl (.lst []) = H21 at s3 k3 ⊢
  intro τ eτ
  obtain rfl : τ = [some (.ref a), some (.ref l0), some (.ref prl), some (.int cc), some (.ref D), some (.str wd), some (.ref fl), some (.int (m : Int)), some (.ref pl), some (.ref wl), some (.ref rl), none, none, none, none, none, none, none, none] := eτ
  have fw : H18 wl = none := s1.free hwl
  have fr : H18 rl = none := (s1.trans s2).free hrl
  refine ⟨_, rfl, _, rfl, by lia, by lia, ?_⟩
  refine for_range (lo := 0) (n := (m : Int).toNat) (LI K H18 a l0 prl D fl cc wd m pl wl rl) ⟨[], [], [], [], [], [], none, none, none, none, (s1.trans s2).trans s3, (s2.trans s3) _ _ k1, .nil, rfl, (fun r hr => by cases hr), s3 _ _ k2, .nil, (fun r hr => by cases hr), Nat.le_refl _, k3, .nil, rfl, (fun r hr => by cases hr), rfl⟩ ?_ ?_
  · rintro i σ H5 hi ⟨Ps, Wd, pas, was, ras, ks, z11, z12, z13, z14, e5, hp, hpp, hpi, okPs, hw, hwp, okW, hwi, hrr, hrp, hki, hrn, rfl⟩
    rw [Int.zero_add]
    have hi4 : i < 4 := by lia
    have hL := e5 _ _ hL18
    have ati : atI (xs.map V.str) (i : Int) = some (.str (xs.getD i "")) := getD_at (by lia)
    have oki := okg i (by lia)
    generalize xs.getD i "" = xi at ati oki
    refine ⟨_, rfl, _, rfl, _, _, rfl, rfl, a, ns, 4 + i, refint (by lia), (e18.trans e5).seq hS, _, rfl, cellAt ns (4 + i), i, rfl, by lia, fun n hn => ?_⟩
    refine ⟨_, rfl, _, rfl, l0, _, _, _, rfl, rfl, SqL.of hL, ati, _, rfl, (show 1 ≤ sizeLine by decide), fun x1 hx1 => ?_⟩
    have t1 := same_new hx1 (.lst [.str "nil"])
    have u1 : (upd H5 x1 (.lst [.str "nil"])) x1 = some (.lst [.str "nil"]) := upd_same
    generalize upd H5 x1 (.lst [.str "nil"]) = H6 at t1 u1 ⊢
    refine ⟨l0, x1, _, _, rfl, rfl, t1 _ _ hL, u1, le_line (by rw [List.length_map, hx6]; decide), fun c1 hc1 => ?_⟩
    have t2 := same_new hc1 (.lst (xs.map V.str ++ [.str "nil"]))
    have u2 : (upd H6 c1 (.lst (xs.map V.str ++ [.str "nil"]))) c1 = some (.lst ((xs ++ [("nil" : Str)]).map V.str)) := by rw [upd_same, List.map_append]; rfl
    generalize upd H6 c1 (.lst (xs.map V.str ++ [.str "nil"])) = H7 at t2 u2 ⊢
    have okx : ∀ y ∈ xs ++ [("nil" : Str)], Ok y := fun y hy => by
      rcases List.mem_append.mp hy with z | z
      · exact (hxn y z).1.ok
      · rw [List.mem_singleton.mp z]; exact okN
    have hx7 : (((xs ++ [("nil" : Str)]).map V.str).length : Int) = 7 := by rw [List.length_map, List.length_append, hx6]; rfl
    obtain ⟨v1, hv1, hvm1⟩ := at_mod (xs := (xs ++ [("nil" : Str)]).map V.str) (m := 7) (i := n) hx7 (by decide)
    obtain ⟨y1, hy1, rfl⟩ := List.mem_map.mp hvm1
    refine ⟨_, rfl, _, _, rfl, rfl, (show (0 : Int) < 7 by decide), c1, _, _, _, rfl, rfl, SqL.of u2, hv1, ?_⟩
    refine ⟨_, rfl, (show 1 ≤ sizeLine by decide), fun x2 hx2 => ?_⟩
    have t3 := same_new hx2 (.lst [.str "nil"])
    have u3 : (upd H7 x2 (.lst [.str "nil"])) x2 = some (.lst [.str "nil"]) := upd_same
    generalize upd H7 x2 (.lst [.str "nil"]) = H8 at t3 u3 ⊢
    refine ⟨l0, x2, _, _, rfl, rfl, ((t1.trans t2).trans t3) _ _ hL, u3, le_line (by rw [List.length_map, hx6]; decide), fun c2 hc2 => ?_⟩
    have t4 := same_new hc2 (.lst (xs.map V.str ++ [.str "nil"]))
    have u4 : (upd H8 c2 (.lst (xs.map V.str ++ [.str "nil"]))) c2 = some (.lst ((xs ++ [("nil" : Str)]).map V.str)) := by rw [upd_same, List.map_append]; rfl
    generalize upd H8 c2 (.lst (xs.map V.str ++ [.str "nil"])) = H9 at t4 u4 ⊢
    obtain ⟨v2, hv2, hvm2⟩ := at_mod (xs := (xs ++ [("nil" : Str)]).map V.str) (m := 7) (i := n / 7) hx7 (by decide)
    obtain ⟨y2, hy2, rfl⟩ := List.mem_map.mp hvm2
    refine ⟨_, rfl, _, _, rfl, rfl, (show CDiv _ 7 from ⟨by decide, by decide⟩), _, _, rfl, rfl, (show (0 : Int) < 7 by decide), c2, _, _, _, rfl, rfl, SqL.of u4, hv2, ?_⟩
    refine ⟨(show 4 ≤ sizeLine by decide), fun t ht => ?_⟩
    have t5 := same_new ht (.tup [.str "cell", .str xi, .str y1, .str y2])
    have u5 : (upd H9 t (.tup [.str "cell", .str xi, .str y1, .str y2])) t = some (.tup [.str "cell", .str xi, .str y1, .str y2]) := upd_same
    have t15 := (((t1.trans t2).trans t3).trans t4).trans t5
    show tSeq _ _ _ _ (upd H9 t (.tup [.str "cell", .str xi, .str y1, .str y2]))
    generalize upd H9 t (.tup [.str "cell", .str xi, .str y1, .str y2]) = H10 at t15 u5 ⊢
    clear t1 t2 t3 t4 t5 u1 u2 u3 u4 hx1 hx2 hc1 hc2 ht hv1 hv2 hvm1 hvm2
    have okC : Ok "cell" := show (PyData.str "cell").canLay0 = true by decide +kernel
    have okA : Ok "any" := show (PyData.str "any").canLay0 = true by decide +kernel
    have ok1 := okx y1 hy1
    have ok2 := okx y2 hy2
    have okr : ∀ y ∈ ([("cell" : Str), xi, y1, y2] : List Str), Ok y := fun y hy => by
      simp only [List.mem_cons, List.not_mem_nil, or_false] at hy
      rcases hy with rfl | rfl | rfl | rfl
      · exact okC
      · exact oki
      · exact ok1
      · exact ok2
    have okr' : ∀ y ∈ ([("cell" : Str), xi, "any", y2] : List Str), Ok y := fun y hy => by
      simp only [List.mem_cons, List.not_mem_nil, or_false] at hy
      rcases hy with rfl | rfl | rfl | rfl
      · exact okC
      · exact oki
      · exact okA
      · exact ok2
    have hp10 := t15 _ _ hp
    have hpl' := Paired.length hpp
    have hwl' := Paired.length hwp
    refine ⟨_, rfl, (.inl ⟨rfl, _, SqL.of hp10⟩), _, rfl, pl, pas.map V.ref, _, rfl, rfl, hp10, lt_line (by rw [List.length_map]; lia), ?_⟩
    have e11 : Same H18 (upd H10 pl (.lst (pas.map V.ref ++ [.ref t]))) := fun b o h => by rw [upd_ne (ne_of_none h hpl)]; exact (e5.trans t15) _ _ h
    have hp11 : (upd H10 pl (.lst (pas.map V.ref ++ [.ref t]))) pl = some (.lst ((pas ++ [t]).map V.ref)) := by rw [upd_same, List.map_append]; rfl
    have hpp11 : Paired (fun b r => RowAt K (upd H10 pl (.lst (pas.map V.ref ++ [.ref t]))) b r) (pas ++ [t]) (Ps ++ [[("cell" : Str), xi, y1, y2]]) := Paired.app (Paired.mapP hpp fun _ _ z => row_put hp10 (RowAt.same z t15)) (.cons (row_put hp10 (SqT.of u5)) .nil)
    have ht11 : SqT K (upd H10 pl (.lst (pas.map V.ref ++ [.ref t]))) t [.str "cell", .str xi, .str y1, .str y2] := sq_put hp10 (SqT.of u5)
    have hw11 : (upd H10 pl (.lst (pas.map V.ref ++ [.ref t]))) wl = some (.lst (was.map V.ref)) := by rw [upd_ne npw.symm]; exact t15 _ _ hw
    have hwp11 : Paired (fun b r => RowAt K (upd H10 pl (.lst (pas.map V.ref ++ [.ref t]))) b r) was Wd := Paired.mapP hwp fun _ _ z => row_put hp10 (RowAt.same z t15)
    have hr11 : (upd H10 pl (.lst (pas.map V.ref ++ [.ref t]))) rl = some (.lst (ras.map V.ref)) := by rw [upd_ne npr.symm]; exact t15 _ _ hrr
    have hrp11 : Paired (fun b (k : Nat) => (upd H10 pl (.lst (pas.map V.ref ++ [.ref t]))) b = some (.lst [.int (k : Int)])) ras ks := paired_mapM hrp fun b hb k z => by rw [upd_ne (hrn b hb).1]; exact t15 _ _ z
    have okP' : RowsOk (Ps ++ [[("cell" : Str), xi, y1, y2]]) := fun r hr => by
      rcases List.mem_append.mp hr with z | z
      · exact okPs r z
      · rw [List.mem_singleton.mp z]; exact okr
    have hpi' : (Ps ++ [[("cell" : Str), xi, y1, y2]]).length = i + 1 := by rw [List.length_append, hpi]; rfl
    generalize upd H10 pl (.lst (pas.map V.ref ++ [.ref t])) = H11 at e11 hp11 hpp11 ht11 hw11 hwp11 hr11 hrp11 ⊢
    generalize Ps ++ [[("cell" : Str), xi, y1, y2]] = Ps' at hpp11 okP' hpi'
    generalize pas ++ [t] = pas' at hp11 hpp11
    clear hp10 hpp hp okPs t15 u5 hwp hw hrp hrr hL
    refine ⟨_, rfl, _, _, rfl, rfl, (show CDiv _ 81 from ⟨by decide, by decide⟩), _, _, rfl, rfl, (show (0 : Int) < 2 by decide), rfl, _, rfl, iteB (fun _ => ?_) (fun _ => ?_)⟩
    · refine ⟨_, rfl, _, _, rfl, rfl, (show CDiv _ 162 from ⟨by decide, by decide⟩), _, rfl, wl, _, rfl, .inl (SqL.of hw11), _, _, rfl, rfl, _, _, rfl, rfl, (show (0 : Int) < ((was.map V.ref).length : Nat) + 1 by lia), ?_⟩
      obtain ⟨j, hj, hjl⟩ : ∃ j : Nat, n / 162 % (((was.map V.ref).length : Nat) + 1 : Int) = (j : Int) ∧ j ≤ was.length := by
        have q1 := Int.emod_nonneg (n / 162) (show (((was.map V.ref).length : Nat) + 1 : Int) ≠ 0 by lia)
        have q2 := Int.emod_lt_of_pos (n / 162) (show (0 : Int) < ((was.map V.ref).length : Nat) + 1 by lia)
        rw [List.length_map] at q1 q2 ⊢
        exact ⟨(n / 162 % ((was.length : Nat) + 1 : Int)).toNat, by lia, by lia⟩
      show gName _ (V.int (n / 162 % (((was.map V.ref).length : Nat) + 1 : Int))) _ _ _
      rw [hj]
      refine ⟨_, rfl, (.inl ⟨rfl, _, SqL.of hw11⟩), _, rfl, _, rfl, _, rfl, t, _, 1, _, rfl, rfl, ht11, rfl, _, rfl, t, _, 3, _, rfl, rfl, ht11, rfl, (show 4 ≤ sizeLine by decide), fun t' ht' => ?_⟩
      have v1 := same_new ht' (.tup [.str "cell", .str xi, .str "any", .str y2])
      have w1 : (upd H11 t' (.tup [.str "cell", .str xi, .str "any", .str y2])) t' = some (.tup [.str "cell", .str xi, .str "any", .str y2]) := upd_same
      generalize upd H11 t' (.tup [.str "cell", .str xi, .str "any", .str y2]) = H12 at v1 w1 ⊢
      refine ⟨(show 2 ≤ sizeLine by decide), fun lq hlq => ?_⟩
      have v2 := same_new hlq (.lst [.ref t, .ref t'])
      have w2 : (upd H12 lq (.lst [.ref t, .ref t'])) lq = some (.lst [.ref t, .ref t']) := upd_same
      generalize upd H12 lq (.lst [.ref t, .ref t']) = H13 at v2 w2 ⊢
      refine ⟨_, rfl, _, _, rfl, rfl, (show CDiv _ 1000 from ⟨by decide, by decide⟩), _, _, rfl, rfl, (show (0 : Int) < 3 by decide), rfl, _, rfl, ?_⟩
      have v12 := v1.trans v2
      obtain ⟨tt, rr, hat, hrr2, okrr⟩ : ∃ (tt : Addr) (rr : List Str), atI [V.ref t, V.ref t'] (if decide (V.int (n / 1000 % 3) = V.int 0) = true then (1 : Int) else 0) = some (.ref tt) ∧ RowAt K H13 tt rr ∧ ∀ y ∈ rr, Ok y := by
        by_cases c : decide (V.int (n / 1000 % 3) = V.int 0) = true
        · rw [if_pos c]; exact ⟨t', [("cell" : Str), xi, "any", y2], rfl, SqT.of (v2 _ _ w1), okr'⟩
        · rw [if_neg c]; exact ⟨t, [("cell" : Str), xi, y1, y2], rfl, v12.seqT ht11, okr⟩
      refine ⟨lq, _, _, _, rfl, rfl, SqL.of w2, hat, ?_⟩
      have hw13 := v12 _ _ hw11
      refine ⟨wl, was.map V.ref, j, .ref tt, rfl, rfl, hw13, by rw [List.length_map]; exact hjl, by rw [List.length_map]; lia, ?_⟩
      rw [insV_map (f := V.ref)]
      have e14 : Same H18 (upd H13 wl (.lst ((was.take j ++ tt :: was.drop j).map V.ref))) := fun b o h => by rw [upd_ne (ne_of_none h fw)]; exact (e11.trans v12) _ _ h
      have hp14 : (upd H13 wl (.lst ((was.take j ++ tt :: was.drop j).map V.ref))) pl = some (.lst (pas'.map V.ref)) := by rw [upd_ne npw]; exact v12 _ _ hp11
      have hpp14 : Paired (fun b r => RowAt K (upd H13 wl (.lst ((was.take j ++ tt :: was.drop j).map V.ref))) b r) pas' Ps' := Paired.mapP hpp11 fun _ _ z => row_put hw13 (RowAt.same z v12)
      have hw14 : (upd H13 wl (.lst ((was.take j ++ tt :: was.drop j).map V.ref))) wl = some (.lst ((was.take j ++ tt :: was.drop j).map V.ref)) := upd_same
      have hwp14 : Paired (fun b r => RowAt K (upd H13 wl (.lst ((was.take j ++ tt :: was.drop j).map V.ref))) b r) (was.take j ++ tt :: was.drop j) (Wd.take j ++ rr :: Wd.drop j) := paired_ins (Paired.mapP hwp11 fun _ _ z => row_put hw13 (RowAt.same z v12)) (row_put hw13 hrr2) j
      have hr14 : (upd H13 wl (.lst ((was.take j ++ tt :: was.drop j).map V.ref))) rl = some (.lst (ras.map V.ref)) := by rw [upd_ne nwr.symm]; exact v12 _ _ hr11
      have hrp14 : Paired (fun b (k : Nat) => (upd H13 wl (.lst ((was.take j ++ tt :: was.drop j).map V.ref))) b = some (.lst [.int (k : Int)])) ras ks := paired_mapM hrp11 fun b hb k z => by rw [upd_ne (hrn b hb).2.1]; exact v12 _ _ z
      have okW' : RowsOk (Wd.take j ++ rr :: Wd.drop j) := fun r hr => by
        rcases mem_ins hr with z | z
        · rw [z]; exact okrr
        · exact okW r z
      have hwi' : (Wd.take j ++ rr :: Wd.drop j).length = Wd.length + 1 := len_ins
      generalize was.take j ++ tt :: was.drop j = was' at e14 hp14 hpp14 hw14 hwp14 hr14 hrp14 ⊢
      generalize Wd.take j ++ rr :: Wd.drop j = Wd' at hwp14 okW' hwi'
      generalize upd H13 wl (.lst (was'.map V.ref)) = H14 at e14 hp14 hpp14 hw14 hwp14 hr14 hrp14 ⊢
      clear hp11 hpp11 ht11 hw11 hwp11 hr11 hrp11 e11 v1 v2 v12 w1 w2 hw13 hrr2 hat
      have hrl' := Paired.length hrp14
      refine ⟨_, rfl, (.inl ⟨rfl, _, SqL.of hr14⟩), _, rfl, _, rfl, (show 1 ≤ sizeLine by decide), fun b hb => ?_⟩
      have v1 := same_new hb (.lst [.int (i : Int)])
      have w1 : (upd H14 b (.lst [.int (i : Int)])) b = some (.lst [.int (i : Int)]) := upd_same
      have nb1 : b ≠ pl := (ne_of_none hp14 hb).symm
      have nb2 : b ≠ wl := (ne_of_none hw14 hb).symm
      have nb3 : b ≠ rl := (ne_of_none hr14 hb).symm
      generalize upd H14 b (.lst [.int (i : Int)]) = H15 at v1 w1 ⊢
      have hr15 := v1 _ _ hr14
      refine ⟨rl, ras.map V.ref, j, .ref b, rfl, rfl, hr15, by rw [List.length_map]; lia, by rw [List.length_map]; lia, ?_⟩
      rw [insV_map (f := V.ref)]
      refine ⟨Ps', Wd', pas', was', ras.take j ++ b :: ras.drop j, ks.take j ++ i :: ks.drop j, _, _, _, _, fun b' o h => ?_, ?_, Paired.mapP hpp14 fun _ _ z => row_put hr15 (RowAt.same z v1), hpi', okP', ?_, Paired.mapP hwp14 fun _ _ z => row_put hr15 (RowAt.same z v1), okW', by lia, upd_same, ?_, ?_, fun b' hb' => ?_, rfl⟩
      · rw [upd_ne (ne_of_none h fr)]; exact (e14.trans v1) _ _ h
      · rw [upd_ne npr]; exact v1 _ _ hp14
      · rw [upd_ne nwr]; exact v1 _ _ hw14
      · refine paired_mapM (paired_ins (Paired.mapP hrp14 fun _ _ z => v1 _ _ z) w1 j) fun b' hb' k z => ?_
        rw [upd_ne ?_]
        · exact z
        · rcases mem_ins hb' with y | y
          · rw [y]; exact nb3
          · exact (hrn b' y).2.2
      · rw [len_ins, hwi', hki]
      · rcases mem_ins hb' with y | y
        · rw [y]; exact ⟨nb1, nb2, nb3⟩
        · exact hrn b' y
    · exact ⟨Ps', Wd, pas', was, ras, ks, _, _, _, _, e11, hp11, hpp11, hpi', okP', hw11, hwp11, okW, by lia, hr11, hrp11, hki, hrn, rfl⟩
  rintro σ H5 ⟨Ps, Wd, pas, was, ras, ks, z11, z12, z13, z14, e5, hp, hpp, hpi, okPs, hw, hwp, okW, hwi, hrr, hrp, hki, hrn, rfl⟩
  have hm5 : Ps.length = m := by rw [hpi]; lia
  clear hpi hrn
  have hpl5 := Paired.length hpp
  have hrows : NumsAt H5 rl ks := ⟨ras, hrr, hrp⟩
  have hF5 := hF18.same e5
  have hsl5 := hsl18.same e5
  have hP5 : RowsAt K H5 pl Ps := ⟨pas, hp, hpp⟩
  have hW5 : RowsAt K H5 wl Wd := ⟨was, hw, hwp⟩
  clear s1 s2 s3 k1 k2 k3 hpl hwl hrl fw fr npw npr nwr hF18 hsl18 e18 e5 hL18 hS
  refine ⟨_, rfl, _, rfl, D, rl, S, rfl, hsl5, fun pp H6 e6 hpap => ?_⟩
  obtain ⟨fas, hfa6, hfp6⟩ := hF5.same e6
  refine ⟨_, rfl, fl, _, rfl, .inl (SqL.of hfa6), fun fa hfa => ?_⟩
  have t1 := same_new hfa (.lst (fas.map V.ref))
  have u1 : (upd H6 fa (.lst (fas.map V.ref))) fa = some (.lst (fas.map V.ref)) := upd_same
  generalize upd H6 fa (.lst (fas.map V.ref)) = H7 at t1 u1 ⊢
  refine ⟨_, rfl, pl, _, rfl, .inl (SqL.of ((e6.trans t1) _ _ hp)), fun pa hpa => ?_⟩
  have t2 := same_new hpa (.lst (pas.map V.ref))
  have u2 : (upd H7 pa (.lst (pas.map V.ref))) pa = some (.lst (pas.map V.ref)) := upd_same
  generalize upd H7 pa (.lst (pas.map V.ref)) = H8 at t2 u2 ⊢
  refine ⟨(show 2 ≤ sizeLine by decide), fun o1 ho1 => ?_⟩
  have t3 := same_new ho1 (.tup [.ref fa, .ref pa])
  have u3 : (upd H8 o1 (.tup [.ref fa, .ref pa])) o1 = some (.tup [.ref fa, .ref pa]) := upd_same
  generalize upd H8 o1 (.tup [.ref fa, .ref pa]) = H9 at t3 u3 ⊢
  refine ⟨Nat.zero_le _, fun em hem => ?_⟩
  have t4 := same_new hem (.lst [])
  have u4 : (upd H9 em (.lst [])) em = some (.lst []) := upd_same
  generalize upd H9 em (.lst []) = H10 at t4 u4 ⊢
  have t14 := ((t1.trans t2).trans t3).trans t4
  refine ⟨_, rfl, wl, _, rfl, .inl (SqL.of ((e6.trans t14) _ _ hw)), fun wa hwa => ?_⟩
  have t5 := same_new hwa (.lst (was.map V.ref))
  have u5 : (upd H10 wa (.lst (was.map V.ref))) wa = some (.lst (was.map V.ref)) := upd_same
  generalize upd H10 wa (.lst (was.map V.ref)) = H11 at t5 u5 ⊢
  refine ⟨(show 2 ≤ sizeLine by decide), fun o2 ho2 => ?_⟩
  have t6 := same_new ho2 (.tup [.ref em, .ref wa])
  have u6 : (upd H11 o2 (.tup [.ref em, .ref wa])) o2 = some (.tup [.ref em, .ref wa]) := upd_same
  generalize upd H11 o2 (.tup [.ref em, .ref wa]) = H12 at t6 u6 ⊢
  refine ⟨(show 2 ≤ sizeLine by decide), fun hd hhd => ?_⟩
  have t7 := same_new hhd (.lst [.ref o1, .ref o2])
  have u7 : (upd H12 hd (.lst [.ref o1, .ref o2])) hd = some (.lst [.ref o1, .ref o2]) := upd_same
  have e67 : Same H6 (upd H12 hd (.lst [.ref o1, .ref o2])) := ((t14.trans t5).trans t6).trans t7
  have hT1 : Two K (upd H12 hd (.lst [.ref o1, .ref o2])) o1 fa pa Fs Ps := ⟨SqT.of ((((t4.trans t5).trans t6).trans t7) _ _ u3), ⟨fas, ((((((t2.trans t3).trans t4).trans t5).trans t6).trans t7)) _ _ u1, Paired.mapP hfp6 fun _ _ z => RowAt.same z e67⟩, ⟨pas, (((((t3.trans t4).trans t5).trans t6).trans t7)) _ _ u2, Paired.mapP hpp fun _ _ z => RowAt.same z (e6.trans e67)⟩⟩
  have hT2 : Two K (upd H12 hd (.lst [.ref o1, .ref o2])) o2 em wa [] Wd := ⟨SqT.of (t7 _ _ u6), ⟨[], ((t5.trans t6).trans t7) _ _ u4, .nil⟩, ⟨was, (t6.trans t7) _ _ u5, Paired.mapP hwp fun _ _ z => RowAt.same z (e6.trans e67)⟩⟩
  generalize upd H12 hd (.lst [.ref o1, .ref o2]) = H13 at u7 e67 hT1 hT2 ⊢
  clear t1 t2 t3 t4 t5 t6 t7 t14 u1 u2 u3 u4 u5 u6 hfa hpa ho1 hem hwa ho2 hhd hfa6 hfp6
  have e13 := e6.trans e67
  have hF13 := hF5.same e13
  have hsl13 := hsl5.same e13
  have hpap13 := hpap.same e67
  have hrows13 := hrows.same e13
  have hP13 := hP5.same e13
  have hW13 := hW5.same e13
  have hr13 := e13 _ _ hrr
  have hrp13 : Paired (fun b (k : Nat) => H13 b = some (.lst [.int (k : Int)])) ras ks := Paired.mapP hrp fun _ _ z => e13 _ _ z
  have hp13 := e13 _ _ hp
  have hpp13 : Paired (fun b r => RowAt K H13 b r) pas Ps := Paired.mapP hpp fun _ _ z => RowAt.same z e13
  clear hF5 hsl5 hpap hrows hP5 hW5 hrr hrp hp hpp hw hwp e6 e67 e13
  have hR0 := left_ok (ks := ks) okPs
  have hWo := ways_ok okS okF
  have hwl := waysR_len S Fs
  have h2p : 2 ^ S.length ≤ 2 ^ 4 := Nat.pow_le_pow_right (by decide) hS4
  refine ⟨_, rfl, _, rfl, fl, D, Fs, S, rfl, hF13, (by lia), hsl13, (by lia), fun yl H14 e14 hR14 => ?_⟩
  obtain ⟨ms, hy14, hyp14, _⟩ := hR14
  have hml := Paired.length hyp14
  refine ⟨yl, rfl, ⟨_, SqL.of hy14⟩, ?_⟩
  refine comp_pos (ms.map V.ref) (waysR Fs S) (fun Dd H' y W => H14 Dd = none → ∃ u, y = V.ref u ∧ TellAt K (wo H' Dd) u [W, leftF ks Ps]) id jseq_list (SqL.of hy14) (by rw [List.length_map]; lia) (by rw [List.length_map]; exact hml.symm)
    (fun Dd H' H'' y W h e hD => by obtain ⟨u, rfl, h2⟩ := h hD; exact ⟨u, rfl, h2.same (wo_same e)⟩) (fun Dd i x W hx hW H15 e15 hDd Q' q' => ?_) (fun du H15 ys hdu e15 hdu15 hpp15 => ?_)
  · obtain ⟨y, hy, rfl⟩ := ref_at hx
    have hyW := Paired.at2 hyp14 hy hW
    refine ⟨_, rfl, _, rfl, _, rfl, by lia, by lia, ?_⟩
    refine comp_map (nums 0 (m : Int).toNat) (pV ks) (fV pas) jseq_rng trivial (by unfold nums; rw [List.length_map, List.length_range]; exact le_line (by lia)) (fun x hx H16 e16 Q'' q'' => ?_) (fun x hx _ H16 e16 Q'' q'' => ?_) (fun Di H16 hDi e16 hDi16 => ?_)
    · obtain ⟨j, hj, rfl⟩ := List.mem_map.mp hx
      have e1316 := (e14.trans e15).trans e16
      refine ⟨_, rfl, (show 1 ≤ sizeLine by decide), fun b hb => ?_⟩
      have v1 := same_new hb (.lst [.int (0 + (j : Int))])
      have w1 : (upd H16 b (.lst [.int (0 + (j : Int))])) b = some (.lst [.int (j : Int)]) := by rw [upd_same, Int.zero_add]
      generalize upd H16 b (.lst [.int (0 + (j : Int))]) = H17 at v1 w1 ⊢
      have e1317 := e1316.trans v1
      refine ⟨_, rfl, rl, _, ks.map dNum, dNum j, rfl, SqL.of (e1317 _ _ hr13), dp_nums (Paired.mapP hrp13 fun _ _ z => e1317 _ _ z), .lst (SqL.of w1) (.cons (.int _) .nil), (dn_nums ks).ok (by decide), (dn_num j).ok (by decide), _, rfl, ?_⟩
      rw [any_nums]
      have := q'' H17 v1
      rw [show pV ks (V.int (0 + (j : Int))) = !decide (j ∈ ks) by show (!decide ((0 + (j : Int)).toNat ∈ ks)) = _; rw [Int.zero_add, Int.toNat_natCast]] at this
      exact this
    · obtain ⟨j, hj, rfl⟩ := List.mem_map.mp hx
      have hj' := List.mem_range.mp hj
      have e1316 := (e14.trans e15).trans e16
      have hjl : j < pas.length := by lia
      have := q'' H16 (Same.refl _)
      rw [show fV pas (V.int (0 + (j : Int))) = .ref (pas.getD j 0) by show V.ref (pas.getD (0 + (j : Int)).toNat 0) = _; rw [Int.zero_add, Int.toNat_natCast]] at this
      refine ⟨_, rfl, _, rfl, pl, _, _, _, rfl, rfl, SqL.of (e1316 _ _ hp13), ?_, this⟩
      rw [Int.zero_add]
      exact atI_nat (by rw [List.getElem?_map, List.getD_eq_getElem?_getD, List.getElem?_eq_getElem hjl]; rfl)
    rw [pick_nums, Int.toNat_natCast] at hDi16
    refine ⟨(show 2 ≤ sizeLine by decide), fun u hu' => ?_⟩
    have v1 := same_new hu' (.tup [.ref y, .ref Di])
    have w1 : (upd H16 u (.tup [.ref y, .ref Di])) u = some (.tup [.ref y, .ref Di]) := upd_same
    generalize upd H16 u (.tup [.ref y, .ref Di]) = H17 at v1 w1 ⊢
    refine q' _ H17 (e16.trans v1) fun hD => ⟨u, rfl, ?_⟩
    have hDu : u ≠ Dd := fun z => by
      cases hq : H15 Dd with
      | none => exact hDd hq
      | some o => have := e16 _ _ hq; rw [← z, hu'] at this; cases this
    have hDDi : Di ≠ Dd := fun z => hDd (z ▸ hDi)
    have e1417 : Same H14 (wo H17 Dd) := wo_to hD ((e15.trans e16).trans v1)
    refine ⟨[y, Di], SqT.of (by rw [wo_ne hDu]; exact w1), .cons (RowsAt.same hyW e1417) (.cons ⟨pickF 0 (fun i => !decide (i ∈ ks)) pas m, by rw [wo_ne hDDi]; exact v1 _ _ hDi16, ?_⟩ .nil)⟩
    unfold leftF
    rw [hm5]
    exact pickF_paired (Paired.mapP hpp13 fun _ _ z => RowAt.same z (e14.trans e1417)) m (by lia)
  rw [List.map_id] at hpp15
  obtain ⟨us, rfl, hU15⟩ := refs_ext (Paired.mapP hpp15 fun y W z => z hdu)
  have hU : Paired (fun u W => TellAt K H15 u [W, leftF ks Ps]) us (waysR Fs S) := Paired.mapP hU15 fun _ _ z => TellAt.same z wo_back
  have e1315 := e14.trans e15
  clear hpp15 hU15 hyp14 hy14 hml e14 e15 hdu hp13 hpp13 hr13 hrp13
  have hF15 := hF13.same e1315
  have hsl15 := hsl13.same e1315
  have hpap15 := hpap13.same e1315
  have hrows15 := hrows13.same e1315
  have hP15 := hP13.same e1315
  have hW15 := hW13.same e1315
  have hT15 := hT1.same e1315
  have hT25 := hT2.same e1315
  have hhd := e1315 _ _ u7
  clear hF13 hsl13 hpap13 hrows13 hP13 hW13 hT1 hT2 u7 e1315
  intro τ eτ
  obtain rfl : τ = [some (.ref a), some (.ref l0), some (.ref prl), some (.int cc), some (.ref D), some (.str wd), some (.ref fl), some (.int (m : Int)), some (.ref pl), some (.ref wl), some (.ref rl), z11, z12, z13, z14, some (.ref pp), some (.ref hd), some (.ref du), none] := eτ
  refine ⟨_, rfl, hd, _, 0, _, rfl, rfl, SqL.of hhd, rfl, _, rfl, hd, _, 1, _, rfl, rfl, SqL.of hhd, rfl, _, rfl, ?_⟩
  refine ⟨o1, fa, pa, rl, pp, .ref o2, Fs, Ps, ks, S, rfl, hT15, (by lia), (by lia), hrows15, (by lia), hpap15, (by lia), fun fo its H16 e16 hfo hfo16 fnd nfo => ?_⟩
  have hil := Paired.length fnd.all
  rw [hwl] at hil
  intro τ eτ
  obtain rfl : τ = [some (.ref a), some (.ref l0), some (.ref prl), some (.int cc), some (.ref D), some (.str wd), some (.ref fl), some (.int (m : Int)), some (.ref pl), some (.ref wl), some (.ref rl), z11, z12, z13, z14, some (.ref pp), some (.ref hd), some (.ref du), some (.ref fo)] := eτ
  refine ⟨_, rfl, _, rfl, fo, du, its, us, waysR Fs S, leftF ks Ps, rfl, hfo16, fnd.all, e16 _ _ hdu15, Paired.mapP hU fun _ _ z => TellAt.same z e16, hWo, hR0, fun H17 e17 => ?_⟩
  refine ⟨_, rfl, iteN rfl ?_⟩
  have e1517 := e16.trans e17
  refine ⟨_, rfl, _, rfl, _, rfl, (show 2 ≤ sizeLine by decide), fun x1 hx1 => ?_⟩
  have v1 := same_new hx1 (.tup [.ref fl, .ref pl])
  have w1 : (upd H17 x1 (.tup [.ref fl, .ref pl])) x1 = some (.tup [.ref fl, .ref pl]) := upd_same
  generalize upd H17 x1 (.tup [.ref fl, .ref pl]) = H18' at v1 w1 ⊢
  refine ⟨Nat.zero_le _, fun x2 hx2 => ?_⟩
  have v2 := same_new hx2 (.lst [])
  have w2 : (upd H18' x2 (.lst [])) x2 = some (.lst []) := upd_same
  generalize upd H18' x2 (.lst []) = H19' at v2 w2 ⊢
  refine ⟨_, rfl, (show 2 ≤ sizeLine by decide), fun x3 hx3 => ?_⟩
  have v3 := same_new hx3 (.tup [.ref x2, .ref wl])
  have w3 : (upd H19' x3 (.tup [.ref x2, .ref wl])) x3 = some (.tup [.ref x2, .ref wl]) := upd_same
  generalize upd H19' x3 (.tup [.ref x2, .ref wl]) = H20' at v3 w3 ⊢
  refine ⟨(show 2 ≤ sizeLine by decide), fun x4 hx4 => ?_⟩
  have v4 := same_new hx4 (.lst [.ref x1, .ref x3])
  have w4 : (upd H20' x4 (.lst [.ref x1, .ref x3])) x4 = some (.lst [.ref x1, .ref x3]) := upd_same
  generalize upd H20' x4 (.lst [.ref x1, .ref x3]) = H21' at v4 w4 ⊢
  have e1721 := ((v1.trans v2).trans v3).trans v4
  have e1521 := e1517.trans e1721
  have hX1 : TellAt K H21' x1 [Fs, Ps] := ⟨[fl, pl], SqT.of (((v2.trans v3).trans v4) _ _ w1), .cons (hF15.same e1521) (.cons (hP15.same e1521) .nil)⟩
  have hX3 : TellAt K H21' x3 [[], Wd] := ⟨[x2, wl], SqT.of (v4 _ _ w3), .cons ⟨[], (v3.trans v4) _ _ w2, .nil⟩ (.cons (hW15.same e1521) .nil)⟩
  have okNl : RowsOk [] := fun r hr => by cases hr
  have dH : Dn 4 (.list [.tuple ([Fs, Ps].map fun rs => .list (rs.map dRow)), .tuple ([[], Wd].map fun rs => .list (rs.map dRow))]) := Dn.lst fun d hd' => by
    simp only [List.mem_cons, List.not_mem_nil, or_false] at hd'
    rcases hd' with rfl | rfl
    · exact dn_tell fun rs hrs => by
        simp only [List.mem_cons, List.not_mem_nil, or_false] at hrs
        rcases hrs with rfl | rfl
        · exact okF
        · exact okPs
    · exact dn_tell fun rs hrs => by
        simp only [List.mem_cons, List.not_mem_nil, or_false] at hrs
        rcases hrs with rfl | rfl
        · exact okNl
        · exact okW
  refine ⟨_, _, .lst (SqL.of (e1521 _ _ hhd)) (.cons (hT15.same e1521).tell.dp (.cons (hT25.same e1521).tell.dp .nil)), .lst (SqL.of w4) (.cons hX1.dp (.cons hX3.dp .nil)), dH.ok (by decide), dH.ok (by decide), _, rfl, iteB (fun c => ?_) (fun _ => ?_)⟩
  · rw [SeqAt.eqv_refl _ dH.lay] at c; cases c
  refine ⟨_, rfl, _, rfl, _, rfl, D, rl, S, rfl, hsl15.same e1521, fun pp2 H22 e22 hpap2 => ?_⟩
  have e1522 := e1521.trans e22
  have dPp := dn_pap (ks := ks) okS
  refine ⟨_, _, PapAt.dp (hrows15.same e1522) (hpap15.same e1522), PapAt.dp (hrows15.same e1522) hpap2, dPp.ok (by lia), dPp.ok (by lia), _, rfl, iteB (fun c => ?_) (fun _ => ?_)⟩
  · rw [SeqAt.eqv_refl _ dPp.lay] at c; cases c
  have hC0 : CI K H15 fo its (waysR Fs S) (leftF ks Ps) 0 H22 := ⟨e1522, (e17.trans (e1721.trans e22)) _ _ hfo16, Paired.mapP fnd.all fun _ _ z => Two.same z (e17.trans (e1721.trans e22))⟩
  clear v1 v2 v3 v4 w1 w2 w3 w4 hX1 hX3 dH dPp hpap2 e1522 e1521 e1721 e22 hx1 hx2 hx3 hx4 e1517 e17
  obtain ⟨_, hfo22, _⟩ := id hC0
  refine ⟨_, rfl, fo, _, rfl, .inl (SqL.of hfo22), _, rfl, (by rw [List.length_map]; lia), (by rw [List.length_map]; lia), ?_⟩
  refine for_range (lo := 0) (n := (((its.map fun x : It3 => V.ref x.1).length : Nat) : Int).toNat) (fun i σ H' => CI K H15 fo its (waysR Fs S) (leftF ks Ps) i H' ∧ ∃ z11 : Option V, σ = [some (.ref a), some (.ref l0), some (.ref prl), some (.int cc), some (.ref D), some (.str wd), some (.ref fl), some (.int (m : Int)), some (.ref pl), some (.ref wl), some (.ref rl), z11, z12, z13, z14, some (.ref pp), some (.ref hd), some (.ref du), some (.ref fo)]) ⟨hC0, _, rfl⟩ ?_ ?_
  · rintro i σ H6 hi ⟨hC, z11, rfl⟩
    rw [Int.zero_add]
    rw [List.length_map, Int.toNat_natCast] at hi
    have hx : its[i]? = some its[i] := List.getElem?_eq_getElem hi
    generalize its[i] = x at hx
    obtain ⟨W, xs1, ys1, hT, h1, h2, hne, hC'⟩ := CI.step hC fnd.new fnd.nd nfo hx
    obtain ⟨_, hfo6, _⟩ := id hC
    have hxm := List.mem_of_getElem? hx
    have hat : atI (its.map fun x : It3 => V.ref x.1) (i : Int) = some (.ref x.1) := atI_nat (by rw [List.getElem?_map, hx]; rfl)
    refine ⟨_, rfl, _, rfl, fo, _, _, _, rfl, rfl, SqL.of hfo6, hat, x.1, _, 0, _, rfl, rfl, hT.tup, rfl, (.inl ⟨rfl, _, SqL.of h1⟩), x.2.1, _, rfl, rfl, h1, ?_⟩
    have h2' : (upd H6 x.2.1 (.lst [])) x.2.2 = some (.lst ys1) := by rw [upd_ne hne.symm]; exact h2
    have hfo7 : (upd H6 x.2.1 (.lst [])) fo = some (.lst (its.map fun x : It3 => V.ref x.1)) := by rw [upd_ne (nfo x hxm).1.symm]; exact hfo6
    have hT7 : SqT K (upd H6 x.2.1 (.lst [])) x.1 [.ref x.2.1, .ref x.2.2] := sq_put h1 hT.tup
    refine ⟨_, rfl, _, rfl, fo, _, _, _, rfl, rfl, SqL.of hfo7, hat, x.1, _, 1, _, rfl, rfl, hT7, rfl, (.inl ⟨rfl, _, SqL.of h2'⟩), x.2.2, _, rfl, rfl, h2', ?_⟩
    generalize upd (upd H6 x.2.1 (.lst [])) x.2.2 (.lst []) = H8 at hC' ⊢
    clear hC hT h1 h2 h2' hfo6 hfo7 hT7 hat
    obtain ⟨e8, hfo8, hall8⟩ := id hC'
    refine ⟨_, rfl, _, rfl, _, _, rfl, rfl, _, rfl, fo, _, rfl, SqL.of hfo8, fun c1 hc1 => ?_⟩
    have ei : ((i : Int) + 1) = ((i + 1 : Nat) : Int) := by lia
    rw [ei, cut_drop, ← List.map_drop]
    have v1 := same_new hc1 (.lst ((its.drop (i + 1)).map fun x : It3 => V.ref x.1))
    have w1 : (upd H8 c1 (.lst ((its.drop (i + 1)).map fun x : It3 => V.ref x.1))) c1 = some (.lst ((its.drop (i + 1)).map fun x : It3 => V.ref x.1)) := upd_same
    generalize upd H8 c1 (.lst ((its.drop (i + 1)).map fun x : It3 => V.ref x.1)) = H9 at v1 w1 ⊢
    refine ⟨_, rfl, _, rfl, _, _, rfl, rfl, _, rfl, du, _, rfl, SqL.of ((e8.trans v1) _ _ hdu15), fun c2 hc2 => ?_⟩
    rw [ei, cut_drop, ← List.map_drop]
    have v2 := same_new hc2 (.lst ((us.drop (i + 1)).map V.ref))
    have w2 : (upd H9 c2 (.lst ((us.drop (i + 1)).map V.ref))) c2 = some (.lst ((us.drop (i + 1)).map V.ref)) := upd_same
    generalize upd H9 c2 (.lst ((us.drop (i + 1)).map V.ref)) = H10 at v2 w2 ⊢
    refine ⟨c1, c2, its.drop (i + 1), us.drop (i + 1), (waysR Fs S).drop (i + 1), leftF ks Ps, rfl, v2 _ _ w1, Paired.mapP hall8 fun _ _ z => Two.same z (v1.trans v2), w2, paired_drop (i + 1) (Paired.mapP hU fun _ _ z => TellAt.same z ((e8.trans v1).trans v2)), fun W' hW' => hWo W' (List.mem_of_mem_drop hW'), hR0, fun H11 e11 => ?_⟩
    exact ⟨_, rfl, iteN rfl ⟨hC'.same ((v1.trans v2).trans e11), _, rfl⟩⟩
  rintro σ H6 ⟨⟨e6, _, _⟩, z11, rfl⟩
  have hhd6 := e6 _ _ hhd
  refine ⟨_, rfl, hd, _, 0, _, rfl, rfl, SqL.of hhd6, rfl, _, rfl, hd, _, 1, _, rfl, rfl, SqL.of hhd6, rfl, _, rfl, ?_⟩
  refine ⟨o1, fa, pa, rl, pp, .ref o2, Fs, Ps, ks, S, rfl, hT15.same e6, (by lia), (by lia), hrows15.same e6, (by lia), hpap15.same e6, (by lia), fun fo2 its2 H7 e7 hfo2 hfo7 fnd2 _ => ?_⟩
  exact ⟨_, rfl, fo2, du, its2, us, waysR Fs S, leftF ks Ps, rfl, hfo7, fnd2.all, (e6.trans e7) _ _ hdu15, Paired.mapP hU fun _ _ z => TellAt.same z (e6.trans e7), hWo, hR0, fun H8 _ => q H8⟩
end
end K30
namespace K30
open PySem PySem.Spec L2 Mir Kn
theorem all_mk {l : PySem.W.OpenLaw} {w : World} {K : PySem.W.Frag} {h : Heap} {mg : Str → Option Value} {fa f1 f2 f3 f4 f5 f6 f7 f8 f9 f10 : Addr} (X : K.In h) (G : h.Ns mainGlobals mg) (hfa : mg "law" = some (.ref fa))
    {d1 d2 d3 d4 d5 d6 d7 d8 d9 d10 : FuncData}
    (a1 : PySem.W.nsIn K mainGlobals "left_by" = some (some (.ref f1)))
    (F1 : Fun K "left_by" "left_by" sLeft f1 d1)
    (a2 : PySem.W.nsIn K mainGlobals "rests" = some (some (.ref f2)))
    (F2 : Fun K "rests" "rests" sRests f2 d2)
    (a3 : PySem.W.nsIn K mainGlobals "_law_cell_at" = some (some (.ref f3)))
    (F3 : Fun K "_law_cell_at" "_law_cell_at" sCell f3 d3)
    (a4 : PySem.W.nsIn K mainGlobals "_law_mixed" = some (some (.ref f4)))
    (F4 : Fun K "_law_mixed" "_law_mixed" sMixed f4 d4)
    (a5 : PySem.W.nsIn K mainGlobals "_law_free_names" = some (some (.ref f5)))
    (F5 : Fun K "_law_free_names" "_law_free_names" sFree f5 d5)
    (a6 : PySem.W.nsIn K mainGlobals "_law_names" = some (some (.ref f6)))
    (F6 : Fun K "_law_names" "_law_names" sNames f6 d6)
    (a7 : PySem.W.nsIn K mainGlobals "_law_paper" = some (some (.ref f7)))
    (F7 : Fun K "_law_paper" "_law_paper" sPaper f7 d7)
    (a8 : PySem.W.nsIn K mainGlobals "_law_ways" = some (some (.ref f8)))
    (F8 : Fun K "_law_ways" "_law_ways" sWays f8 d8)
    (a9 : PySem.W.nsIn K mainGlobals "_law_is" = some (some (.ref f9)))
    (F9 : Fun K "_law_is" "_law_is" sIs f9 d9)
    (a10 : PySem.W.nsIn K mainGlobals "law" = some (some (.ref f10)))
    (F10 : Fun K "law" "law" sLaw f10 d10)
    (z1 : PySem.W.nsIn K mainGlobals "len" = some none)
    (z2 : PySem.W.nsIn K mainGlobals "all" = some none)
    (z3 : PySem.W.nsIn K mainGlobals "any" = some none)
    (z4 : PySem.W.nsIn K mainGlobals "isinstance" = some none)
    (z5 : PySem.W.nsIn K mainGlobals "list" = some none)
    (z6 : PySem.W.nsIn K mainGlobals "int" = some none)
    (z7 : PySem.W.nsIn K mainGlobals "bool" = some none)
    (z8 : PySem.W.nsIn K mainGlobals "str" = some none)
    (z9 : PySem.W.nsIn K mainGlobals "dict" = some none)
    (z10 : PySem.W.nsIn K mainGlobals "sorted" = some none)
    (z11 : PySem.W.nsIn K mainGlobals "set" = some none)
    (z12 : PySem.W.nsIn K mainGlobals "sum" = some none)
    (z13 : PySem.W.nsIn K mainGlobals "range" = some none)
    (z14 : PySem.W.nsIn K mainGlobals "tuple" = some none)
    (z15 : PySem.W.nsIn K mainGlobals "max" = some none)
    (z16 : PySem.W.nsIn K mainGlobals "zip" = some none)
    (z17 : PySem.W.nsIn K mainGlobals "enumerate" = some none) :
    ∃ fd : FuncData, (∀ (s : Shared) (v : Value), BindsTo s fd ⟨[v], []⟩ [("_law_script", v)]) ∧ ∀ base : Heap, K.In base → base.Ns mainGlobals mg → FnOk l.prog w K mg base CX0 7 fa fd ["_law_script"] (spLaw K) := by
  have e := hfa.symm.trans (PySem.W.mg_of X G a10)
  cases e
  have B1 := F1.binds (ps := ["one", "rows"]) fun _ _ _ _ _ _ us hl => match us, hl with | [_, _], _ => rfl
  have C1 : Cal K mg "left_by" f1 _ ["one", "rows"] := ⟨PySem.W.mg_of X G a1, F1.kp, B1⟩
  have B2 := F2.binds (ps := ["one", "other", "paper"]) fun _ _ _ _ _ _ us hl => match us, hl with | [_, _, _], _ => rfl
  have C2 : Cal K mg "rests" f2 _ ["one", "other", "paper"] := ⟨PySem.W.mg_of X G a2, F2.kp, B2⟩
  have B3 := F3.binds (ps := ["_law_script", "_law_k"]) fun _ _ _ _ _ _ us hl => match us, hl with | [_, _], _ => rfl
  have C3 : Cal K mg "_law_cell_at" f3 _ ["_law_script", "_law_k"] := ⟨PySem.W.mg_of X G a3, F3.kp, B3⟩
  have B4 := F4.binds (ps := ["_law_cell", "_law_k"]) fun _ _ _ _ _ _ us hl => match us, hl with | [_, _], _ => rfl
  have C4 : Cal K mg "_law_mixed" f4 _ ["_law_cell", "_law_k"] := ⟨PySem.W.mg_of X G a4, F4.kp, B4⟩
  have B5 := F5.binds (ps := ["_law_cell", "_law_many"]) fun _ _ _ _ _ _ us hl => match us, hl with | [_, _], _ => rfl
  have C5 : Cal K mg "_law_free_names" f5 _ ["_law_cell", "_law_many"] := ⟨PySem.W.mg_of X G a5, F5.kp, B5⟩
  have B6 := F6.binds (ps := ["_law_cell", "_law_many"]) fun _ _ _ _ _ _ us hl => match us, hl with | [_, _], _ => rfl
  have C6 : Cal K mg "_law_names" f6 _ ["_law_cell", "_law_many"] := ⟨PySem.W.mg_of X G a6, F6.kp, B6⟩
  have B7 := F7.binds (ps := ["_law_splits", "_law_rows"]) fun _ _ _ _ _ _ us hl => match us, hl with | [_, _], _ => rfl
  have C7 : Cal K mg "_law_paper" f7 _ ["_law_splits", "_law_rows"] := ⟨PySem.W.mg_of X G a7, F7.kp, B7⟩
  have B8 := F8.binds (ps := ["_law_facts", "_law_splits"]) fun _ _ _ _ _ _ us hl => match us, hl with | [_, _], _ => rfl
  have C8 : Cal K mg "_law_ways" f8 _ ["_law_facts", "_law_splits"] := ⟨PySem.W.mg_of X G a8, F8.kp, B8⟩
  have B9 := F9.binds (ps := ["_law_found", "_law_due"]) fun _ _ _ _ _ _ us hl => match us, hl with | [_, _], _ => rfl
  have C9 : Cal K mg "_law_is" f9 _ ["_law_found", "_law_due"] := ⟨PySem.W.mg_of X G a9, F9.kp, B9⟩
  have C : Con K mg w := {
    len := PySem.W.mg_none_of X G z1
    all := PySem.W.mg_none_of X G z2
    any := PySem.W.mg_none_of X G z3
    isi := PySem.W.mg_none_of X G z4
    list := PySem.W.mg_none_of X G z5
    int := PySem.W.mg_none_of X G z6
    bool := PySem.W.mg_none_of X G z7
    str := PySem.W.mg_none_of X G z8
    dict := PySem.W.mg_none_of X G z9
    sorted := PySem.W.mg_none_of X G z10
    set := PySem.W.mg_none_of X G z11
    sum := PySem.W.mg_none_of X G z12
    range := PySem.W.mg_none_of X G z13
    tuple := PySem.W.mg_none_of X G z14
    max := PySem.W.mg_none_of X G z15
    zip := PySem.W.mg_none_of X G z16
    enumerate := PySem.W.mg_none_of X G z17 }
  obtain ⟨_, _, kV, dc, pm, an, cd, ct, _, rfl, _, _⟩ := id F10.ex
  refine ⟨PySem.W.fnOf "law" "law" (defArgs sLaw) (defBody sLaw) (defScope sLaw) .none kV dc pm an cd ct, fun s v => .of_eq rfl, fun base _ _ => ?_⟩
  have O1 := ok_left (P := l.prog) (base := base) C F1
  have r0 : FnOk l.prog w K mg base CX0 1 f2 d2 ["one", "other", "paper"] (spRests K 0) := ok_rests0
  have r1 := ok_restsS (n := 0) (by decide) C F2 O1 C1 r0 C2
  have r2 := ok_restsS (n := 1) (by decide) C F2 O1 C1 r1 C2
  have r3 := ok_restsS (n := 2) (by decide) C F2 O1 C1 r2 C2
  have r4 := ok_restsS (n := 3) (by decide) C F2 O1 C1 r3 C2
  have r5 := ok_restsS (n := 4) (by decide) C F2 O1 C1 r4 C2
  have O3 := ok_cellAt (P := l.prog) (base := base) C F3
  have O4 := ok_mixed (P := l.prog) (base := base) C F4
  have O5 := ok_free (P := l.prog) (base := base) C F5
  have O6 := ok_names  C F6 O5 C5
  have O7 := ok_paper (P := l.prog) (w := w) (mg := mg) (base := base) F7
  have O8 := ok_ways (P := l.prog) (base := base) C F8
  have O9 := ok_is (P := l.prog) (base := base) C F9
  exact ok_law C F10 O3 C3 O4 C4 O6 C6 O7 C7 O8 C8 O9 C9 r5 C2
theorem walk {l : PySem.W.OpenLaw} {q : Program} {loose : List Str} {XP : (Str → Option Value) → Heap → Prop} {YP : World → Heap → Prop} {d : DefRec} {K : Params → PySem.W.Frag} (hn : l.most = some 63) (hdf : d.params.defaults = [])
    (hY : ∀ (w : World) (h : Heap), YP w h → (K w.params).In h)
    (F : ∀ (w : World) (mg : Str → Option Value) (fa : Addr) (h : Heap), (K w.params).In h → h.Ns mainGlobals mg → mg d.name = some (.ref fa) →
      ∃ fd : FuncData, (∀ (s : Shared) (u : Value), BindsTo s fd ⟨[u], []⟩ [("_law_script", u)]) ∧ ∀ base : Heap, (K w.params).In base → base.Ns mainGlobals mg → FnOk l.prog w (K w.params) mg base CX0 7 fa fd ["_law_script"] (spLaw (K w.params))) :
    PySem.W.WalkO q loose XP YP l.row.toRowW d [] (fun f vs => PySem.call f vs) :=
  L2.walk_of (n := 63) (k := 7) (x := "_law_script") (CX := fun _ => CX0) (sp := fun w => spLaw (K w.params)) hn (by decide) hdf ⟨rfl, by decide, by decide⟩ hY F (fun _ _ a ns hl _ hS => ⟨a, ns, rfl, hS, fun _ => rfl⟩) fun _ _ _ _ _ z => z
end K30
open PySem PySem.W PyProof.Rows
set_option maxRecDepth 100000 in
set_option maxHeartbeats 0 in
theorem PySem.Challenge.cw_apart_k30_rests_of_covers_holds : PySem.Challenge.rw_apart_k30_rests_of_covers.Holds := by
  w_on; o_law; k_head; (case hw => w_witness2)
  k_fill
  refine K30.walk (l := PySem.Challenge.rw_apart_k30_rests_of_covers) rfl rfl (fun w h Y => PySem.W.kIn_of Y) ?F
  case F =>
    intro w mg fa h KX G hmg
    refine' K30.all_mk KX G hmg ?a1 ?F1 ?a2 ?F2 ?a3 ?F3 ?a4 ?F4 ?a5 ?F5 ?a6 ?F6 ?a7 ?F7 ?a8 ?F8 ?a9 ?F9 ?a10 ?F10 ?z1 ?z2 ?z3 ?z4 ?z5 ?z6 ?z7 ?z8 ?z9 ?z10 ?z11 ?z12 ?z13 ?z14 ?z15 ?z16 ?z17
    (case a1 => k_is)
    (case F1 => (refine' L2.fun_mk ?l ?c ?k; (case l => k_is); (case c => k_is); (case k => k_is)))
    (case a2 => k_is)
    (case F2 => (refine' L2.fun_mk ?l ?c ?k; (case l => k_is); (case c => k_is); (case k => k_is)))
    (case a3 => k_is)
    (case F3 => (refine' L2.fun_mk ?l ?c ?k; (case l => k_is); (case c => k_is); (case k => k_is)))
    (case a4 => k_is)
    (case F4 => (refine' L2.fun_mk ?l ?c ?k; (case l => k_is); (case c => k_is); (case k => k_is)))
    (case a5 => k_is)
    (case F5 => (refine' L2.fun_mk ?l ?c ?k; (case l => k_is); (case c => k_is); (case k => k_is)))
    (case a6 => k_is)
    (case F6 => (refine' L2.fun_mk ?l ?c ?k; (case l => k_is); (case c => k_is); (case k => k_is)))
    (case a7 => k_is)
    (case F7 => (refine' L2.fun_mk ?l ?c ?k; (case l => k_is); (case c => k_is); (case k => k_is)))
    (case a8 => k_is)
    (case F8 => (refine' L2.fun_mk ?l ?c ?k; (case l => k_is); (case c => k_is); (case k => k_is)))
    (case a9 => k_is)
    (case F9 => (refine' L2.fun_mk ?l ?c ?k; (case l => k_is); (case c => k_is); (case k => k_is)))
    (case a10 => k_is)
    (case F10 => (refine' L2.fun_mk ?l ?c ?k; (case l => k_is); (case c => k_is); (case k => k_is)))
    (case z1 => k_is)
    (case z2 => k_is)
    (case z3 => k_is)
    (case z4 => k_is)
    (case z5 => k_is)
    (case z6 => k_is)
    (case z7 => k_is)
    (case z8 => k_is)
    (case z9 => k_is)
    (case z10 => k_is)
    (case z11 => k_is)
    (case z12 => k_is)
    (case z13 => k_is)
    (case z14 => k_is)
    (case z15 => k_is)
    (case z16 => k_is)
    (case z17 => k_is)
