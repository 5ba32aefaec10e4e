import PyProof.Rows.All
import Wide.All
import OpenK.AllK
import Wide.FinOn
import Lean
import PyProof.EqAt
import PyProof.EqKinds
import PyProof.TupleCall
import PySem.Challenge.RW_apart_k23_examples
set_option Elab.async false
set_option linter.all false
set_option bootstrap.genMatcherCode false
set_option compiler.extract_closed false
set_option maxRecDepth 100000
namespace L2
open PySem PySem.Spec PyProof.Rows
theorem ta0_ (h : True := by first | (left; rfl) | (right; rfl) | assumption) : True := trivial
def a0_ : Lean.Syntax := ta0_._auto_1
theorem ta1_ (h : True := by decide) : True := trivial
def a1_ : Lean.Syntax := ta1_._auto_1
theorem ta2_ (h : True := by rfl) : True := trivial
def a2_ : Lean.Syntax := ta2_._auto_1
theorem ta3_ (h : True := by intro _; rfl) : True := trivial
def a3_ : Lean.Syntax := ta3_._auto_1
theorem ta4_ (h : True := by first | (left; rfl) | (right; left; rfl) | (right; right; rfl)) : True := trivial
def a4_ : Lean.Syntax := ta4_._auto_1
theorem ta5_ (h : True := by decide +kernel) : True := trivial
def a5_ : Lean.Syntax := ta5_._auto_1
theorem ta6_ (h : True := by with_unfolding_all rfl) : True := trivial
def a6_ : Lean.Syntax := ta6_._auto_1
theorem ta7_ (h : True := by exact ⟨rfl,rfl,rfl,rfl⟩) : True := trivial
def a7_ : Lean.Syntax := ta7_._auto_1
theorem ta8_ (h : True := by repeat' first | with_unfolding_all rfl | constructor) : True := trivial
def a8_ : Lean.Syntax := ta8_._auto_1
abbrev Key:=Sum Int Str
noncomputable def kz:Key -> Value -> Bool
 | .inl k,v=>Value.isInt k v
 | .inr x,v=>Value.isStrOf x v
noncomputable def keyH (w:World):Key -> Int
 | .inl k=>hashInt k
 | .inr x=>hashStr w x
theorem cj:∀ {k:Key} {v:Value},kz k v = true -> (∃ i t,k = Sum.inl i /\ v = Value.int i t) \/ (∃ x t,k = Sum.inr x /\ v = Value.str x t)
 | .inl i,v,h=>by
   obtain ⟨t,e⟩:=Value.isInt_shape (k:=i) (v:=v) h
   exact .inl ⟨i,t,rfl,e⟩
 | .inr x,v,h=>by
   obtain ⟨t,e⟩:=Value.isStrOf_shape (x:=x) (v:=v) h
   exact .inr ⟨x,t,rfl,e⟩
theorem a1u (i:Int) (t:Tok):kz (.inl i) (.int i t) = true:=by simp [kz,Value.isInt]
theorem a0p (x:Str) (t:Tok):kz (.inr x) (.str x t) = true:=by simp [kz,Value.isStrOf]
theorem a8a (a b:Int):decide ((Sum.inl a:Key) = Sum.inl b) = (a == b):=by
 by_cases e:a = b
 . subst e; simp
 . have h:¬ (Sum.inl a:Key) = Sum.inl b:=fun q=>e (Sum.inl.inj q)
   rw [decide_eq_false h]
   exact (beq_eq_false_iff_ne.mpr e).symm
theorem a83 (a b:Str):decide ((Sum.inr a:Key) = Sum.inr b) = decide (a = b):=by
 by_cases e:a = b
 . subst e; simp
 . have h:¬ (Sum.inr a:Key) = Sum.inr b:=fun q=>e (Sum.inr.inj q)
   rw [decide_eq_false h,decide_eq_false e]
theorem a70 (a:Int) (b:Str):decide ((Sum.inl a:Key) = Sum.inr b) = false:=decide_eq_false (fun q=>nomatch q)
theorem a86 (a:Str) (b:Int):decide ((Sum.inr a:Key) = Sum.inl b) = false:=decide_eq_false (fun q=>nomatch q)
noncomputable def bn (prog:Program) (w:World):PySem.KeyKind prog w Key where
 is:=kz
 hash:=keyH w
 inj:=fun v a b ha hb=>by
   rcases cj ha with ⟨i,t,rfl,rfl⟩ | ⟨x,t,rfl,rfl⟩
   . rcases cj hb with ⟨j,u,rfl,e⟩ | ⟨y,u,rfl,e⟩
     . injection e with e1 _; rw [e1]
     . exact nomatch e
   . rcases cj hb with ⟨j,u,rfl,e⟩ | ⟨y,u,rfl,e⟩
     . exact nomatch e
     . injection e with e1 _; rw [e1]
 byValue:=fun k v h=>by
   rcases cj h with ⟨i,t,rfl,rfl⟩ | ⟨x,t,rfl,rfl⟩ <;> rfl
 pyHash:=fun hv h=>by
   rcases cj hv with ⟨i,t,rfl,rfl⟩ | ⟨x,t,rfl,rfl⟩
   . exact wpAny_pyHash_int h
   . exact wpAny_pyHash_str h
 eqBool:=fun hu hv h=>by
   rcases cj hu with ⟨i,t,rfl,rfl⟩ | ⟨x,t,rfl,rfl⟩
   . rcases cj hv with ⟨j,u,rfl,rfl⟩ | ⟨y,u,rfl,rfl⟩
     . rw [a8a] at h; exact wpAny_eqBool_int h
     . rw [a70] at h; exact SeqAt.EqAt.int_str i t y u _ _ _ _ h
   . rcases cj hv with ⟨j,u,rfl,rfl⟩ | ⟨y,u,rfl,rfl⟩
     . rw [a86] at h; exact SeqAt.EqAt.str_int x t j u _ _ _ _ h
     . rw [a83] at h; exact wpAny_eqBool_str h
 «strs» := fun k x t v h=>by
   rcases cj h with ⟨i,u,rfl,e⟩ | ⟨y,u,rfl,e⟩
   . exact nomatch e
   . injection e with e1 _
     subst e1
     cases v <;> rfl
theorem v6 (prog:Program) (w:World) (i:Int) (t:Tok):(bn prog w).is (.inl i) (.int i t) = true:=a1u i t
theorem vf (prog:Program) (w:World) (x:Str) (t:Tok):(bn prog w).is (.inr x) (.str x t) = true:=a0p x t
inductive V where
 | non | bl (b:Bool) | int (i:Int) | str (x:Str) | byt (b:Array UInt8) | flt (b:UInt64) | ref (a:Addr) | ty (n:String)
 deriving DecidableEq
noncomputable def RelV:V -> Value -> Prop
 | .non,u=>u = Value.none
 | .bl b,u=>u = Value.bool b
 | .int i,u => ∃ t,u = Value.int i t
 | .str x,u => ∃ t,u = Value.str x t
 | .byt b,u => ∃ t,u = Value.bytes b t
 | .flt b,u => ∃ t,u = Value.float b t
 | .ref a,u=>u = Value.ref a
 | .ty n,u=>u = Value.type n
abbrev Vals:List V -> List Value -> Prop:=Paired RelV
theorem Vals.length {xs:List V} {us:List Value} (r:Vals xs us):xs.length = us.length:=Paired.length r
theorem Vals.get:∀ {xs:List V} {us:List Value} {i:Nat} {x:V},Vals xs us -> xs[i]? = some x -> ∃ u,us[i]? = some u /\ RelV x u
 | _,_,_,_,.nil,e=>by simp at e
 | _,_,0,_,.cons r _,e=>by simp at e; subst e; exact ⟨_,rfl,r⟩
 | _,_,i + 1,x,.cons _ t,e=>by
   obtain ⟨u,h1,h2⟩:=Vals.get (i:=i) (x:=x) t (by simpa using e)
   exact ⟨u,by simpa using h1,h2⟩
theorem Vals.set {x:V} {u:Value} (r:RelV x u):∀ {xs:List V} {us:List Value} (i:Nat),Vals xs us -> Vals (xs.set i x) (us.set i u)
 | _,_,_,.nil => .nil
 | _,_,0,.cons _ t => .cons r t
 | _,_,i + 1,.cons q t => .cons q (Vals.set r i t)
theorem Vals.append:∀ {xs ys:List V} {us ws:List Value},Vals xs us -> Vals ys ws -> Vals (xs ++ ys) (us ++ ws)
 | _,_,_,_,.nil,s=>s
 | _,_,_,_,.cons r t,s => .cons r (Vals.append t s)
theorem Vals.take:∀ {xs:List V} {us:List Value} (n:Nat),Vals xs us -> Vals (xs.take n) (us.take n)
 | _,_,0,_ => .nil
 | _,_,_ + 1,.nil => .nil
 | _,_,n + 1,.cons r t => .cons r (Vals.take n t)
theorem Vals.drop:∀ {xs:List V} {us:List Value} (n:Nat),Vals xs us -> Vals (xs.drop n) (us.drop n)
 | _,_,0,r=>r
 | _,_,_ + 1,.nil => .nil
 | _,_,n + 1,.cons _ t=>Vals.drop n t
noncomputable def RelO:Option V -> Option Value -> Prop
 | some v,some u=>RelV v u
 | none,none=>True
 | _,_=>False
noncomputable def KV {κ:Type}:List (κ × V) -> List (κ × Value) -> Prop:=Paired fun (p:κ × V) (q:κ × Value)=>p.1 = q.1 /\ RelV p.2 q.2
noncomputable def kV:Key -> V
 | .inl i => .int i
 | .inr x => .str x
inductive HO where
 /-- a list -/
 | lst (xs:List V)
 /-- a tuple (never changes) -/
 | tup (xs:List V)
 /-- a dict whose keys are ints and texts; one whose keys are tuples of ints and texts (the empty one is both) -/
 | dK (kvs:List (Key × V)) | dT (kvs:List (List Key × V))
 /-- a set of ints: its members,its size -/
 | set (S:Int -> Bool) (n:Nat)
 /-- an instance of the class at C,its dict at dx,its attributes -/
 | ins (C dx:Addr) (fs:List (Str × V))
 /-- the dict of the instance at x -/
 | own (x:Addr)
 /-- the dict of an exception -/
 | xd (fs:List (Str × V))
 /-- a bound method,f of x -/
 | met (f x:Addr)
 /-- a range object lo,lo + 1,.. below hi -/
 | rng (lo hi:Int)
 /-- a thing that is known to the object (the script; a dict while a loop walks it): read,never written while it is so -/
 | frz (o:Obj) (u:HO)
 /-- a code object's table -/
 | tbl (ps:Array Value)
 /-- any other thing,by what is true of its one object (a def of one's own: SetO a S n:=HO.ext fun h => ..) -/
 | ext (φ:Heap -> Prop)
abbrev Hp:=Addr -> Option HO
noncomputable def upd (H:Hp) (a:Addr) (o:HO):Hp:=fun b=>if b = a then some o else H b
theorem aa {H:Hp} {a:Addr} {o:HO}:upd H a o a = some o:=by unfold upd; rw [if_pos rfl]
theorem ag {H:Hp} {a b:Addr} {o:HO} (h:b ≠ a):upd H a o b = H b:=by unfold upd; rw [if_neg h]
theorem i9 {H:Hp} {a b:Addr} {o u:HO} (h:H a = some o) (h':H b = some u) (d:o ≠ u):a ≠ b:=by
 intro e; subst e; rw [h] at h'; exact d (Option.some.inj h')
theorem az {H:Hp} {a b:Addr} {o:HO} (h:H a = some o) (h':H b = none):a ≠ b:=by
 intro e; subst e; rw [h] at h'; cases h'
section
variable (P:Program) (w:World)
noncomputable def ObjOk (H:Hp) (h:Heap) (a:Addr):HO -> Prop
 | .lst xs=>xs.length <= sizeLine /\ ∃ (its:List Value) (n:Nat),Vals xs its /\ h.get? a = some { cls := .type "list",data := .seq its.toArray n }
 | .tup xs=>xs.length <= sizeLine /\ ∃ its:List Value,Vals xs its /\ IsTup h a its.toArray
 | .dK kvs=>kvs.length <= sizeLine /\ (a == sysModules) = false /\ ∃ vs,KV kvs vs /\ h.DictOf (bn P w) a vs
 | .dT kvs=>kvs.length <= sizeLine /\ (a == sysModules) = false /\ ∃ xs:List (List Key × Addr × Value),
     Paired (fun (p:List Key × V) (q:List Key × Addr × Value)=>p.1 = q.1 /\ H q.2.1 = some (.tup (p.1.map kV)) /\ RelV p.2 q.2.2) kvs xs /\
     ∃ o es ep,h.get? a = some o /\ o.ExactDict /\ o.data = .dict es ep /\ es.toList = xs.map (entryOfKey (tupleKind (bn P w))) /\ (xs.map (·.1)).Nodup
 | .set S n=>h.SetOf (intKind P w) a S n
 | .ins C dx fs=>H dx = some (.own a) /\ fs.length <= 1000 /\ dx ≠ a /\ h.get? a = some (PySem.W.instObj C dx) /\
     ∃ mA,h.Ns1 dx mA /\ (∀ f,RelO (fs.lookup f) (mA f)) /\ PySem.Within mA (fs.map (·.1))
 | .own _ => ∃ o,h.get? a = some o
 | .xd fs => ∃ mA,h.Ns1 a mA /\ ∀ f,RelO (fs.lookup f) (mA f)
 | .rng lo hi => ∃ t u v,h.get? a = some { cls := .type "range",data := .fields #[.int lo t,.int hi u,.int 1 v] }
 | .frz o u=>h.get? a = some o /\ ObjOk H h a u
 | .tbl ps=>h.get? a = some { cls := .none,data := .fields ps }
 | .met f x=>h.get? a = some (PySem.W.methodObj (.ref f) (.ref x))
 | .ext φ=>φ h /\ (∃ o,h.get? a = some o) /\ ∀ h1 h2:Heap,φ h1 -> (∀ o,h1.get? a = some o -> h2.get? a = some o) -> φ h2
noncomputable def HOk (H:Hp) (h:Heap):Prop := ∀ a o,H a = some o -> ObjOk P w H h a o
end
section
variable {P:Program} {w:World} {H H':Hp} {h h':Heap} {a:Addr} {o:HO}
theorem ObjOk.lt (x:ObjOk P w H h a o):a < h.objs.size:=by
 cases o with
 | lst xs=>obtain ⟨_,_,_,_,e⟩:=x; exact Heap.lt_size e
 | tup xs=>obtain ⟨_,_,_,p⟩:=x; exact p.lt
 | dK kvs=>obtain ⟨_,_,_,_,o,_,_,e,_⟩:=x; exact Heap.lt_size e
 | dT kvs=>obtain ⟨_,_,_,_,o,_,_,e,_⟩:=x; exact Heap.lt_size e
 | set S n=>obtain ⟨o,_,_,_,e,_⟩:=x; exact Heap.lt_size e
 | ins C dx fs=>obtain ⟨_,_,_,e,_⟩:=x; exact Heap.lt_size e
 | own y=>obtain ⟨_,e⟩:=x; exact Heap.lt_size e
 | xd fs=>obtain ⟨_,⟨_,_,_,e,_⟩,_⟩:=x; exact Heap.lt_size e
 | rng lo hi=>obtain ⟨_,_,_,e⟩:=x; exact Heap.lt_size e
 | frz ob u=>obtain ⟨e,_⟩:=x; exact Heap.lt_size e
 | tbl ps=>exact Heap.lt_size (show h.get? a = some _ from x)
 | met f y=>exact Heap.lt_size (show h.get? a = some _ from x)
 | ext φ=>obtain ⟨_,⟨_,e⟩,_⟩:=x; exact Heap.lt_size e
theorem Paired.mapP {α β:Type} {F G:α -> β -> Prop}:∀ {l₁:List α} {l₂:List β},Paired F l₁ l₂ -> (∀ a b,F a b -> G a b) -> Paired G l₁ l₂
 | _,_,.nil,_ => .nil
 | _,_,.cons r t,f => .cons (f _ _ r) (Paired.mapP t f)
theorem ObjOk.stay (x:ObjOk P w H h a o) (k:∀ b u,(b = a \/ H b = some (.own a)) -> h.get? b = some u -> h'.get? b = some u)
   (ho:∀ b,H b = some (.own a) -> H' b = some (.own a)) (ht:∀ b xs,H b = some (.tup xs) -> H' b = some (.tup xs)):ObjOk P w H' h' a o:=by
 induction o with
 | lst xs=>obtain ⟨z,its,n,r,e⟩:=x; exact ⟨z,its,n,r,k _ _ (.inl rfl) e⟩
 | tup xs=>obtain ⟨z,its,r,ob,e,c⟩:=x; exact ⟨z,its,r,ob,k _ _ (.inl rfl) e,c⟩
 | dK kvs=>obtain ⟨z,y,vs,r,ob,es,ep,e,c⟩:=x; exact ⟨z,y,vs,r,ob,es,ep,k _ _ (.inl rfl) e,c⟩
 | dT kvs =>
   obtain ⟨z,y,xs,r,ob,es,ep,e,c⟩:=x
   exact ⟨z,y,xs,Paired.mapP r fun p q z=>⟨z.1,ht _ _ z.2.1,z.2.2⟩,ob,es,ep,k _ _ (.inl rfl) e,c⟩
 | set S n=>obtain ⟨ob,es,ep,t,e,c⟩:=x; exact ⟨ob,es,ep,t,k _ _ (.inl rfl) e,c⟩
 | ins C dx fs =>
   obtain ⟨d,z,ne,e,mA,⟨od,es,ep,e2,c⟩,r⟩:=x
   exact ⟨ho _ d,z,ne,k _ _ (.inl rfl) e,mA,⟨od,es,ep,k _ _ (.inr d) e2,c⟩,r⟩
 | own y=>obtain ⟨ob,e⟩:=x; exact ⟨ob,k _ _ (.inl rfl) e⟩
 | xd fs=>obtain ⟨mA,⟨od,es,ep,e,c⟩,r⟩:=x; exact ⟨mA,⟨od,es,ep,k _ _ (.inl rfl) e,c⟩,r⟩
 | rng lo hi=>obtain ⟨t,u,v,e⟩:=x; exact ⟨t,u,v,k _ _ (.inl rfl) e⟩
 | frz ob u ih=>obtain ⟨e,q⟩:=x; exact ⟨k _ _ (.inl rfl) e,ih q⟩
 | tbl ps =>
   have e:h.get? a = some { cls := .none,data := .fields ps }:=x
   show h'.get? a = some { cls := .none,data := .fields ps }
   exact k a _ (.inl rfl) e
 | met f y =>
   have e:h.get? a = some (PySem.W.methodObj (.ref f) (.ref y)):=x
   show h'.get? a = some (PySem.W.methodObj (.ref f) (.ref y))
   exact k a _ (.inl rfl) e
 | ext φ=>obtain ⟨p,⟨o,e⟩,st⟩:=x; exact ⟨st _ _ p fun o q=>k _ _ (.inl rfl) q,⟨o,k _ _ (.inl rfl) e⟩,st⟩
theorem HOk.lt (x:HOk P w H h) (e:H a = some o):a < h.objs.size:=(x a o e).lt
theorem HOk.fresh (x:HOk P w H h) (e:h.objs.size <= a):H a = none:=by
 cases q:H a with
 | none=>rfl
 | some u=>exact absurd (Nat.lt_of_lt_of_le (x.lt q) e) (Nat.lt_irrefl _)
theorem HOk.kept (x:HOk P w H h) (k:∀ b u,h.get? b = some u -> h'.get? b = some u):HOk P w H h':=fun a o e =>
 (x a o e).stay (fun b u _ q=>k b u q) (fun _ q=>q) fun _ _ q=>q
theorem HOk.laid (x:HOk P w H h) (k:∀ b u,h.get? b = some u -> h'.get? b = some u) (hp:h.objs.size <= a) (new:ObjOk P w (upd H a o) h' a o):HOk P w (upd H a o) h':=fun b u e=>by
 have hn:=x.fresh hp
 by_cases hb:b = a
 . subst hb; rw [aa] at e; cases e; exact new
 . rw [ag hb] at e
   exact (x b u e).stay (fun c v _ q=>k c v q) (fun c q=>by rw [ag (az q hn)]; exact q) fun c xs q=>by rw [ag (az q hn)]; exact q
end
noncomputable def Rd (H:Hp) (a:Addr) (u:HO):Prop:=H a = some u \/ ∃ o,H a = some (.frz o u)
theorem Rd.ok {P:Program} {w:World} {H:Hp} {h:Heap} {a:Addr} {u:HO} (r:Rd H a u) (x:HOk P w H h):ObjOk P w H h a u:=by
 rcases r with r | ⟨o,r⟩
 . exact x a u r
 . obtain ⟨_,q⟩:=x a _ r
   exact q
noncomputable def Mut:Option HO -> Prop
 | some (.lst _)=>True
 | some (.dK _)=>True
 | some (.dT _)=>True
 | some (.set _ _)=>True
 | some (.ins _ _ _)=>True
 | some (.ext _)=>True
 | _=>False
section
variable {P:Program} {w:World} {H:Hp} {h h':Heap} {x e:Addr} {o':HO}
theorem HOk.write (ok:HOk P w H h) (mu:Mut (H x)) (he:e = x \/ H e = some (.own x)) (k:∀ b u,b ≠ e -> h.get? b = some u -> h'.get? b = some u) (heo:∃ u,h'.get? e = some u)
   (new:ObjOk P w (upd H x o') h' x o'):HOk P w (upd H x o') h':=fun b u q=>by
 have nown:∀ c y,H c = some (.own y) -> c ≠ x:=fun c y r z=>by subst z; rw [r] at mu; exact mu
 have ntup:∀ c xs,H c = some (.tup xs) -> c ≠ x:=fun c xs r z=>by subst z; rw [r] at mu; exact mu
 by_cases hb:b = x
 . subst hb; rw [aa] at q; cases q; exact new
 . rw [ag hb] at q
   by_cases hbe:b = e
   . have q':H b = some (.own x):=by
       rcases he with z | z
       . exact absurd (hbe.trans z) hb
       . rw [hbe]; exact z
     rw [q] at q'; cases q'
     obtain ⟨v,hv⟩:=heo
     exact ⟨v,by rw [hbe]; exact hv⟩
   . refine (ok b u q).stay (fun c v hc r=>k c v ?_ r) (fun c r=>by rw [ag (nown c b r)]; exact r) fun c xs r=>by rw [ag (ntup c xs r)]; exact r
     rcases hc with rfl | hc
     . exact hbe
     . rintro rfl
       rcases he with z | z
       . exact nown c b hc z
       . rw [hc] at z; cases z; exact hb rfl
end
structure Un (fs ex:List Addr) (H H':Hp) (h h':Heap):Prop where
 keep:∀ b o,h.get? b = some o -> H b = none -> b ∉ fs -> b ∉ ex -> h'.get? b = some o
 slot:∀ b o,h.get? b = some o -> H b = none -> b ∈ fs -> b ∉ ex -> ∃ sl,h'.get? b = some { o with slots:=sl }
 free:∀ b o,h.get? b = some o -> H b = none -> b ∉ ex -> H' b = none
 there:∀ b o,h.get? b = some o -> b ∉ ex -> ∃ o',h'.get? b = some o'
 tups:∀ b xs,H b = some (.tup xs) -> H' b = some (.tup xs)
 frzs:∀ b o u,H b = some (.frz o u) -> H' b = some (.frz o u)
 tbls:∀ b ps,H b = some (.tbl ps) -> ∃ more,H' b = some (.tbl (ps ++ more))
section
variable {fs fs' ex ex':List Addr} {H H1 H2:Hp} {h h1 h2 h':Heap} {a x e:Addr} {o:HO}
theorem Un.any (u:Un fs ex H H1 h h1) {b:Addr} {ob:Obj} (q:h.get? b = some ob) (n:H b = none) (hx:b ∉ ex):∃ sl,h1.get? b = some { ob with slots:=sl }:=by
 by_cases hb:b ∈ fs
 . exact u.slot b ob q n hb hx
 . exact ⟨ob.slots,u.keep b ob q n hb hx⟩
theorem Un.kept (k:∀ b u,h.get? b = some u -> h'.get? b = some u):Un fs ex H H h h' :=
 ⟨fun b ob q _ _ _=>k b ob q,fun b ob q _ _ _=>⟨ob.slots,k b ob q⟩,fun _ _ _ n _=>n,fun b ob q _=>⟨ob,k b ob q⟩,fun _ _ q=>q,fun _ _ _ q=>q,fun _ ps q=>⟨#[],by rw [q]; simp⟩⟩
theorem Un.refl:Un fs ex H H h h:=Un.kept fun _ _ q=>q
theorem Un.laid (k:∀ b u,h.get? b = some u -> h'.get? b = some u) (hp:h.objs.size <= a) (hn:H a = none):Un fs ex H (upd H a o) h h' where
 keep:=fun b u q _ _ _=>k b u q
 slot:=fun b u q _ _ _=>⟨u.slots,k b u q⟩
 free:=fun b u q n _=>by rw [ag (Nat.ne_of_lt (Nat.lt_of_lt_of_le (Heap.lt_size q) hp))]; exact n
 there:=fun b u q _=>⟨u,k b u q⟩
 tups:=fun b xs q=>by rw [ag (az q hn)]; exact q
 frzs:=fun b u xs q=>by rw [ag (az q hn)]; exact q
 tbls:=fun b ps q=>⟨#[],by rw [ag (az q hn),q]; simp⟩
theorem Un.write (mu:Mut (H x)) (he:e = x \/ H e = some (.own x)) (k:∀ b u,b ≠ e -> h.get? b = some u -> h'.get? b = some u) (heo:∃ u,h'.get? e = some u):Un fs ex H (upd H x o) h h':=by
 have hx:∀ b,H b = none -> b ≠ x:=fun b n z=>by subst z; rw [n] at mu; exact mu
 have hb:∀ b,H b = none -> b ≠ e:=fun b n z=>by
   subst z
   rcases he with r | r
   . exact hx b n r
   . rw [n] at r; cases r
 have hm:∀ b u,H b = some u -> ¬ Mut (some u) -> b ≠ x:=fun b u q nm z=>by subst z; rw [q] at mu; exact nm mu
 refine ⟨fun b u q n _ _=>k b u (hb b n) q,fun b u q n _ _=>⟨u.slots,k b u (hb b n) q⟩,fun b u q n _=>by rw [ag (hx b n)]; exact n,fun b u q _=>?_,
   fun b xs q=>by rw [ag (hm b _ q fun z=>z)]; exact q,fun b u xs q=>by rw [ag (hm b _ q fun z=>z)]; exact q,fun b ps q=>⟨#[],by rw [ag (hm b _ q fun z=>z),q]; simp⟩⟩
 by_cases hbe:b = e
 . subst hbe; exact heo
 . exact ⟨u,k b u hbe q⟩
end
noncomputable def trk (h:Heap) (H:Hp):List Addr:=(List.range h.objs.size).filter fun a=>(H a).isSome
noncomputable def hidT (h:Heap) (H:Hp):Heap:=PySem.W.hideAll h (trk h H)
theorem a1x (h:Heap) (H:Hp):(hidT h H).objs.size = h.objs.size:=PySem.W.hideAll_size _ _
theorem a2m {h:Heap} {H:Hp} {b:Addr} {o:Obj} (e:h.get? b = some o) (n:H b = none):(hidT h H).get? b = some o :=
 PySem.W.hideAll_get _ e fun hm=>by
   have q:(H b).isSome = true:=(List.mem_filter.mp hm).2
   rw [n] at q; simp at q
theorem a5s {h:Heap} {H:Hp} {b:Addr} {o:Obj} (e:(hidT h H).get? b = some o):h.get? b = some o /\ H b = none:=by
 have e':h.get? b = some o:=PySem.W.of_hideAll (trk h H) e
 refine ⟨e',?_⟩
 cases q:H b with
 | none=>rfl
 | some x =>
   have hm:b ∈ trk h H:=List.mem_filter.mpr ⟨List.mem_range.mpr (Heap.lt_size e'),by simp [q]⟩
   have z:(hidT h H).get? b = none:=PySem.W.hideAll_none (trk h H) hm
   rw [z] at e; cases e
noncomputable def a5o (g h:Heap) (L:Addr):List (Addr × Obj):=(List.range h.objs.size).filterMap fun a=>if a = L \/ (g.get? a).isSome = true then none else (h.get? a).map fun o=>(a,o)
noncomputable def rest (g h:Heap) (L d:Addr):List (Addr × Obj):=(a5o g h L).filter fun p=>decide (p.1 ≠ d)
structure Mod (K:PySem.W.Frag) (mg:Str -> Option Value) (base:Heap):Prop where
 kin:K.In base
 glob:base.Ns mainGlobals mg
 blt:∃ mb,base.Ns builtinsNs mb /\ ∀ x:Str,x ≠ "__name__" -> mb x = bootBuiltins x
 nolimit:base.NoLimit
set_option genInjectivity false in
structure Cx where
 prog:Program
 w:World
 K:PySem.W.Frag
 mg:Str -> Option Value
 base:Heap
 A:Around
 N:List Str
 s₀:Shared
 H₀:Hp
 env:Env
 outer:List Env
 stack:List Env
 ex:List Addr
 fn:Str -> Bool
 calm:Bool
 pn:List (Addr × Obj)
 xe:Value -> Shared -> Prop
noncomputable def frs (l:List Env):List Addr:=l.filterMap (·.frame)
noncomputable abbrev Cx.fs (X:Cx):List Addr:=frs X.outer
noncomputable def Vis (sc:Scope) (x:Str):Prop:=sc.names.lookup x = some .local \/ sc.names.lookup x = some .cell \/ sc.names.lookup x = some .free
noncomputable def Loc (sc:Scope) (x:Str):Prop:=sc.names.lookup x = some .local \/ sc.names.lookup x = some .cell
noncomputable def Look (env:Env) (h:Heap) (m:Str -> Option Value) (x:Str) (u:Value):Prop :=
 (env.kindOf x = some .local /\ m x = some u) \/ ((env.kindOf x = some .cell \/ env.kindOf x = some .free) /\ ∃ c,env.cells.lookup x = some c /\ h.IsCell c (some u))
structure Cx.Ok (X:Cx):Prop where
 mod:Mod X.K X.mg X.base
 kind:X.env.scope.kind = .function
 glob:X.env.globals = mainGlobals
 blt:X.env.builtins = builtinsNs
 above:X.s₀.heap.objs.size <= X.env.locals
 inj:∀ x y c,X.env.cells.lookup x = some c -> X.env.cells.lookup y = some c -> x = y
 has:∀ x,(X.env.kindOf x = some .cell \/ X.env.kindOf x = some .free) -> ∃ c,X.env.cells.lookup x = some c
 cab:∀ x c,X.fn x = true -> X.env.cells.lookup x = some c -> X.s₀.heap.objs.size <= c
 hd:X.calm = true -> X.A.handled = none
 frames:X.A.frames = some X.stack
 stk:X.stack = X.outer \/ (X.stack = X.env :: X.outer /\ X.env.frame = some X.env.locals)
 exf:∀ b ∈ X.ex,b ≠ X.env.locals /\ ∀ x c,X.env.cells.lookup x = some c -> c ≠ b
 bs:∀ b o,X.base.get? b = some o -> X.s₀.heap.get? b = some o /\ X.H₀ b = none
 bsz:X.base.objs.size <= X.s₀.heap.objs.size
 noex:∀ b o,X.base.get? b = some o -> b ∉ X.ex
 exfs:∀ b ∈ X.ex,b ∉ X.fs
 funs:X.s₀.heap.FunFrames X.base X.outer
 frf:∀ b ∈ X.fs,X.H₀ b = none
structure Inv (X:Cx) (pins:List (Addr × Obj)) (σ:List (Option V)) (H:Hp) (s:Shared):Prop where
 ok:X.Ok
 os:s.os = X.s₀.os
 bare:AllBare s.gens
 base:Un X.fs X.ex X.H₀ H X.s₀.heap s.heap
 loc:∃ m,s.heap.Ns X.env.locals m /\ ∀ (i:Nat) (x:Str) (v:V),X.N[i]? = some x -> σ[i]? = some (some v) -> Vis X.env.scope x -> ∃ u,RelV v u /\ Look X.env s.heap m x u
 cell:∀ x c,X.env.cells.lookup x = some c -> ∃ v,s.heap.IsCell c v
 free:H X.env.locals = none
 freeC:∀ x c,X.env.cells.lookup x = some c -> H c = none
 pin:∀ p ∈ X.pn ++ pins,s.heap.get? p.1 = some p.2 /\ H p.1 = none /\ p.1 ≠ X.env.locals /\ p.1 ∉ X.fs /\ ∀ v,p.2.data ≠ .cell v
 hok:HOk X.prog X.w H s.heap
 len:σ.length = X.N.length
section
variable {X:Cx} {pins:List (Addr × Obj)} {σ:List (Option V)} {H H':Hp} {s:Shared} {h':Heap}
theorem Cx.Ok.nofr (ok:X.Ok) {b:Addr} {o:Obj} (e:X.base.get? b = some o):b ∉ X.fs:=fun hb=>by
 have:=(ok.funs.mem hb).1
 rw [e] at this; cases this
theorem Inv.bs (I:Inv X pins σ H s):∀ b o,X.base.get? b = some o -> s.heap.get? b = some o /\ H b = none:=fun b o e =>
 ⟨I.base.keep b o (I.ok.bs b o e).1 (I.ok.bs b o e).2 (I.ok.nofr e) (I.ok.noex b o e),I.base.free b o (I.ok.bs b o e).1 (I.ok.bs b o e).2 (I.ok.noex b o e)⟩
theorem Inv.bk (I:Inv X pins σ H s):∀ b o,X.base.get? b = some o -> s.heap.get? b = some o:=fun b o e=>(I.bs b o e).1
theorem Inv.mod (I:Inv X pins σ H s):Mod X.K X.mg X.base:=I.ok.mod
theorem Inv.kIn (I:Inv X pins σ H s):X.K.In s.heap:=I.ok.mod.kin.keeps I.bk
theorem Inv.lt (I:Inv X pins σ H s):X.env.locals < s.heap.objs.size:=let ⟨_,hn,_⟩:=I.loc; hn.lt
theorem Inv.sz (I:Inv X pins σ H s):X.s₀.heap.objs.size <= s.heap.objs.size:=Nat.le_trans I.ok.above (Nat.le_of_lt I.lt)
theorem Inv.nofs (I:Inv X pins σ H s) {a:Addr} (h:s.heap.objs.size <= a):a ∉ X.fs:=fun hb=>by
 obtain ⟨_,o,ho,_⟩:=I.ok.funs.mem hb
 exact absurd (Nat.lt_of_lt_of_le (Heap.lt_size ho) (Nat.le_trans I.sz h)) (Nat.lt_irrefl _)
theorem Inv.cne (I:Inv X pins σ H s):∀ x c,X.env.cells.lookup x = some c -> c ≠ X.env.locals:=fun x c e z=>by
 obtain ⟨v,o,ho,hd⟩:=I.cell x c e
 obtain ⟨m,⟨o',es,ep,ho',hd',_⟩,_⟩:=I.loc
 rw [z,ho'] at ho; cases ho; rw [hd'] at hd; cases hd
theorem Inv.funs (I:Inv X pins σ H s):s.heap.FunFrames X.base X.outer:=by
 have all:∀ (l:List Env),(∀ b ∈ frs l,b ∈ X.fs) -> X.s₀.heap.FunFrames X.base l -> s.heap.FunFrames X.base l:=by
   intro l
   induction l with
   | nil=>intro _ _; trivial
   | cons env r ih =>
     intro hs hl
     obtain ⟨hk,⟨L,o,hf,hn,ho,hd⟩,hr⟩:=hl
     have hL:L ∈ X.fs:=hs L (by unfold frs; rw [List.filterMap_cons,hf]; exact List.mem_cons_self)
     obtain ⟨sl,e⟩:=I.base.slot L o ho (I.ok.frf L hL) hL fun z=>I.ok.exfs L z hL
     exact ⟨hk,⟨L,_,hf,hn,e,hd⟩,ih (fun b hb=>hs b (by unfold frs; rw [List.filterMap_cons,hf]; exact List.mem_cons_of_mem _ hb)) hr⟩
 exact all X.outer (fun _ hb=>hb) I.ok.funs
theorem Inv.stack (I:Inv X pins σ H s):s.heap.FunFrames X.base X.stack:=by
 rcases I.ok.stk with e | ⟨e,hf⟩
 . rw [e]; exact I.funs
 . rw [e]
   obtain ⟨m,hn,_⟩:=I.loc
   refine .cons (by rw [I.ok.kind]; decide) hf hn ?_ I.funs
   exact Heap.get?_none_of_le (Nat.le_trans I.ok.bsz I.ok.above)
theorem Inv.stkSub (I:Inv X pins σ H s):∀ b ∈ frs X.stack,b ∈ X.env.locals :: X.fs:=fun b hb=>by
 rcases I.ok.stk with e | ⟨e,hf⟩
 . rw [e] at hb; exact List.mem_cons_of_mem _ hb
 . rw [e] at hb
   unfold frs at hb
   rw [List.filterMap_cons,hf] at hb
   exact hb
theorem Inv.stkFree (I:Inv X pins σ H s):∀ b ∈ frs X.stack,H b = none:=fun b hb=>by
 rcases List.mem_cons.mp (I.stkSub b hb) with e | hb
 . rw [e]; exact I.free
 . obtain ⟨_,o,ho,_⟩:=I.ok.funs.mem hb
   exact I.base.free b o ho (I.ok.frf b hb) fun z=>I.ok.exfs b z hb
theorem Inv.step {g':Array GenState} {t':Nat} {d':Drawn} {ch:List Addr} (I:Inv X pins σ H s)
   (hch:∀ b ∈ ch,(b ∈ X.ex \/ X.s₀.heap.objs.size <= b) /\ b ≠ X.env.locals /\ (∀ x c,X.env.cells.lookup x = some c -> c ≠ b) /\ ∀ p ∈ X.pn ++ pins,p.1 ≠ b)
   (keep:∀ b o,b ≠ X.env.locals -> b ∉ X.fs -> b ∉ ch -> s.heap.get? b = some o -> H b = none -> h'.get? b = some o)
   (slot:∀ b o,b ≠ X.env.locals -> b ∈ X.fs -> b ∉ ch -> s.heap.get? b = some o -> H b = none -> ∃ sl,h'.get? b = some { o with slots:=sl }) (free:∀ b o,b ∉ ch -> s.heap.get? b = some o -> H b = none -> H' b = none)
   (there:∀ b o,b ∉ ch -> s.heap.get? b = some o -> ∃ o',h'.get? b = some o')
   (tups:∀ b xs,H b = some (.tup xs) -> H' b = some (.tup xs)) (frzs:∀ b o u,H b = some (.frz o u) -> H' b = some (.frz o u)) (tbls:∀ b ps,H b = some (.tbl ps) -> ∃ more,H' b = some (.tbl (ps ++ more)))
   (ns:∀ m,s.heap.Ns X.env.locals m -> h'.Ns X.env.locals m) (hok:HOk X.prog X.w H' h') (hg:AllBare g') :
   Inv X pins σ H' { s with heap:=h',gens:=g',drawn:=d',toks:=t' }:=by
 have neL:∀ b o,X.s₀.heap.get? b = some o -> b ≠ X.env.locals:=fun b o e=>Nat.ne_of_lt (Nat.lt_of_lt_of_le (Heap.lt_size e) I.ok.above)
 have neC:∀ b o,X.s₀.heap.get? b = some o -> b ∉ X.ex -> b ∉ ch:=fun b o e hx hb=>by
   rcases (hch b hb).1 with z | z
   . exact hx z
   . exact absurd (Nat.lt_of_lt_of_le (Heap.lt_size e) z) (Nat.lt_irrefl _)
 have cellK:∀ x c,X.env.cells.lookup x = some c -> ∀ v,s.heap.IsCell c v -> h'.IsCell c v:=fun x c e v ⟨o,ho,hd⟩=>by
   have nch:c ∉ ch:=fun z=>(hch c z).2.2.1 x c e rfl
   by_cases hc:c ∈ X.fs
   . obtain ⟨sl,q⟩:=slot c o (I.cne x c e) hc nch ho (I.freeC x c e)
     exact ⟨_,q,hd⟩
   . exact ⟨o,keep c o (I.cne x c e) hc nch ho (I.freeC x c e),hd⟩
 refine ⟨I.ok,I.os,hg,⟨fun b o e n hb hx=>?_,fun b o e n hb hx=>?_,fun b o e n hx=>?_,fun b o e hx=>?_,fun b xs e=>tups b xs (I.base.tups b xs e),fun b o xs e=>frzs b o xs (I.base.frzs b o xs e),fun b ps e=>?_⟩,?_,fun x c e=>?_,?_,fun x c e=>?_,fun p hp=>?_,hok,I.len⟩
 . exact keep b o (neL b o e) hb (neC b o e hx) (I.base.keep b o e n hb hx) (I.base.free b o e n hx)
 . obtain ⟨sl,e1⟩:=I.base.slot b o e n hb hx
   obtain ⟨sl',e2⟩:=slot b _ (neL b o e) hb (neC b o e hx) e1 (I.base.free b o e n hx)
   exact ⟨sl',e2⟩
 . obtain ⟨o',e1⟩:=I.base.there b o e hx
   exact free b o' (neC b o e hx) e1 (I.base.free b o e n hx)
 . obtain ⟨o',e1⟩:=I.base.there b o e hx
   exact there b o' (neC b o e hx) e1
 . obtain ⟨m1,e1⟩:=I.base.tbls b ps e
   obtain ⟨m2,e2⟩:=tbls b _ e1
   exact ⟨m1 ++ m2,by rw [e2,Array.append_assoc]⟩
 . obtain ⟨m,hn,hl⟩:=I.loc
   refine ⟨m,ns m hn,fun i x v e1 e2 e3=>?_⟩
   obtain ⟨u,r,l⟩:=hl i x v e1 e2 e3
   refine ⟨u,r,?_⟩
   rcases l with l | ⟨k,c,e,z⟩
   . exact .inl l
   . exact .inr ⟨k,c,e,cellK x c e _ z⟩
 . obtain ⟨v,z⟩:=I.cell x c e
   exact ⟨v,cellK x c e v z⟩
 . obtain ⟨m,⟨o,_,_,ho,_⟩,_⟩:=I.loc
   exact free _ o (fun z=>(hch _ z).2.1 rfl) ho I.free
 . obtain ⟨v,o,ho,hd⟩:=I.cell x c e
   exact free c o (fun z=>(hch c z).2.2.1 x c e rfl) ho (I.freeC x c e)
 . obtain ⟨e,n,ne,nf,d⟩:=I.pin p hp
   have nch:p.1 ∉ ch:=fun z=>(hch p.1 z).2.2.2 p hp rfl
   exact ⟨keep p.1 p.2 ne nf nch e n,free p.1 p.2 nch e n,ne,nf,d⟩
theorem Inv.un {t':Nat} (I:Inv X pins σ H s) (u:Un X.fs [] H H' s.heap h') (hok:HOk X.prog X.w H' h'):Inv X pins σ H' { s with heap:=h',toks:=t' }:=by
 obtain ⟨m,⟨o,es,ep,ho,r⟩,_⟩:=id I.loc
 obtain ⟨sl,hL⟩:=u.any ho I.free (by simp)
 exact I.step (g':=s.gens) (d':=s.drawn) (ch:=[]) (fun _ z=>nomatch z) (fun b o _ hb _ e n=>u.keep b o e n hb (by simp)) (fun b o _ hb _ e n=>u.slot b o e n hb (by simp)) (fun b o _ e n=>u.free b o e n (by simp)) (fun b o _ e=>u.there b o e (by simp)) u.tups u.frzs u.tbls (fun m' hm=>by
   obtain ⟨o',es',ep',ho',r'⟩:=hm
   rw [ho] at ho'; cases ho'
   exact ⟨_,es',ep',hL,r'⟩) hok I.bare
theorem Inv.call {g':Array GenState} {t':Nat} {d':Drawn} {ch:List Addr} (I:Inv X pins σ H s) (u:Un (frs X.stack) ch H H' s.heap h') (hok:HOk X.prog X.w H' h') (hg:AllBare g')
   (hch:∀ b ∈ ch,(b ∈ X.ex \/ X.s₀.heap.objs.size <= b) /\ b ≠ X.env.locals /\ (∀ x c,X.env.cells.lookup x = some c -> c ≠ b) /\ ∀ p ∈ X.pn ++ pins,p.1 ≠ b) :
   Inv X pins σ H' { s with heap:=h',gens:=g',drawn:=d',toks:=t' }:=by
 obtain ⟨m,⟨o,es,ep,ho,r⟩,_⟩:=id I.loc
 obtain ⟨sl,hL⟩:=u.any ho I.free fun z=>(hch _ z).2.1 rfl
 exact I.step (ch:=ch) hch (fun b o hL hb hc e n=>u.keep b o e n (fun z=>(List.mem_cons.mp (I.stkSub b z)).elim hL hb) hc) (fun b o _ _ hc e n=>u.any e n hc) (fun b o hc e n=>u.free b o e n hc) (fun b o hc e=>u.there b o e hc) u.tups u.frzs u.tbls (fun m' hm=>by
   obtain ⟨o',es',ep',ho',r'⟩:=hm
   rw [ho] at ho'; cases ho'
   exact ⟨_,es',ep',hL,r'⟩) hok hg
theorem Inv.turned {t':Nat} {it:Addr} (I:Inv X pins σ H s) (k:∀ b o,b ≠ it -> s.heap.get? b = some o -> h'.get? b = some o) (hn:H it = none) (hL:it ≠ X.env.locals)
   (h1:it ∈ X.ex \/ X.s₀.heap.objs.size <= it) (h2:∀ x c,X.env.cells.lookup x = some c -> c ≠ it) (h3:∀ p ∈ X.pn ++ pins,p.1 ≠ it):Inv X pins σ H { s with heap:=h',toks:=t' }:=by
 have nit:∀ b u,H b = some u -> b ≠ it:=fun b u e z=>by rw [z,hn] at e; cases e
 refine I.step (g':=s.gens) (d':=s.drawn) (ch:=[it]) (fun b hb=>?_) (fun b o _ _ hc e _=>k b o (fun z=>hc (by simp [z])) e) (fun b o _ _ hc e _=>⟨o.slots,k b o (fun z=>hc (by simp [z])) e⟩) (fun _ _ _ _ n=>n)
   (fun b o hc e=>⟨o,k b o (fun z=>hc (by simp [z])) e⟩) (fun _ _ e=>e) (fun _ _ _ e=>e) (fun b ps e=>⟨#[],by rw [e]; simp⟩) (fun m hm=>?_) (fun b u e=>?_) I.bare
 . have e:b = it:=by simpa using hb
   subst e
   exact ⟨h1,hL,h2,h3⟩
 . obtain ⟨o,es,ep,ho,r⟩:=hm
   exact ⟨o,es,ep,k _ o (Ne.symm hL) ho,r⟩
 . refine (I.hok b u e).stay (fun c v hc q=>k c v ?_ q) (fun _ q=>q) fun _ _ q=>q
   rcases hc with z | z
   . rw [z]; exact nit b u e
   . exact nit c _ z
theorem Inv.tok (I:Inv X pins σ H s) (t:Nat):Inv X pins σ H { s with toks:=t }:=I.un (h':=s.heap) (t':=t) Un.refl I.hok
theorem Inv.kept {t':Nat} (I:Inv X pins σ H s) (k:∀ b u,s.heap.get? b = some u -> h'.get? b = some u):Inv X pins σ H { s with heap:=h',toks:=t' }:=I.un (Un.kept k) (I.hok.kept k)
theorem Inv.laid {a:Addr} {o:HO} {t':Nat} (I:Inv X pins σ H s) (k:∀ b u,s.heap.get? b = some u -> h'.get? b = some u) (hp:s.heap.objs.size <= a) (new:ObjOk X.prog X.w (upd H a o) h' a o) :
   Inv X pins σ (upd H a o) { s with heap:=h',toks:=t' }:=I.un (Un.laid k hp (I.hok.fresh hp)) (I.hok.laid k hp new)
theorem Inv.write {x e:Addr} {o:HO} {t':Nat} (I:Inv X pins σ H s) (mu:Mut (H x)) (he:e = x \/ H e = some (.own x)) (k:∀ b u,b ≠ e -> s.heap.get? b = some u -> h'.get? b = some u) (heo:∃ u,h'.get? e = some u)
   (new:ObjOk X.prog X.w (upd H x o) h' x o):Inv X pins σ (upd H x o) { s with heap:=h',toks:=t' }:=I.un (Un.write mu he k heo) (I.hok.write mu he k heo new)
theorem Inv.pins_of {pins':List (Addr × Obj)} (I:Inv X pins σ H s) (h:∀ p ∈ pins',s.heap.get? p.1 = some p.2 /\ H p.1 = none /\ p.1 ≠ X.env.locals /\ p.1 ∉ X.fs /\ ∀ v,p.2.data ≠ .cell v):Inv X pins' σ H s :=
 ⟨I.ok,I.os,I.bare,I.base,I.loc,I.cell,I.free,I.freeC,fun p hp=>(List.mem_append.mp hp).elim (fun z=>I.pin p (List.mem_append_left _ z)) (h p),I.hok,I.len⟩
theorem u8 {N:List Str} (hN:N.Nodup) {i j:Nat} {x:Str} (a:N[i]? = some x) (b:N[j]? = some x):i = j:=by
 obtain ⟨h1,e1⟩:=List.getElem?_eq_some_iff.mp a
 obtain ⟨h2,e2⟩:=List.getElem?_eq_some_iff.mp b
 exact (List.getElem_inj hN).mp (e1.trans e2.symm)
theorem qb {M:Model} {A:Around} {E:Value -> Shared -> Prop} {i:Nat} {x:Str} {v:V} {u:Value} {Q:Unit -> Shared -> Prop} (I:Inv X pins σ H s) (hN:X.N.Nodup) (hi:X.N[i]? = some x) (hx:Loc X.env.scope x) (r:RelV v u)
   (h:∀ s',Inv X pins (σ.set i (some v)) H s' -> (∃ a,Heap.SameBut a s.heap s'.heap /\ (a = X.env.locals \/ X.env.cells.lookup x = some a)) -> Q () s') (hf:autoParam (X.fn x = true \/ X.env.scope.names.lookup x = some .local) L2.a0_):wpAny M A (storeName X.env x u) Q E s:=by
 obtain ⟨m,hn,hl⟩:=id I.loc
 have hcls:(X.env.scope.kind == .class || (X.env.scope.kind == .module && X.env.locals != X.env.globals)) = false:=by rw [I.ok.kind]; rfl
 have hiσ:i < σ.length:=by rw [I.len]; exact (List.getElem?_eq_some_iff.mp hi).1
 have cne:=I.cne
 have tracked:∀ {a:Addr} {h':Heap},(∃ o,s.heap.get? a = some o /\ H a = none) -> Heap.SameBut a s.heap h' -> HOk X.prog X.w H h':=fun {a h'} ha hs b ob e=>by
   obtain ⟨_,_,hfree⟩:=ha
   refine (I.hok b ob e).stay (fun c w' hc q=>(hs.2 c ?_).trans q) (fun _ q=>q) fun _ _ q=>q
   rintro rfl
   rcases hc with rfl | hc
   . rw [hfree] at e; cases e
   . rw [hfree] at hc; cases hc
 rcases hx with hk | hk
 . refine wpAny_storeName_local hk hn (fun h' hn' hs=>?_) hcls
   obtain ⟨oL,_,_,hoL,_⟩:=id hn
   refine h _ ⟨I.ok,I.os,I.bare,⟨fun b o e n hb hx=>?_,fun b o e n hb hx=>?_,I.base.free,fun b o e hx=>?_,I.base.tups,I.base.frzs,I.base.tbls⟩,⟨_,hn',fun j y v' e1 e2 e3=>?_⟩,fun y c e=>?_,I.free,I.freeC,fun p hp=>?_,tracked ⟨oL,hoL,I.free⟩ hs,by simpa using I.len⟩ ⟨_,hs,.inl rfl⟩
   . exact (hs.2 b (Nat.ne_of_lt (Nat.lt_of_lt_of_le (Heap.lt_size e) I.ok.above))).trans (I.base.keep b o e n hb hx)
   . obtain ⟨sl,e1⟩:=I.base.slot b o e n hb hx
     exact ⟨sl,(hs.2 b (Nat.ne_of_lt (Nat.lt_of_lt_of_le (Heap.lt_size e) I.ok.above))).trans e1⟩
   . obtain ⟨o',e1⟩:=I.base.there b o e hx
     exact ⟨o',(hs.2 b (Nat.ne_of_lt (Nat.lt_of_lt_of_le (Heap.lt_size e) I.ok.above))).trans e1⟩
   . by_cases hj:j = i
     . subst hj
       rw [hi] at e1; cases e1
       rw [List.getElem?_set_self hiσ] at e2
       cases e2
       exact ⟨u,r,.inl ⟨hk,by simp⟩⟩
     . rw [List.getElem?_set_ne (Ne.symm hj)] at e2
       obtain ⟨u',r',q⟩:=hl j y v' e1 e2 e3
       refine ⟨u',r',?_⟩
       rcases q with ⟨k,e⟩ | ⟨k,c,e,z⟩
       . refine .inl ⟨k,?_⟩
         have:y ≠ x:=fun e=>hj (u8 hN e1 (e ▸ hi))
         simp [this,e]
       . exact .inr ⟨k,c,e,z.sameBut hs (cne y c e)⟩
   . obtain ⟨w',z⟩:=I.cell y c e
     exact ⟨w',z.sameBut hs (cne y c e)⟩
   . obtain ⟨e,n,ne,nf,d⟩:=I.pin p hp
     exact ⟨(hs.2 p.1 ne).trans e,n,ne,nf,d⟩
 . have hfn:X.fn x = true:=by
     rcases hf with z | z
     . exact z
     . rw [z] at hk; cases hk
   obtain ⟨c,hc⟩:=I.ok.has x (.inl hk)
   obtain ⟨w',z⟩:=I.cell x c hc
   refine wpAny_storeName_cell I.ok.kind hk hc z (fun h' hc' hs=>?_)
   obtain ⟨oc,hoc,hocd⟩:=id z
   refine h { s with heap:=h' } ⟨I.ok,I.os,I.bare,⟨fun b o e n hb hx=>?_,fun b o e n hb hx=>?_,I.base.free,fun b o e hx=>?_,I.base.tups,I.base.frzs,I.base.tbls⟩,⟨m,hn.sameBut hs (Ne.symm (cne x c hc)),fun j y v' e1 e2 e3=>?_⟩,fun y c' e=>?_,I.free,I.freeC,fun p hp=>?_,tracked ⟨oc,hoc,I.freeC x c hc⟩ hs,by simpa using I.len⟩ ⟨c,hs,.inr hc⟩
   . exact (hs.2 b (Nat.ne_of_lt (Nat.lt_of_lt_of_le (Heap.lt_size e) (I.ok.cab x c hfn hc)))).trans (I.base.keep b o e n hb hx)
   . obtain ⟨sl,e1⟩:=I.base.slot b o e n hb hx
     exact ⟨sl,(hs.2 b (Nat.ne_of_lt (Nat.lt_of_lt_of_le (Heap.lt_size e) (I.ok.cab x c hfn hc)))).trans e1⟩
   . obtain ⟨o',e1⟩:=I.base.there b o e hx
     exact ⟨o',(hs.2 b (Nat.ne_of_lt (Nat.lt_of_lt_of_le (Heap.lt_size e) (I.ok.cab x c hfn hc)))).trans e1⟩
   . by_cases hj:j = i
     . subst hj
       rw [hi] at e1; cases e1
       rw [List.getElem?_set_self hiσ] at e2
       cases e2
       exact ⟨u,r,.inr ⟨.inl hk,c,hc,hc'⟩⟩
     . rw [List.getElem?_set_ne (Ne.symm hj)] at e2
       obtain ⟨u',r',q⟩:=hl j y v' e1 e2 e3
       refine ⟨u',r',?_⟩
       rcases q with q | ⟨k,c',e,z'⟩
       . exact .inl q
       . refine .inr ⟨k,c',e,z'.sameBut hs ?_⟩
         rintro rfl
         exact hj (u8 hN e1 (I.ok.inj _ _ _ e hc ▸ hi))
   . by_cases hcc:c' = c
     . subst hcc; exact ⟨_,hc'⟩
     . obtain ⟨w2,z2⟩:=I.cell y c' e
       exact ⟨w2,z2.sameBut hs hcc⟩
   . obtain ⟨e,n,ne,nf,d⟩:=I.pin p hp
     refine ⟨(hs.2 p.1 ?_).trans e,n,ne,nf,d⟩
     intro q
     rw [q,hoc] at e
     have q':oc = p.2:=Option.some.inj e
     exact d w' (by rw [<- q']; exact hocd)
theorem me {M:Model} {A:Around} {E:Value -> Shared -> Prop} {i:Nat} {x:Str} {v:V} {u:Value} {Q:Unit -> Shared -> Prop} (I:Inv X pins σ H s) (hN:X.N.Nodup) (hi:X.N[i]? = some x) (hx:Loc X.env.scope x) (r:RelV v u)
   (h:∀ s',Inv X pins (σ.set i (some v)) H s' -> Q () s') (hf:autoParam (X.fn x = true \/ X.env.scope.names.lookup x = some .local) L2.a0_):wpAny M A (storeName X.env x u) Q E s :=
 qb I hN hi hx r (fun s' I' _=>h s' I') hf
theorem Inv.call' {s':Shared} {ch:List Addr} (I:Inv X pins σ H s) (ho:s'.os = s.os) (u:Un (frs X.stack) ch H H' s.heap s'.heap) (hok:HOk X.prog X.w H' s'.heap) (hg:AllBare s'.gens)
   (hch:∀ b ∈ ch,(b ∈ X.ex \/ X.s₀.heap.objs.size <= b) /\ b ≠ X.env.locals /\ (∀ x c,X.env.cells.lookup x = some c -> c ≠ b) /\ ∀ p ∈ X.pn ++ pins,p.1 ≠ b):Inv X pins σ H' s':=by
 obtain ⟨h',g',d',t',o'⟩:=s'
 have e:o' = s.os:=ho
 subst e
 exact I.call (g':=g') (t':=t') (d':=d') u hok hg hch
end
abbrev XK:=Value -> Option Addr -> Hp -> Prop
abbrev St:=List (Option V)
abbrev VK:=V -> Hp -> Prop
abbrev TE:=St -> Hp -> VK -> Prop
abbrev TT:=St -> Hp -> (Bool -> Hp -> Prop) -> Prop
abbrev TA:=St -> Hp -> (List V -> Hp -> Prop) -> Prop
structure Ends where
 nx:St -> Hp -> Prop
 rt:VK
 bk:St -> Hp -> Prop:=fun _ _=>False
 ct:St -> Hp -> Prop:=fun _ _=>False
abbrev TS:=Ends -> St -> Hp -> Prop
inductive EPS (X:Cx) (pins:List (Addr × Obj)) (σ:St) (Q:VK) (u:Value) (s':Shared):Prop
 | mk (v:V) (H':Hp) (h0:Inv X pins σ H' s') (h1:RelV v u) (h2:Q v H'):EPS X pins σ Q u s'
noncomputable def EP (X:Cx) (pins:List (Addr × Obj)) (σ:St) (Q:VK) (u:Value) (s':Shared):Prop:=EPS X pins σ Q u s'
noncomputable def TP (X:Cx) (pins:List (Addr × Obj)) (σ:St) (Q:Bool -> Hp -> Prop) (b:Bool) (s':Shared):Prop := ∃ H',Inv X pins σ H' s' /\ Q b H'
inductive APS (X:Cx) (pins:List (Addr × Obj)) (σ:St) (Q:List V -> Hp -> Prop) (us:List Value) (s':Shared):Prop
 | mk (vs:List V) (H':Hp) (h0:Inv X pins σ H' s') (h1:Vals vs us) (h2:Q vs H'):APS X pins σ Q us s'
noncomputable def AP (X:Cx) (pins:List (Addr × Obj)) (σ:St) (Q:List V -> Hp -> Prop) (us:List Value) (s':Shared):Prop:=APS X pins σ Q us s'
noncomputable def SP (X:Cx) (pins:List (Addr × Obj)) (D:Ends) (f:Flow) (s':Shared):Prop :=
 match f with
 | .next => ∃ σ' H',Inv X pins σ' H' s' /\ D.nx σ' H'
 | .brk => ∃ σ' H',Inv X pins σ' H' s' /\ D.bk σ' H'
 | .cont => ∃ σ' H',Inv X pins σ' H' s' /\ D.ct σ' H'
 | .ret u => ∃ v σ' H',Inv X pins σ' H' s' /\ RelV v u /\ D.rt v H'
noncomputable def PE (X:Cx) (e:Expr) (t:TE):Prop :=
 ∀ (pins:List (Addr × Obj)) (s:Shared) (σ:St) (H:Hp) (Q:VK),Inv X pins σ H s -> t σ H Q -> wpAny (model X.prog X.w) X.A (eval e X.env) (EP X pins σ Q) X.xe s
noncomputable def PT (X:Cx) (e:Expr) (t:TT):Prop :=
 ∀ (pins:List (Addr × Obj)) (s:Shared) (σ:St) (H:Hp) (Q:Bool -> Hp -> Prop),Inv X pins σ H s -> t σ H Q -> wpAny (model X.prog X.w) X.A (isTrue e X.env (eval e X.env)) (TP X pins σ Q) X.xe s
noncomputable def PW (X:Cx) (e:Expr) (t:TT):Prop :=
 ∀ (whole:Sem Value) (pins:List (Addr × Obj)) (s:Shared) (σ:St) (H:Hp) (Q:Bool -> Hp -> Prop),Inv X pins σ H s -> t σ H Q -> wpAny (model X.prog X.w) X.A (isTrue e X.env whole) (TP X pins σ Q) X.xe s
theorem PW.pt {X:Cx} {e:Expr} {t:TT} (h:PW X e t):PT X e t:=h _
noncomputable def PA (X:Cx) (es:List Expr) (t:TA):Prop :=
 ∀ (pos:Pos) (pins:List (Addr × Obj)) (s:Shared) (σ:St) (H:Hp) (Q:List V -> Hp -> Prop),Inv X pins σ H s -> t σ H Q -> wpAny (model X.prog X.w) X.A (spliced (backTo pos (starEach es X.env))) (AP X pins σ Q) X.xe s
noncomputable def PS (X:Cx) (st:Stmt) (t:TS):Prop :=
 ∀ (pins:List (Addr × Obj)) (s:Shared) (σ:St) (H:Hp) (D:Ends),Inv X pins σ H s -> t D σ H -> wpAny (model X.prog X.w) X.A (exec st X.env) (SP X pins D) X.xe s
noncomputable def PSs (X:Cx) (st:List Stmt) (t:TS):Prop :=
 ∀ (pins:List (Addr × Obj)) (s:Shared) (σ:St) (H:Hp) (D:Ends),Inv X pins σ H s -> t D σ H -> wpAny (model X.prog X.w) X.A (execs st X.env) (SP X pins D) X.xe s
theorem thn {α:Type} {t:Sem α} {Q Q':α -> Shared -> Prop} {M:Model} {A:Around} {E:Value -> Shared -> Prop} {s:Shared} (h:wpAny M A t Q E s) (hQ:∀ a s,Q a s -> Q' a s):wpAny M A t Q' E s:=wpAny_mono h hQ fun _ _ x=>x
section
variable {X:Cx}
inductive tVarS (i:Nat) (σ:St) (H:Hp) (Q:VK):Prop
 | mk (v:V) (h0:σ[i]? = some (some v)) (h1:Q v H):tVarS i σ H Q
noncomputable def tVar (i:Nat):TE:=fun σ H Q=>tVarS i σ H Q
noncomputable def tC (v:V):TE:=fun _ H Q=>Q v H
theorem a7h {i:Nat} {x:Str} {pos:Pos} (hN:X.N[i]? = some x) (hv:Vis X.env.scope x) (hd:autoParam ((x == ("__debug__" : Str)) = false) L2.a1_) (hcd:autoParam ((x == ("__classdict__" : Str)) = false) L2.a1_):PE X (.Name x pos) (tVar i):=by
 intro pins s σ H Q I h
 obtain ⟨v,e,h⟩:=h
 obtain ⟨m,hn,hl⟩:=I.loc
 obtain ⟨u,r,l⟩:=hl i x v hN e hv
 have fin:EP X pins σ Q u s:=⟨v,H,I,r,h⟩
 rcases l with ⟨hk,hm⟩ | ⟨hk,c,hc,hcell⟩
 . exact wpAny_Name (wpAny_loadName_local I.ok.kind hk hn hm fin) hd
 . rcases hk with hk | hk
   . exact wpAny_Name (wpAny_loadName_cell I.ok.kind hk hc hcell fin) hd
   . exact wpAny_Name (wpAny_loadName_free I.ok.kind hk hc hcell fin hcd) hd
theorem jx {i j pos}:PE X (.Constant (.int i) j pos) (tC (.int i)):=fun _ _ _ H _ I h=>wpAny_Constant_int ⟨.int i,H,I.tok _,⟨_,rfl⟩,h⟩
theorem a8s {b j pos}:PE X (.Constant (.bool b) j pos) (tC (.bl b)):=fun _ _ _ H _ I h=>Constant_bool ⟨.bl b,H,I,rfl,h⟩
theorem a7o {j pos}:PE X (.Constant .none j pos) (tC .non):=fun _ _ _ H _ I h=>Constant_none ⟨.non,H,I,rfl,h⟩
theorem a1k {x j pos}:PE X (.Constant (.str x) j pos) (tC (.str x)):=fun _ _ _ H _ I h=>Calls.Constant_str ⟨.str x,H,I.tok _,⟨_,rfl⟩,h⟩
noncomputable def Gl (X:Cx) (x:Str):Prop:=X.env.kindOf x = some .globalImplicit
theorem oi {E:Value -> Shared -> Prop} {pins:List (Addr × Obj)} {s:Shared} {σ:St} {H:Hp} {x:Str} {u:Value} {pos:Pos} {Q:Value -> Shared -> Prop} (I:Inv X pins σ H s) (hg:Gl X x) (hm:X.mg x = some u) (h:Q u s)
   (hd:autoParam ((x == ("__debug__" : Str)) = false) L2.a1_):wpAny (model X.prog X.w) X.A (eval (.Name x pos) X.env) Q E s :=
 Calls.Name_function_global I.ok.kind hg (Calls.loadGlobal_global (by rw [I.ok.glob]; exact I.mod.glob.keeps I.bk) hm h) hd
theorem kj {E:Value -> Shared -> Prop} {pins:List (Addr × Obj)} {s:Shared} {σ:St} {H:Hp} {x:Str} {u:Value} {pos:Pos} {Q:Value -> Shared -> Prop} (I:Inv X pins σ H s) (hg:Gl X x) (hm:X.mg x = none) (hv:bootBuiltins x = some u) (h:Q u s)
   (hn:autoParam (x ≠ "__name__") L2.a1_) (hd:autoParam ((x == ("__debug__" : Str)) = false) L2.a1_):wpAny (model X.prog X.w) X.A (eval (.Name x pos) X.env) Q E s:=by
 obtain ⟨mb,h1,h2⟩:=I.mod.blt
 exact Calls.Name_function_global I.ok.kind hg (Calls.loadGlobal_builtin (by rw [I.ok.glob]; exact I.mod.glob.keeps I.bk) hm (by rw [I.ok.blt]; exact h1.keeps I.bk) ((h2 x hn).trans hv) h) hd
theorem a5v {x:Str} {v:V} {u:Value} {pos:Pos} (hg:Gl X x) (hm:X.mg x = some u) (r:RelV v u) (hd:autoParam ((x == ("__debug__" : Str)) = false) L2.a1_):PE X (.Name x pos) (tC v) :=
 fun _ _ _ H _ I h=>oi I hg hm ⟨v,H,I,r,h⟩ hd
theorem a62 {x:Str} {v:V} {u:Value} {pos:Pos} (hg:Gl X x) (hm:X.mg x = none) (hv:bootBuiltins x = some u) (r:RelV v u) (hn:autoParam (x ≠ "__name__") L2.a1_) (hd:autoParam ((x == ("__debug__" : Str)) = false) L2.a1_):PE X (.Name x pos) (tC v) :=
 fun _ _ _ H _ I h=>kj I hg hm hv ⟨v,H,I,r,h⟩ hn hd
variable {a b:Expr} {ta tb:TE} {pos:Pos}
noncomputable def PC (X:Cx) (op:CmpOp) (a b:Expr) (t:TE):Prop :=
 ∀ (pins:List (Addr × Obj)) (s:Shared) (σ:St) (H:Hp) (Q:VK),Inv X pins σ H s -> t σ H Q ->
   wpAny (model X.prog X.w) X.A (eval a X.env) (fun v s₁=>wpAny (model X.prog X.w) X.A (eval b X.env) (fun u s₂=>wpAny (model X.prog X.w) X.A (compareOp op v u) (EP X pins σ Q) X.xe s₂) X.xe s₁) X.xe s
inductive tBS (x:V) (H1:Hp) (Q:Bool -> Hp -> Prop):Prop
 | mk (c:Bool) (h0:x = .bl c) (h1:Q c H1):tBS x H1 Q
noncomputable def tB (t:TE):TT:=fun σ H Q=>t σ H fun x H1=>tBS x H1 Q
theorem a81 {op:CmpOp} {t:TE} (h:PC X op a b t) (h1:autoParam (behindInMarks op b = false) L2.a2_):PE X (.Compare a [op] [b] pos) t:=fun pins s σ H Q I hw=>wpAny_Compare1 (h pins s σ H Q I hw) h1
theorem a0s {op:CmpOp} {t:TE} (h:PC X op a b t) (h1:autoParam (behindInMarks op b = false) L2.a2_):PT X (.Compare a [op] [b] pos) (tB t):=by
 intro pins s σ H Q I hw
 refine wpAny_isTrue_Compare1 (thn (h pins s σ H _ I hw) fun v s1 h1=>thn h1 fun u s2 h2=>thn h2 fun c s3 ⟨x,H1,I1,r1,q1⟩=>?_) h1
 obtain ⟨d,rfl,q⟩:=q1
 cases r1
 exact wpAny_truthy_bool ⟨H1,I1,q⟩
theorem a6t {e:Expr} {t:TE} (h:PE X e t) (he:autoParam (∀ whole,isTrue e X.env whole = (do let v <- whole; standAt e.pos; holding [v] (truthy v))) L2.a3_):PT X e (tB t):=by
 intro pins s σ H Q I hw
 refine isTrue_plain (thn (h pins s σ H _ I hw) fun v s1 ⟨x,H1,I1,r1,q1⟩=>?_) (he _)
 obtain ⟨d,rfl,q⟩:=q1
 cases r1
 exact wpAny_truthy_bool ⟨H1,I1,q⟩
variable {tA tB':TT} {rest:List Expr}
noncomputable def tAnd (t u:TT):TT:=fun σ H Q=>t σ H fun c H1=>if c = true then u σ H1 Q else Q false H1
noncomputable def tOr (t u:TT):TT:=fun σ H Q=>t σ H fun c H1=>if c = true then Q true H1 else u σ H1 Q
noncomputable def tNot (t:TT):TT:=fun σ H Q=>t σ H fun c H1=>Q (!c) H1
theorem a56 (ha:PT X a tA):PW X (.BoolOp .And [a] pos) tA:=by
 intro wh pins s σ H Q I h
 refine isTrue_and (thn (ha pins s σ H Q I h) fun c s1 e=>?_)
 cases c with
 | true=>exact isTrue_and_nil e
 | false=>exact e
theorem a6u (ha:PT X a tA):PW X (.BoolOp .Or [a] pos) tA:=by
 intro wh pins s σ H Q I h
 refine isTrue_or (thn (ha pins s σ H Q I h) fun c s1 e=>?_)
 cases c with
 | false=>exact isTrue_or_nil e
 | true=>exact e
theorem a82 (ha:PT X a tA) (hb:PW X (.BoolOp .And (b :: rest) pos) tB'):PW X (.BoolOp .And (a :: b :: rest) pos) (tAnd tA tB'):=by
 intro wh pins s σ H Q I h
 refine isTrue_and (thn (ha pins s σ H _ I h) fun c s1 zq=>?_)
 obtain ⟨H1,I1,q1⟩:=zq
 cases c with
 | true=>exact hb wh pins s1 σ H1 Q I1 q1
 | false=>exact ⟨H1,I1,q1⟩
theorem a8x (ha:PT X a tA) (hb:PW X (.BoolOp .Or (b :: rest) pos) tB'):PW X (.BoolOp .Or (a :: b :: rest) pos) (tOr tA tB'):=by
 intro wh pins s σ H Q I h
 refine isTrue_or (thn (ha pins s σ H _ I h) fun c s1 zq=>?_)
 obtain ⟨H1,I1,q1⟩:=zq
 cases c with
 | true=>exact ⟨H1,I1,q1⟩
 | false=>exact hb wh pins s1 σ H1 Q I1 q1
theorem a6z (ha:PT X a tA):PT X (.UnaryOp .Not a pos) (tNot tA):=by
 intro pins s σ H Q I h
 exact isTrue_not (ha pins s σ H (fun c H1=>Q (!c) H1) I h)
inductive tAndVS (tb:TE) (σ:St) (x:V) (H1:Hp) (Q:VK):Prop
 | mk (c:Bool) (h0:x = .bl c) (h1:if c = true then tb σ H1 Q else Q (.bl false) H1):tAndVS tb σ x H1 Q
noncomputable def a4o (ta tb:TE):TE:=fun σ H Q=>ta σ H fun x H1=>tAndVS tb σ x H1 Q
inductive tOrVS (tb:TE) (σ:St) (x:V) (H1:Hp) (Q:VK):Prop
 | mk (c:Bool) (h0:x = .bl c) (h1:if c = true then Q (.bl true) H1 else tb σ H1 Q):tOrVS tb σ x H1 Q
noncomputable def tOrV (ta tb:TE):TE:=fun σ H Q=>ta σ H fun x H1=>tOrVS tb σ x H1 Q
inductive tNotVS (x:V) (H1:Hp) (Q:VK):Prop
 | mk (c:Bool) (h0:x = .bl c) (h1:Q (.bl (!c)) H1):tNotVS x H1 Q
noncomputable def a50 (ta:TE):TE:=fun σ H Q=>ta σ H fun x H1=>tNotVS x H1 Q
theorem a6y {op} {t:TE} (h:PE X a t):PE X (.BoolOp op [a] pos) t:=fun pins s σ H Q I hw=>BoolOp_one (h pins s σ H Q I hw)
theorem a7v (ha:PE X a ta) (hb:PE X (.BoolOp .And (b :: rest) pos) tb):PE X (.BoolOp .And (a :: b :: rest) pos) (a4o ta tb):=by
 intro pins s σ H Q I h
 refine BoolOp_and (thn (ha pins s σ H _ I h) fun v s1 zq=>?_)
 obtain ⟨x,H1,I1,r1,q1⟩:=zq
 obtain ⟨c,rfl,q1⟩:=q1
 cases r1
 refine wpAny_truthy_bool ?_
 cases c with
 | true=>exact hb pins s1 σ H1 Q I1 q1
 | false=>exact ⟨.bl false,H1,I1,rfl,q1⟩
theorem a8u (ha:PE X a ta) (hb:PE X (.BoolOp .Or (b :: rest) pos) tb):PE X (.BoolOp .Or (a :: b :: rest) pos) (tOrV ta tb):=by
 intro pins s σ H Q I h
 refine BoolOp_or (thn (ha pins s σ H _ I h) fun v s1 zq=>?_)
 obtain ⟨x,H1,I1,r1,q1⟩:=zq
 obtain ⟨c,rfl,q1⟩:=q1
 cases r1
 refine wpAny_truthy_bool ?_
 cases c with
 | false=>exact hb pins s1 σ H1 Q I1 q1
 | true=>exact ⟨.bl true,H1,I1,rfl,q1⟩
theorem a78 (ha:PE X a ta):PE X (.UnaryOp .Not a pos) (a50 ta):=by
 intro pins s σ H Q I h
 refine UnaryOp_ (thn (ha pins s σ H _ I h) fun v s1 zq=>?_)
 obtain ⟨x,H1,I1,r1,q1⟩:=zq
 obtain ⟨c,rfl,q1⟩:=q1
 cases r1
 exact not_of (wpAny_truthy_bool ⟨.bl (!c),H1,I1,rfl,q1⟩)
noncomputable def tIf (t:TT) (ta tb:TE):TE:=fun σ H Q=>t σ H fun c H1=>if c = true then ta σ H1 Q else tb σ H1 Q
theorem a4d {c:Expr} (hc:PT X c tA) (ha:PE X a ta) (hb:PE X b tb):PE X (.IfExp c a b pos) (tIf tA ta tb):=by
 intro pins s σ H Q I h
 refine wpAny_IfExp (thn (hc pins s σ H _ I h) fun d s1 zq=>?_)
 obtain ⟨H1,I1,q1⟩:=zq
 cases d with
 | true=>exact ha pins s1 σ H1 Q I1 q1
 | false=>exact hb pins s1 σ H1 Q I1 q1
end
noncomputable def SqL (K:PySem.W.Frag) (H:Hp) (a:Addr) (xs:List V):Prop :=
 Rd H a (.lst xs) \/
   ∃ (o:Obj) (its:Array Value) (n:Nat),K.lookup a = some o /\ o.cls = .type "list" /\ o.dict = none /\ o.data = .seq its n /\ its.size <= sizeLine /\ Vals xs its.toList
noncomputable def SqT (K:PySem.W.Frag) (H:Hp) (a:Addr) (xs:List V):Prop :=
 Rd H a (.tup xs) \/
   ∃ (o:Obj) (its:Array Value) (n:Nat),K.lookup a = some o /\ o.cls = .type "tuple" /\ o.data = .seq its n /\ its.size <= sizeLine /\ Vals xs its.toList
noncomputable def absV:Value -> Option V
 | .none=>some .non
 | .bool b=>some (.bl b)
 | .int i _=>some (.int i)
 | .str x _=>some (.str x)
 | .bytes b _=>some (.byt b)
 | .float b _=>some (.flt b)
 | .ref a=>some (.ref a)
 | .type n=>some (.ty n)
 | _=>none
theorem RelV.abs {x:V} {u:Value} (r:RelV x u):absV u = some x:=by
 cases x with
 | non=>cases r; rfl
 | bl _=>cases r; rfl
 | int _=>obtain ⟨t,rfl⟩:=r; rfl
 | str _=>obtain ⟨t,rfl⟩:=r; rfl
 | byt _=>obtain ⟨t,rfl⟩:=r; rfl
 | flt _=>obtain ⟨t,rfl⟩:=r; rfl
 | ref _=>cases r; rfl
 | ty _=>cases r; rfl
theorem RelV.inj {x y:V} {u:Value} (r:RelV x u) (q:RelV y u):x = y:=Option.some.inj (r.abs.symm.trans q.abs)
theorem Vals.inj:∀ {xs ys:List V} {us:List Value},Vals xs us -> Vals ys us -> xs = ys
 | _,_,_,.nil,.nil=>rfl
 | _,_,_,.cons r t,.cons r' t'=>by rw [r.inj r',Vals.inj t t']
section
variable {X:Cx} {pins:List (Addr × Obj)} {σ:St} {H:Hp} {s:Shared} {a:Addr} {xs ys:List V}
theorem SqL.of {K:PySem.W.Frag} (h:H a = some (.lst xs)):SqL K H a xs := .inl (.inl h)
theorem SqT.of {K:PySem.W.Frag} (h:H a = some (.tup xs)):SqT K H a xs := .inl (.inl h)
theorem Inv.list (I:Inv X pins σ H s) (h:SqL X.K H a xs):∃ its:List Value,Vals xs its /\ PlainL s.heap a its.toArray /\ xs.length <= sizeLine:=by
 rcases h with h | ⟨o,its,n,hk,hc,hd,hs,hz,r⟩
 . obtain ⟨z,its,n,r,e⟩:=h.ok I.hok
   exact ⟨its,r,⟨_,n,e,rfl,rfl,rfl⟩,z⟩
 . refine ⟨its.toList,r,⟨o,n,I.kIn a o hk,hc,hd,by simpa using hs⟩,?_⟩
   have e:=r.length
   simp only [Array.length_toList] at e
   lia
theorem Inv.tuple (I:Inv X pins σ H s) (h:SqT X.K H a xs):∃ its:List Value,Vals xs its /\ IsTup s.heap a its.toArray /\ xs.length <= sizeLine:=by
 rcases h with h | ⟨o,its,n,hk,hc,hs,hz,r⟩
 . obtain ⟨z,its,r,p⟩:=h.ok I.hok
   exact ⟨its,r,p,z⟩
 . refine ⟨its.toList,r,⟨o,I.kIn a o hk,hc,n,by simpa using hs⟩,?_⟩
   have e:=r.length
   simp only [Array.length_toList] at e
   lia
theorem Inv.list_inj (I:Inv X pins σ H s) (h:SqL X.K H a xs) (h':SqL X.K H a ys):xs = ys:=by
 obtain ⟨its,r,⟨o,n,e,_,_,d⟩,_⟩:=I.list h
 obtain ⟨its',r',⟨o',n',e',_,_,d'⟩,_⟩:=I.list h'
 rw [e] at e'; cases e'
 rw [d] at d'
 injection d' with d1 _
 have:its = its':=by simpa using congrArg Array.toList d1
 subst this
 exact r.inj r'
theorem Inv.tuple_inj (I:Inv X pins σ H s) (h:SqT X.K H a xs) (h':SqT X.K H a ys):xs = ys:=by
 obtain ⟨its,r,⟨o,e,_,n,d⟩,_⟩:=I.tuple h
 obtain ⟨its',r',⟨o',e',_,n',d'⟩,_⟩:=I.tuple h'
 rw [e] at e'; cases e'
 rw [d] at d'
 injection d' with d1 _
 have:its = its':=by simpa using congrArg Array.toList d1
 subst this
 exact r.inj r'
end
noncomputable abbrev Cx.wish (X:Cx) (E:Value -> Shared -> Prop):Cx:={ X with xe:=E }
noncomputable abbrev Cx.nox (X:Cx):Cx:=X.wish fun _ _=>False
theorem Cx.Ok.wish {X:Cx} (ok:X.Ok) (E:Value -> Shared -> Prop):(X.wish E).Ok :=
 ⟨ok.mod,ok.kind,ok.glob,ok.blt,ok.above,ok.inj,ok.has,ok.cab,ok.hd,ok.frames,ok.stk,ok.exf,ok.bs,ok.bsz,ok.noex,ok.exfs,ok.funs,ok.frf⟩
theorem Cx.Ok.unwish {X:Cx} {E:Value -> Shared -> Prop} (ok:(X.wish E).Ok):X.Ok :=
 ⟨ok.mod,ok.kind,ok.glob,ok.blt,ok.above,ok.inj,ok.has,ok.cab,ok.hd,ok.frames,ok.stk,ok.exf,ok.bs,ok.bsz,ok.noex,ok.exfs,ok.funs,ok.frf⟩
section
variable {X:Cx} {pins:List (Addr × Obj)} {σ:St} {H:Hp} {s:Shared} {E:Value -> Shared -> Prop}
theorem Inv.wish (I:Inv X pins σ H s) (E:Value -> Shared -> Prop):Inv (X.wish E) pins σ H s:=⟨I.ok.wish E,I.os,I.bare,I.base,I.loc,I.cell,I.free,I.freeC,I.pin,I.hok,I.len⟩
theorem Inv.unwish (I:Inv (X.wish E) pins σ H s):Inv X pins σ H s:=⟨I.ok.unwish,I.os,I.bare,I.base,I.loc,I.cell,I.free,I.freeC,I.pin,I.hok,I.len⟩
theorem SP.unwish {D:Ends} {f:Flow} {s':Shared} (h:SP (X.wish E) pins D f s'):SP X pins D f s':=by
 cases f with
 | next=>obtain ⟨σ',H',I,q⟩:=h; exact ⟨σ',H',I.unwish,q⟩
 | brk=>obtain ⟨σ',H',I,q⟩:=h; exact ⟨σ',H',I.unwish,q⟩
 | cont=>obtain ⟨σ',H',I,q⟩:=h; exact ⟨σ',H',I.unwish,q⟩
 | ret u=>obtain ⟨v,σ',H',I,r,q⟩:=h; exact ⟨v,σ',H',I.unwish,r,q⟩
theorem PSs.nox {st:List Stmt} {t:TS} (h:PSs X.nox st t):PSs X st t:=fun pins s σ H D I hw =>
 wpAny_mono (h pins s σ H D (I.wish _) hw) (fun _ _ q=>q.unwish) fun _ _ z=>False.elim z
end
section
variable {X:Cx} {st:Stmt} {rest:List Stmt} {t u:TS} {e:Expr} {te:TE} {pos:Pos}
noncomputable def a51:TS:=fun D σ H=>D.nx σ H
noncomputable def tSeq (t u:TS):TS:=fun D σ H=>t { D with nx:=u D } σ H
theorem a6n:PSs X [] a51:=fun _ _ σ H _ I h=>wpAny_execs_nil ⟨σ,H,I,h⟩
theorem ml (h1:PS X st t) (h2:PSs X rest u):PSs X (st :: rest) (tSeq t u):=by
 intro pins s σ H D I h
 refine wpAny_execs_cons (thn (h1 pins s σ H { D with nx:=u D } I h) fun f s1 q=>?_)
 cases f with
 | next =>
   obtain ⟨σ',H',I',q⟩:=q
   exact h2 pins s1 σ' H' D I' q
 | ret v=>exact q
 | brk=>exact q
 | cont=>exact q
theorem oh (h1:PS X st t):PSs X [st] t:=by
 intro pins s σ H D I h
 refine wpAny_execs_cons (thn (h1 pins s σ H D I h) fun f s1 q=>?_)
 cases f with
 | next=>exact wpAny_execs_nil q
 | ret v=>exact q
 | brk=>exact q
 | cont=>exact q
noncomputable def a0x:TS:=fun D σ H=>D.bk σ H
noncomputable def a4l:TS:=fun D σ H=>D.ct σ H
theorem a3y:PS X (.Break pos) a0x:=fun _ _ σ H _ I h=>wpAny_Break ⟨σ,H,I,h⟩
theorem v9:PS X (.Continue pos) a4l:=fun _ _ σ H _ I h=>wpAny_Continue ⟨σ,H,I,h⟩
theorem Inv.quiet {pins:List (Addr × Obj)} {σ:St} {H:Hp} {s:Shared} (I:Inv X pins σ H s):interactive X.env = false:=by simp [interactive,I.ok.kind]
noncomputable def a4p (te:TE):TS:=fun D σ H=>te σ H fun _ H1=>D.nx σ H1
theorem xg (he:PE X e te) (hs:autoParam (swapsWith e none pos.line X.env = pure false) L2.a2_):PS X (.Expr e pos) (a4p te):=by
 intro pins s σ H D I h
 exact wpAny_Expr_any (thn (he pins s σ H _ I h) fun v s1 ⟨x,H1,I1,r1,q1⟩=>⟨σ,H1,I1,q1⟩) I.quiet hs
noncomputable def tRet (te:TE):TS:=fun D σ H=>te σ H D.rt
theorem zy (he:PE X e te):PS X (.Return (some e) pos) (tRet te):=by
 intro pins s σ H D I h
 exact wpAny_Return_some (thn (he pins s σ H _ I h) fun v s1 ⟨x,H1,I1,r1,q1⟩=>⟨x,σ,H1,I1,r1,q1⟩)
noncomputable def tIfS (c:TT) (t u:TS):TS:=fun D σ H=>c σ H fun b H1=>if b = true then t D σ H1 else u D σ H1
theorem a8d {c:Expr} {a b:List Stmt} {tc:TT} (hc:PT X c tc) (ha:PSs X a t) (hb:PSs X b u):PS X (.If c a b pos) (tIfS tc t u):=by
 intro pins s σ H D I h
 refine wpAny_If (thn (hc pins s σ H _ I h) fun d s1 zq=>?_)
 obtain ⟨H1,I1,q1⟩:=zq
 cases d with
 | true=>exact ha pins s1 σ H1 D I1 q1
 | false=>exact hb pins s1 σ H1 D I1 q1
end
abbrev TG:=V -> St -> Hp -> (St -> Hp -> Prop) -> Prop
abbrev TGs:=List V -> St -> Hp -> (St -> Hp -> Prop) -> Prop
noncomputable def PG (X:Cx) (target:Expr) (t:TG):Prop :=
 ∀ (pins:List (Addr × Obj)) (s:Shared) (σ:St) (H:Hp) (v:V) (u:Value) (Q:St -> Hp -> Prop),Inv X pins σ H s -> RelV v u -> t v σ H Q ->
   wpAny (model X.prog X.w) X.A (assign target X.env u) (fun _ s' => ∃ σ' H',Inv X pins σ' H' s' /\ Q σ' H') X.xe s
noncomputable def PGs (X:Cx) (ts:List Expr) (t:TGs):Prop :=
 ∀ (pins:List (Addr × Obj)) (s:Shared) (σ:St) (H:Hp) (vs:List V) (us:List Value) (Q:St -> Hp -> Prop),Inv X pins σ H s -> Vals vs us -> t vs σ H Q ->
   wpAny (model X.prog X.w) X.A (assignInOrder ((assignEach ts X.env).map (·.2)) us) (fun _ s' => ∃ σ' H',Inv X pins σ' H' s' /\ Q σ' H') X.xe s
abbrev TSet:=V -> V -> V -> Hp -> (Hp -> Prop) -> Prop
noncomputable def PSet (X:Cx) (t:TSet):Prop :=
 ∀ (pins:List (Addr × Obj)) (s:Shared) (σ:St) (H:Hp) (o i v:V) (ov iv u:Value) (Q:Hp -> Prop),Inv X pins σ H s -> RelV o ov -> RelV i iv -> RelV v u -> t o i v H Q ->
   wpAny (model X.prog X.w) X.A (setItem ov iv u) (fun _ s' => ∃ H',Inv X pins σ H' s' /\ Q H') X.xe s
section
variable {X:Cx} {pos:Pos}
noncomputable def bh (i:Nat):TG:=fun v σ H Q=>Q (σ.set i (some v)) H
theorem wy {i:Nat} {x:Str} (hN:X.N.Nodup) (hi:X.N[i]? = some x) (hx:Loc X.env.scope x) (hf:autoParam (X.fn x = true \/ X.env.scope.names.lookup x = some .local) L2.a0_):PG X (.Name x pos) (bh i):=by
 intro pins s σ H v u Q I r h
 exact wpAny_assign_Name (me I hN hi hx r (fun s' I'=>⟨_,H,I',h⟩) hf)
noncomputable def gNil:TGs:=fun vs σ H Q=>vs = [] /\ Q σ H
inductive gConsS (t:TG) (u:TGs) (vs:List V) (σ:St) (H:Hp) (Q:St -> Hp -> Prop):Prop
 | mk (v:V) (r:List V) (h0:vs = v :: r) (h1:t v σ H fun σ' H'=>u r σ' H' Q):gConsS t u vs σ H Q
noncomputable def gk (t:TG) (u:TGs):TGs:=fun vs σ H Q=>gConsS t u vs σ H Q
theorem xm:PGs X [] gNil:=by
 intro pins s σ H vs us Q I r h
 obtain ⟨e,h⟩:=h
 subst e
 cases r
 exact assignInOrder_nil ⟨σ,H,I,h⟩
theorem ir {e:Expr} {es:List Expr} {t:TG} {u:TGs} (h1:PG X e t) (h2:PGs X es u)
   (hs:autoParam ((assignEach (e :: es) X.env).map (·.2) = assign e X.env :: (assignEach es X.env).map (·.2)) L2.a2_):PGs X (e :: es) (gk t u):=by
 intro pins s σ H vs us Q I r h
 obtain ⟨v,vr,e1,h⟩:=h
 subst e1
 cases r with
 | cons r rr =>
   rw [hs]
   refine assignInOrder_cons (thn (h1 pins s σ H _ _ _ I r h) fun _ s1 zq=>?_)
   obtain ⟨σ1,H1,I1,q1⟩:=zq
   exact h2 pins s1 σ1 H1 _ _ Q I1 rr q1
inductive gTupS (K:PySem.W.Frag) (n:Nat) (t:TGs) (v:V) (σ:St) (H:Hp) (Q:St -> Hp -> Prop):Prop
 | mk (a:Addr) (xs:List V) (h0:v = .ref a) (h1:SqT K H a xs) (h2:xs.length = n) (h3:t xs σ H Q):gTupS K n t v σ H Q
noncomputable def gTup (K:PySem.W.Frag) (n:Nat) (t:TGs):TG:=fun v σ H Q=>gTupS K n t v σ H Q
theorem a0q {es:List Expr} {k:Nat} {t:TGs} {n:Nat} (hc:X.calm = true) (h:PGs X es t)
   (hn:autoParam ((assignEach es X.env).length = n) L2.a2_) (hst:autoParam ((assignEach es X.env).findIdx? (·.1) = none) L2.a2_):PG X (.Tuple es k pos) (gTup X.K n t):=by
 intro pins s σ H v u Q I r hw
 obtain ⟨a,xs,e1,hq,hl,hw⟩:=hw
 subst e1
 cases r
 obtain ⟨its,rv,ht,hz⟩:=I.tuple hq
 refine assign_Tuple_tuple (I.ok.hd hc) ht (by simp [hn,<- hl,rv.length]) hst fun h' hx=>?_
 have I1:Inv X pins σ H { s with heap:=h' }:=I.kept (t':=s.toks) fun b o e=>hx b o (Nat.ne_of_lt (Heap.lt_size e)) e
 exact h pins _ σ H xs _ Q I1 (by simpa using rv) hw
noncomputable def gSub (to ti:TE) (t:TSet):TG:=fun v σ H Q=>to σ H fun o H1=>ti σ H1 fun i H2=>t o i v H2 fun H3=>Q σ H3
theorem a73 {o i:Expr} {to ti:TE} {t:TSet} (ho:PE X o to) (hi:PE X i ti) (hs:PSet X t)
   (ha:autoParam (∀ v,assign (.Subscript o i pos) X.env v = (do
     let ov <- holding [v] (eval o X.env)
     let iv <- holding [v,ov] (eval i X.env)
     standAt pos
     holding [v,ov,iv] (setItem ov iv v)
     release [v,ov,iv] [])) L2.a3_):PG X (.Subscript o i pos) (gSub to ti t):=by
 intro pins s σ H v u Q I r h
 rw [ha]
 refine wpAny_bind (wpAny_holding (thn (ho pins s σ H _ I h) fun ov s1 zq=>?_))
 obtain ⟨x,H1,I1,r1,q1⟩:=zq
 refine wpAny_bind (wpAny_holding (thn (hi pins s1 σ H1 _ I1 q1) fun iv s2 zq=>?_))
 obtain ⟨y,H2,I2,r2,q2⟩:=zq
 refine wpAny_bind (wpAny_standAt (wpAny_bind (wpAny_holding (thn (hs pins s2 σ H2 x y v ov iv u _ I2 r1 r2 r q2) fun _ s3 zq=>?_))))
 obtain ⟨H3,I3,q3⟩:=zq
 exact wpAny_release ⟨σ,H3,I3,q3⟩
noncomputable def tAsg (te:TE) (g:TG):TS:=fun D σ H=>te σ H fun x H1=>g x σ H1 D.nx
theorem a7k {tg e:Expr} {te:TE} {g:TG} (he:PE X e te) (hg:PG X tg g) (hs:autoParam (swapsWithSole [tg] e pos.line X.env = pure false) L2.a2_) (hw:autoParam (swappedStores [tg] e X.env = pure none) L2.a2_)
   (h1:autoParam ((assignEach [tg] X.env).map (·.2) = [assign tg X.env]) L2.a2_):PS X (.Assign [tg] e pos) (tAsg te g):=by
 intro pins s σ H D I h
 refine wpAny_Assign_stores (thn (he pins s σ H _ I h) fun v s1 ⟨x,H1,I1,r1,q1⟩=>?_) hs hw
 rw [h1]
 exact thn (hg pins s1 σ H1 x v _ I1 r1 q1) fun _ s2 q=>q
theorem a0y {i:Nat} {x:Str} {e:Expr} {te:TE} {pos':Pos} (hN:X.N.Nodup) (hi:X.N[i]? = some x) (hx:Loc X.env.scope x) (he:PE X e te) (hs:autoParam (swapsWith e (some (.Name x pos')) pos.line X.env = pure false) L2.a2_) (hf:autoParam (X.fn x = true \/ X.env.scope.names.lookup x = some .local) L2.a0_) :
   PS X (.Assign [.Name x pos'] e pos) (tAsg te (bh i)):=by
 intro pins s σ H D I h
 refine wpAny_Assign_Name (thn (he pins s σ H _ I h) fun v s1 ⟨y,H1,I1,r1,q1⟩=>?_) hs
 exact me I1 hN hi hx r1 (fun s2 I2=>⟨_,H1,I2,q1⟩) hf
end
section
variable {X:Cx} {pos:Pos}
noncomputable def sg (c:TT) (tb:TS):TS:=fun D σ H => ∃ W:Nat -> St -> Hp -> Prop,(∃ m,W m σ H) /\ ∀ m σ H,W m σ H ->
 c σ H fun b H1=>if b = true then ∃ N:St -> Hp -> Prop,(∀ σ' H',N σ' H' -> ∃ m',m' < m /\ W m' σ' H') /\ tb { D with nx:=N,ct:=N,bk:=D.nx } σ H1 else D.nx σ H1
theorem a3g {c:Expr} {body:List Stmt} {tc:TT} {tb:TS} (hp:PassesOwn (model X.prog X.w) X.A X.env X.xe) (hc:PT X c tc) (hb:PSs X body tb):PS X (.While c body [] pos) (sg tc tb):=by
 intro pins s σ H D I h
 obtain ⟨W,⟨m0,w0⟩,turn⟩:=h
 refine wpAny_While (codeAny_whileLoop (fun n s' => ∃ σ' H',Inv X pins σ' H' s' /\ W n σ' H') ?_ m0 ⟨σ,H,I,w0⟩)
 rintro n s1 ⟨σ1,H1,I1,w1⟩
 refine wpAny_passesOwn hp (thn (hc pins s1 σ1 H1 _ I1 (turn n σ1 H1 w1)) fun b s2 zq=>?_)
 obtain ⟨H2,I2,q2⟩:=zq
 cases b with
 | true =>
   obtain ⟨N,hN,q2⟩:=q2
   rw [if_pos rfl]
   refine wpAny_passesOwn hp (thn (hb pins s2 σ1 H2 _ I2 q2) fun f s3 q3=>?_)
   cases f with
   | next =>
     obtain ⟨σ3,H3,I3,n3⟩:=q3
     obtain ⟨m',hm,w3⟩:=hN σ3 H3 n3
     exact ⟨m',hm,σ3,H3,I3,w3⟩
   | cont =>
     obtain ⟨σ3,H3,I3,n3⟩:=q3
     obtain ⟨m',hm,w3⟩:=hN σ3 H3 n3
     exact ⟨m',hm,σ3,H3,I3,w3⟩
   | brk=>exact q3
   | ret v=>exact q3
 | false =>
   rw [if_neg Bool.false_ne_true]
   exact wpAny_execs_nil ⟨σ1,H2,I2,q2⟩
end
structure It where
 go:Nat -> Hp -> Prop
 yld:Nat -> Hp -> V -> Hp -> Prop
 stop:Nat -> Hp -> Prop
noncomputable def FpOk (X:Cx) (pins:List (Addr × Obj)) (H:Hp) (b:Addr):Prop :=
 H b = none /\ b ≠ X.env.locals /\ b ∉ X.fs /\ (b ∈ X.ex \/ X.s₀.heap.objs.size <= b) /\ (∀ x c,X.env.cells.lookup x = some c -> c ≠ b) /\ ∀ p ∈ X.pn ++ pins,p.1 ≠ b
theorem Inv.fpOk {X:Cx} {pins:List (Addr × Obj)} {σ:St} {H H':Hp} {s:Shared} {b:Addr} (I:Inv X pins σ H s) (hb:s.heap.objs.size <= b) (hn:H' b = none):FpOk X pins H' b:=by
 refine ⟨hn,Nat.ne_of_gt (Nat.lt_of_lt_of_le I.lt hb),I.nofs hb,.inr (Nat.le_trans I.sz hb),fun x c e z=>?_,fun p hp z=>?_⟩
 . obtain ⟨v,q⟩:=I.cell x c e
   exact absurd (Nat.lt_of_lt_of_le q.lt (by rw [z]; exact hb)) (Nat.lt_irrefl _)
 . exact absurd (Nat.lt_of_lt_of_le (Heap.lt_size (I.pin p hp).1) (by rw [z]; exact hb)) (Nat.lt_irrefl _)
structure Turn (P:Program) (w:World) (K:PySem.W.Frag) (tg:Expr) (J:It) (fp:List Addr) (it:Addr) (tn:Nat -> Heap -> Prop):Prop where
 mem:it ∈ fp
 obj:∀ i h,tn i h -> ∀ b ∈ fp,∃ o,h.get? b = some o /\ ∀ v,o.data ≠ .cell v
 keep:∀ i h h',tn i h -> (∀ b ∈ fp,∀ o,h.get? b = some o -> h'.get? b = some o) -> tn i h'
 item:∀ (X:Cx),X.prog = P -> X.w = w -> X.K = K -> X.calm = true -> ∀ (i:Nat) (pins:List (Addr × Obj)) (s:Shared) (σ:St) (H:Hp) (E:Value -> Shared -> Prop),Inv X pins σ H s -> (∀ b ∈ fp,FpOk X pins H b) -> tn i s.heap -> J.go i H ->
   wpAny (model P w) X.A (pyNext (.ref it)) (fun r s1 => ∃ u,r = some u /\
     wpAny (model P w) X.A (letOwnedTupleGo tg (.ref it) u) (fun _ s2 => ∃ x H',Inv X pins σ H' s2 /\ RelV x u /\ J.yld i H x H' /\ tn (i + 1) s2.heap /\ ∀ b ∈ fp,H' b = none) E s1) E s
 done:∀ (X:Cx),X.prog = P -> X.w = w -> X.K = K -> X.calm = true -> ∀ (i:Nat) (pins:List (Addr × Obj)) (s:Shared) (σ:St) (H:Hp) (E:Value -> Shared -> Prop),Inv X pins σ H s -> (∀ b ∈ fp,FpOk X pins H b) -> tn i s.heap -> J.stop i H ->
   wpAny (model P w) X.A (pyNext (.ref it)) (fun r s1=>r = none /\ Inv X pins σ H s1) E s
 self:∀ (A:Around) (i:Nat) (s:Shared) (Q:Value -> Shared -> Prop) (E:Value -> Shared -> Prop),tn i s.heap -> Q (.ref it) s -> wpAny (model P w) A (pyIter (.ref it)) Q E s
abbrev TI:=St -> Hp -> (It -> Hp -> Prop) -> Prop
noncomputable def PIE (X:Cx) (pins:List (Addr × Obj)) (σ:St) (tg:Expr) (R:It -> Hp -> Prop) (itv:Value) (s2:Shared):Prop :=
 ∃ (it:Addr) (fp:List Addr) (tn:Nat -> Heap -> Prop) (J:It) (H':Hp),itv = .ref it /\ Inv X pins σ H' s2 /\ Turn X.prog X.w X.K tg J fp it tn /\ tn 0 s2.heap /\ (∀ b ∈ fp,FpOk X pins H' b) /\ R J H'
noncomputable def PI (X:Cx) (tg iter:Expr) (wi:TI):Prop :=
 ∀ (pins:List (Addr × Obj)) (s:Shared) (σ:St) (H:Hp) (R:It -> Hp -> Prop),Inv X pins σ H s -> wi σ H R ->
   wpAny (model X.prog X.w) X.A (eval iter X.env) (fun v s1=>wpAny (model X.prog X.w) X.A (pyIter v) (PIE X pins σ tg R) X.xe s1) X.xe s
theorem r9 {M:Model} {A:Around} {E:Value -> Shared -> Prop} {s:Shared} {tg:Expr} {it:Addr} {u:Value} {o:Obj} {n:String} {vs:Array Value} {Q:Unit -> Shared -> Prop} (ho:s.heap.get? it = some o) (hc:o.cls = .type n) (hd:o.data = .fields vs)
   (hn:["enumerate", "zip", "dict_itemiterator", "dict_reverseitemiterator", "odict_iterator", "itertools.zip_longest", "itertools.pairwise"].contains n = false) (hQ:Q () s):wpAny M A (letOwnedTupleGo tg (.ref it) u) Q E s:=by
 unfold letOwnedTupleGo
 cases tg <;> first
   | exact wpAny_pure hQ
   | (cases u <;> first
       | exact wpAny_pure hQ
       | (refine wpAny_bind (wpAny_load ho ?_)
          rw [hc,hd]
          show wpAny M A (if (["enumerate", "zip", "dict_itemiterator", "dict_reverseitemiterator", "odict_iterator", "itertools.zip_longest", "itertools.pairwise"].contains n && vs[0]? == some (rawInt _)) = true then _ else _) Q E s
          rw [if_neg (by intro h; rw [hn,Bool.false_and] at h; cases h)]
          exact wpAny_pure hQ))
noncomputable def Itl (K:PySem.W.Frag) (a:Addr):It :=
 ⟨fun i H => ∃ xs x,SqL K H a xs /\ xs[i]? = some x,fun i H x H'=>H' = H /\ ∀ xs,SqL K H a xs -> xs[i]? = some x,fun i H => ∃ xs,SqL K H a xs /\ xs.length <= i⟩
noncomputable def Itt (K:PySem.W.Frag) (a:Addr):It :=
 ⟨fun i H => ∃ xs x,SqT K H a xs /\ xs[i]? = some x,fun i H x H'=>H' = H /\ ∀ xs,SqT K H a xs -> xs[i]? = some x,fun i H => ∃ xs,SqT K H a xs /\ xs.length <= i⟩
noncomputable def Itr (lo:Int) (n:Nat):It:=⟨fun i _=>i < n,fun i H x H'=>H' = H /\ x = .int (lo + i),fun i _=>n <= i⟩
theorem zt {P:Program} {w:World} {K:PySem.W.Frag} {tg:Expr} (a it:Addr):Turn P w K tg (Itl K a) [it] it (fun i h=>h.IsListIter it a i) where
 mem:=by simp
 obj:=fun i h st b hb=>by
   have e:b = it:=by simpa using hb
   subst e
   obtain ⟨o,e,c,d⟩:=st
   exact ⟨o,e,fun v z=>by rw [d] at z; cases z⟩
 keep:=fun i h h' st k=>st.at fun o e=>k it (by simp) o e
 item:=by
   intro X hP hw hK hc i pins s σ H E I hf st hg
   subst hP hw hK
   obtain ⟨xs,x,hq,hx⟩:=hg
   obtain ⟨its,rv,p,hz⟩:=I.list hq
   obtain ⟨u,hu,ru⟩:=rv.get hx
   obtain ⟨f0,f1,f2,f3,f4,f5⟩:=hf it (by simp)
   refine wpAny_pyNext_list_item st p.isList (x:=u) (by simpa using hu) fun h' st' sb=>?_
   have I1:Inv X pins σ H { s with heap:=h' }:=I.turned (t':=s.toks) (fun b o hb e=>(sb.2 b hb).trans e) f0 f1 f3 f4 f5
   obtain ⟨o,e,c,d⟩:=id st'
   exact ⟨u,rfl,r9 (s:={ s with heap:=h' }) e c d (by decide) ⟨x,H,I1,ru,⟨rfl,fun ys hy=>by rw [I.list_inj hy hq]; exact hx⟩,st',fun b hb=>(hf b hb).1⟩⟩
 done:=by
   intro X hP hw hK hc i pins s σ H E I hf st hg
   subst hP hw hK
   obtain ⟨xs,hq,hx⟩:=hg
   obtain ⟨its,rv,p,hz⟩:=I.list hq
   obtain ⟨f0,f1,f2,f3,f4,f5⟩:=hf it (by simp)
   have hl:=rv.length
   exact wpAny_pyNext_list_end (I.ok.hd hc) st p.isList (by simp; lia) fun h' eb=>⟨rfl,I.turned (t':=s.toks) (fun b o hb e=>eb b o hb e) f0 f1 f3 f4 f5⟩
 self:=fun _ _ _ _ _ st h=>wpAny_pyIter_listiter st h
theorem yo {P:Program} {w:World} {K:PySem.W.Frag} {tg:Expr} (a it:Addr):Turn P w K tg (Itt K a) [it] it (fun i h=>h.IsTupleIter it a i) where
 mem:=by simp
 obj:=fun i h st b hb=>by
   have e:b = it:=by simpa using hb
   subst e
   obtain ⟨o,e,c,d⟩:=st
   exact ⟨o,e,fun v z=>by rw [d] at z; cases z⟩
 keep:=fun i h h' st k=>st.at fun o e=>k it (by simp) o e
 item:=by
   intro X hP hw hK hc i pins s σ H E I hf st hg
   subst hP hw hK
   obtain ⟨xs,x,hq,hx⟩:=hg
   obtain ⟨its,rv,p,hz⟩:=I.tuple hq
   obtain ⟨u,hu,ru⟩:=rv.get hx
   obtain ⟨f0,f1,f2,f3,f4,f5⟩:=hf it (by simp)
   refine wpAny_pyNext_tuple_item st (show s.heap.IsTuple a its.toArray from p) (x:=u) (by simpa using hu) fun h' st' sb=>?_
   have I1:Inv X pins σ H { s with heap:=h' }:=I.turned (t':=s.toks) (fun b o hb e=>(sb.2 b hb).trans e) f0 f1 f3 f4 f5
   obtain ⟨o,e,c,d⟩:=id st'
   exact ⟨u,rfl,r9 (s:={ s with heap:=h' }) e c d (by decide) ⟨x,H,I1,ru,⟨rfl,fun ys hy=>by rw [I.tuple_inj hy hq]; exact hx⟩,st',fun b hb=>(hf b hb).1⟩⟩
 done:=by
   intro X hP hw hK hc i pins s σ H E I hf st hg
   subst hP hw hK
   obtain ⟨xs,hq,hx⟩:=hg
   obtain ⟨its,rv,p,hz⟩:=I.tuple hq
   obtain ⟨f0,f1,f2,f3,f4,f5⟩:=hf it (by simp)
   have hl:=rv.length
   exact wpAny_pyNext_tuple_end (I.ok.hd hc) st (show s.heap.IsTuple a its.toArray from p) (by simp; lia) fun h' eb=>⟨rfl,I.turned (t':=s.toks) (fun b o hb e=>eb b o hb e) f0 f1 f3 f4 f5⟩
 self:=fun _ _ _ _ _ st h=>wpAny_pyIter_tupleiter st h
theorem yw {P:Program} {w:World} {K:PySem.W.Frag} {tg:Expr} (it:Addr) (lo:Int) (n:Nat):Turn P w K tg (Itr lo n) [it] it (fun i h=>IsRangeIter h it (lo + (i:Nat) * 1) ((n:Int) - (i:Nat)) 1) where
 mem:=by simp
 obj:=fun i h st b hb=>by
   have e:b = it:=by simpa using hb
   subst e
   exact ⟨_,st,fun v z=>by
     have z':Data.fields _ = Data.cell v:=z
     cases z'⟩
 keep:=fun i h h' st k=>k it (by simp) _ st
 item:=by
   intro X hP hw hK hc i pins s σ H E I hf st hg
   subst hP hw hK
   obtain ⟨f0,f1,f2,f3,f4,f5⟩:=hf it (by simp)
   have W:=Walks.range (prog:=X.prog) (w:=X.w) (I.ok.hd hc) it lo 1 n
   refine W.item i s _ _ hg st fun v h' tk hv st' kk=>?_
   obtain ⟨t,rfl⟩:=hv
   have I1:Inv X pins σ H { s with heap:=h',toks:=tk }:=I.turned (fun b o hb e=>kk b o (by simpa using hb) e) f0 f1 f3 f4 f5
   refine ⟨_,rfl,r9 (s:={ s with heap:=h',toks:=tk }) (n := "range_iterator") st' rfl rfl (by decide) ⟨.int (lo + i),H,I1,⟨t,?_⟩,⟨rfl,rfl⟩,st',fun b hb=>(hf b hb).1⟩⟩
   rw [Int.mul_one]
 done:=by
   intro X hP hw hK hc i pins s σ H E I hf st hg
   subst hP hw hK
   obtain ⟨f0,f1,f2,f3,f4,f5⟩:=hf it (by simp)
   exact wpAny_pyNext_range_end (I.ok.hd hc) st (by have:n <= i:=hg; lia) fun h' eb=>⟨rfl,I.turned (t':=s.toks) (fun b o hb e=>eb b o hb e) f0 f1 f3 f4 f5⟩
 self:=fun _ _ _ _ _ st h=>wpAny_pyIter_rangeiter st h
section
variable {X:Cx} {tg:Expr}
inductive iListS (K:PySem.W.Frag) (x:V) (H1:Hp) (R:It -> Hp -> Prop):Prop
 | mk (a:Addr) (h0:x = .ref a) (h1:(∃ xs,SqL K H1 a xs)) (h2:R (Itl K a) H1):iListS K x H1 R
noncomputable def yk (K:PySem.W.Frag) (tl:TE):TI:=fun σ H R=>tl σ H fun x H1=>iListS K x H1 R
inductive iTupS (K:PySem.W.Frag) (x:V) (H1:Hp) (R:It -> Hp -> Prop):Prop
 | mk (a:Addr) (h0:x = .ref a) (h1:(∃ xs,SqT K H1 a xs)) (h2:R (Itt K a) H1):iTupS K x H1 R
noncomputable def iTup (K:PySem.W.Frag) (tl:TE):TI:=fun σ H R=>tl σ H fun x H1=>iTupS K x H1 R
theorem xk {l:Expr} {tl:TE} (hl:PE X l tl):PI X tg l (yk X.K tl):=by
 intro pins s σ H R I h
 refine thn (hl pins s σ H _ I h) fun v s1 zq=>?_
 obtain ⟨x,H1,I1,r1,q1⟩:=zq
 obtain ⟨a,e,⟨xs,hq⟩,q⟩:=q1
 subst e
 cases r1
 obtain ⟨its,rv,p,hz⟩:=I1.list hq
 refine wpAny_pyIter_list p.isList ?_
 refine ⟨s1.heap.objs.size,[s1.heap.objs.size],_,_,H1,rfl,I1.kept (t':=s1.toks) fun b o e=>Heap.get?_push_of_some _ e,zt a _,⟨_,Heap.get?_push_size _ rfl,rfl,rfl⟩,fun b hb=>?_,q⟩
 have e:b = s1.heap.objs.size:=by simpa using hb
 subst e
 exact I1.fpOk (Nat.le_refl _) (I1.hok.fresh (Nat.le_refl _))
theorem a1z {l:Expr} {tl:TE} (hl:PE X l tl):PI X tg l (iTup X.K tl):=by
 intro pins s σ H R I h
 refine thn (hl pins s σ H _ I h) fun v s1 zq=>?_
 obtain ⟨x,H1,I1,r1,q1⟩:=zq
 obtain ⟨a,e,⟨xs,hq⟩,q⟩:=q1
 subst e
 cases r1
 obtain ⟨its,rv,p,hz⟩:=I1.tuple hq
 refine wpAny_pyIter_tuple (show s1.heap.IsTuple a its.toArray from p) ?_
 refine ⟨s1.heap.objs.size,[s1.heap.objs.size],_,_,H1,rfl,I1.kept (t':=s1.toks) fun b o e=>Heap.get?_push_of_some _ e,yo a _,⟨_,Heap.get?_push_size _ rfl,rfl,rfl⟩,fun b hb=>?_,q⟩
 have e:b = s1.heap.objs.size:=by simpa using hb
 subst e
 exact I1.fpOk (Nat.le_refl _) (I1.hok.fresh (Nat.le_refl _))
theorem a46 {pins:List (Addr × Obj)} {σ:St} {H:Hp} {s:Shared} {R:It -> Hp -> Prop} {E:Value -> Shared -> Prop} {lo hi:Int} {t u v:Tok} {tk:Nat} (I:Inv X pins σ H s) (h1 : -(2 ^ 62) <= lo) (h2:lo < 2 ^ 62) (h3 : -(2 ^ 62) <= hi) (h4:hi < 2 ^ 62)
   (q:R (Itr lo (hi - lo).toNat) H):wpAny (model X.prog X.w) X.A (pyIter (.ref s.heap.objs.size)) (PIE X pins σ tg R) E { s with heap:=s.heap.push { cls := .type "range",data := .fields #[.int lo t,.int hi u,.int 1 v] },toks:=tk }:=by
 refine wpAny_pyIter_range (IsRange.new ..) (small_one h1 h2 h3 h4) ?_
 have I1:Inv X pins σ H { s with heap:=s.heap.push { cls := .type "range",data := .fields #[.int lo t,.int hi u,.int 1 v] },toks:=tk }:=I.kept fun b o e=>Heap.get?_push_of_some _ e
 refine ⟨(s.heap.push { cls := .type "range",data := .fields #[.int lo t,.int hi u,.int 1 v] }).objs.size,[(s.heap.push { cls := .type "range",data := .fields #[.int lo t,.int hi u,.int 1 v] }).objs.size],_,_,H,rfl,
   I1.kept (t':=tk) fun b o e=>Heap.get?_push_of_some _ e,yw _ lo (hi - lo).toNat,?_,fun b hb=>?_,q⟩
 . have e1:lo + ((0:Nat):Int) * 1 = lo:=by simp
   have e2:(((hi - lo).toNat:Nat):Int) - ((0:Nat):Int) = Builtin.Range.rangeSize lo hi 1:=by rw [rangeSize_one]; split <;> lia
   show IsRangeIter _ _ (lo + ((0:Nat):Int) * 1) ((((hi - lo).toNat:Nat):Int) - ((0:Nat):Int)) 1
   rw [e1,e2]
   exact Heap.get?_push_size _ rfl
 . have e:b = (s.heap.push { cls := .type "range",data := .fields #[.int lo t,.int hi u,.int 1 v] }).objs.size:=by simpa using hb
   subst e
   exact I1.fpOk (Nat.le_refl _) (I1.hok.fresh (Nat.le_refl _))
inductive iRng1S (vs:List V) (H1:Hp) (R:It -> Hp -> Prop):Prop
 | mk (j:Int) (h0:vs = [.int j]) (h1 : -(2 ^ 62) <= j) (h2:j < 2 ^ 62) (h3:R (Itr 0 j.toNat) H1):iRng1S vs H1 R
noncomputable def a4j (ta:TA):TI:=fun σ H R=>ta σ H fun vs H1=>iRng1S vs H1 R
theorem a1b {a:Expr} {ta:TA} {p pos:Pos} (hg:Gl X "range") (hm:X.mg "range" = none) (ha:PA X [a] ta) (hs:autoParam (starEach [a] X.env = [(false,eval a X.env)]) L2.a2_):PI X tg (.Call (.Name "range" p) [a] [] pos) (a4j ta):=by
 intro pins s σ H R I h
 refine Call_ (kj I hg hm boot_range (PyProof.Rows.callWith_type1 (thn (ha pos pins s σ H _ I h) fun us s1 ⟨vs,H1,I1,r1,q1⟩=>?_) hs rfl))
 obtain ⟨j,e,q1,q2,q⟩:=q1
 subst e
 cases r1 with
 | cons r rr =>
   cases rr
   obtain ⟨t,rfl⟩:=r
   exact call_range_1 (a46 I1 (by lia) (by lia) q1 q2 (by simpa using q))
noncomputable def tFor (wi:TI) (g:TG) (tb:TS):TS:=fun D σ H=>wi σ H fun J H1 => ∃ W:Nat -> Nat -> St -> Hp -> Prop,(∃ m,W 0 m σ H1) /\ ∀ i m σ H,W i m σ H ->
 (J.stop i H /\ D.nx σ H) \/ (J.go i H /\ ∃ N:St -> Hp -> Prop,(∀ σ' H',N σ' H' -> ∃ m',m' < m /\ W (i + 1) m' σ' H') /\ ∀ x H',J.yld i H x H' -> g x σ H' fun σ2 H2=>tb { D with nx:=N,ct:=N,bk:=D.nx } σ2 H2)
noncomputable def ja (fp:List Addr) (h:Heap):List (Addr × Obj):=fp.filterMap fun b=>(h.get? b).map fun o=>(b,o)
theorem ib {fp:List Addr} {h:Heap} {b:Addr} {o:Obj} (hb:b ∈ fp) (e:h.get? b = some o):(b,o) ∈ ja fp h:=List.mem_filterMap.mpr ⟨b,hb,by rw [e]; rfl⟩
theorem a00 {fp:List Addr} {h:Heap} {p:Addr × Obj} (hp:p ∈ ja fp h):p.1 ∈ fp /\ h.get? p.1 = some p.2:=by
 obtain ⟨b,hb,e⟩:=List.mem_filterMap.mp hp
 cases q:h.get? b with
 | none=>rw [q] at e; cases e
 | some o =>
   rw [q] at e
   have e':(b,o) = p:=Option.some.inj e
   subst e'
   exact ⟨hb,q⟩
theorem Inv.pinned {pins:List (Addr × Obj)} {σ:St} {H:Hp} {s:Shared} {fp:List Addr} (I:Inv X pins σ H s) (hf:∀ b ∈ fp,FpOk X pins H b) (ho:∀ b ∈ fp,∃ o,s.heap.get? b = some o /\ ∀ v,o.data ≠ .cell v):Inv X (pins ++ ja fp s.heap) σ H s :=
 I.pins_of fun p hp=>(List.mem_append.mp hp).elim (fun z=>I.pin p (List.mem_append_right _ z)) fun z=>by
   obtain ⟨hb,e⟩:=a00 z
   obtain ⟨f0,f1,f2,_⟩:=hf p.1 hb
   obtain ⟨o,e',d⟩:=ho p.1 hb
   rw [e] at e'; cases e'
   exact ⟨e,f0,f1,f2,d⟩
theorem Inv.unpinned {pins pl:List (Addr × Obj)} {σ:St} {H:Hp} {s:Shared} (I:Inv X (pins ++ pl) σ H s):Inv X pins σ H s:=I.pins_of fun p hp=>I.pin p (List.mem_append_right _ (List.mem_append_left _ hp))
theorem a1y {iter:Expr} {body:List Stmt} {wi:TI} {g:TG} {tb:TS} {pos:Pos} (hp:PassesOwn (model X.prog X.w) X.A X.env X.xe) (hc:X.calm = true) (hi:PI X tg iter wi) (hg:PG X tg g) (hb:PSs X body tb)
   (hs:autoParam (∀ x,foldedSetIterable iter X.env x = pure x) L2.a3_):PS X (.For tg iter body [] pos) (tFor wi g tb):=by
 intro pins s σ H D I h
 refine wpAny_For (thn (hi pins s σ H _ I h) fun v s1 h1=>thn h1 fun itv s2 h2=>?_) hs
 obtain ⟨it,fp,tn,J,H2,e,I2,T,st2,f2,W,⟨m0,w0⟩,turn⟩:=h2
 subst e
 have stat:∀ {H':Hp},(∀ b ∈ fp,H' b = none) -> ∀ b ∈ fp,FpOk X pins H' b:=fun hn b hb=>⟨hn b hb,(f2 b hb).2⟩
 refine codeAny_forLoop_any (fun n s' => ∃ i σ' H',Inv X pins σ' H' s' /\ tn i s'.heap /\ (∀ b ∈ fp,H' b = none) /\ W i n σ' H') ?_ m0 ⟨0,σ,H2,I2,st2,fun b hb=>(f2 b hb).1,w0⟩
 rintro n s3 ⟨i,σ3,H3,I3,st3,fr3,w3⟩
 rcases turn i n σ3 H3 w3 with ⟨stop,qn⟩ | ⟨go,N,hN,step⟩
 . refine wpAny_passesOwn hp (thn (T.done X rfl rfl rfl hc i pins s3 σ3 H3 X.xe I3 (stat fr3) st3 stop) fun r s4 zq=>?_)
   obtain ⟨hr,I4⟩:=zq
   subst hr
   exact wpAny_execs_nil ⟨σ3,H3,I4,qn⟩
 . refine wpAny_passesOwn hp (thn (T.item X rfl rfl rfl hc i pins s3 σ3 H3 X.xe I3 (stat fr3) st3 go) fun r s4 zq=>?_)
   obtain ⟨u,hr,h4⟩:=zq
   subst hr
   refine wpAny_passesOwn hp (thn h4 fun _ s5 zq=>?_)
   obtain ⟨x,H5,I5,r5,y5,st5,fr5⟩:=zq
   have I5':=I5.pinned (stat fr5) (T.obj _ _ st5)
   refine wpAny_passesOwn hp (thn (hg _ s5 σ3 H5 x u _ I5' r5 (step x H5 y5)) fun _ s6 zq=>?_)
   obtain ⟨σ6,H6,I6,q6⟩:=zq
   refine wpAny_passesOwn hp (thn (hb _ s6 σ6 H6 _ I6 q6) fun f s7 q7=>?_)
   have again:∀ {σ7:St} {H7:Hp},Inv X (pins ++ ja fp s5.heap) σ7 H7 s7 -> N σ7 H7 -> ∃ m,m < n /\ ∃ i σ' H',Inv X pins σ' H' s7 /\ tn i s7.heap /\ (∀ b ∈ fp,H' b = none) /\ W i m σ' H':=fun {σ7 H7} I7 n7=>by
     obtain ⟨m',hm,w7⟩:=hN σ7 H7 n7
     refine ⟨m',hm,i + 1,σ7,H7,I7.unpinned,T.keep _ _ _ st5 fun b hb o e=>(I7.pin (b,o) (List.mem_append_right _ (List.mem_append_right _ (ib hb e)))).1,fun b hb=>?_,w7⟩
     obtain ⟨o,e,d⟩:=T.obj _ _ st5 b hb
     exact (I7.pin (b,o) (List.mem_append_right _ (List.mem_append_right _ (ib hb e)))).2.1
   cases f with
   | next=>obtain ⟨σ7,H7,I7,n7⟩:=q7; exact again I7 n7
   | cont=>obtain ⟨σ7,H7,I7,n7⟩:=q7; exact again I7 n7
   | brk=>obtain ⟨σ7,H7,I7,q7⟩:=q7; exact ⟨σ7,H7,I7.unpinned,q7⟩
   | ret v=>obtain ⟨x7,σ7,H7,I7,r7,q7⟩:=q7; exact ⟨x7,σ7,H7,I7.unpinned,r7,q7⟩
end
theorem bj {K:PySem.W.Frag} {a:Addr} {xs:List V} {g:TG} {tb:TS} {D:Ends} {σ:St} {H:Hp} (Pv:Nat -> St -> Hp -> Prop) (h0:Pv 0 σ H) (hl:∀ i σ H,i <= xs.length -> Pv i σ H -> SqL K H a xs)
   (hs:∀ i x σ H,xs[i]? = some x -> Pv i σ H -> g x σ H fun σ2 H2=>tb { D with nx:=Pv (i + 1),ct:=Pv (i + 1),bk:=D.nx } σ2 H2) (hd:∀ σ H,Pv xs.length σ H -> D.nx σ H) :
   ∃ W:Nat -> Nat -> St -> Hp -> Prop,(∃ m,W 0 m σ H) /\ ∀ i m σ H,W i m σ H ->
     ((Itl K a).stop i H /\ D.nx σ H) \/ ((Itl K a).go i H /\ ∃ N:St -> Hp -> Prop,(∀ σ' H',N σ' H' -> ∃ m',m' < m /\ W (i + 1) m' σ' H') /\ ∀ x H',(Itl K a).yld i H x H' -> g x σ H' fun σ2 H2=>tb { D with nx:=N,ct:=N,bk:=D.nx } σ2 H2):=by
 refine ⟨fun i m σ H=>m = xs.length - i /\ i <= xs.length /\ Pv i σ H,⟨xs.length,by simp,Nat.zero_le _,h0⟩,?_⟩
 rintro i m σ H ⟨rfl,hi,p⟩
 have q:=hl i σ H hi p
 by_cases hlt:i < xs.length
 . refine .inr ⟨⟨xs,xs[i],q,by simp [hlt]⟩,Pv (i + 1),fun σ' H' p'=>⟨xs.length - (i + 1),by lia,rfl,hlt,p'⟩,fun x H' y=>?_⟩
   obtain ⟨e,y⟩:=y
   subst e
   exact hs i x σ _ (y xs q) p
 . have e:i = xs.length:=by lia
   subst e
   exact .inl ⟨⟨xs,q,Nat.le_refl _⟩,hd σ H p⟩
theorem fj {lo:Int} {n:Nat} {g:TG} {tb:TS} {D:Ends} {σ:St} {H:Hp} (Pv:Nat -> St -> Hp -> Prop) (h0:Pv 0 σ H)
   (hs:∀ i σ H,i < n -> Pv i σ H -> g (.int (lo + i)) σ H fun σ2 H2=>tb { D with nx:=Pv (i + 1),ct:=Pv (i + 1),bk:=D.nx } σ2 H2) (hd:∀ σ H,Pv n σ H -> D.nx σ H) :
   ∃ W:Nat -> Nat -> St -> Hp -> Prop,(∃ m,W 0 m σ H) /\ ∀ i m σ H,W i m σ H ->
     ((Itr lo n).stop i H /\ D.nx σ H) \/ ((Itr lo n).go i H /\ ∃ N:St -> Hp -> Prop,(∀ σ' H',N σ' H' -> ∃ m',m' < m /\ W (i + 1) m' σ' H') /\ ∀ x H',(Itr lo n).yld i H x H' -> g x σ H' fun σ2 H2=>tb { D with nx:=N,ct:=N,bk:=D.nx } σ2 H2):=by
 refine ⟨fun i m σ H=>m = n - i /\ i <= n /\ Pv i σ H,⟨n,by simp,Nat.zero_le _,h0⟩,?_⟩
 rintro i m σ H ⟨rfl,hi,p⟩
 by_cases hlt:i < n
 . refine .inr ⟨hlt,Pv (i + 1),fun σ' H' p'=>⟨n - (i + 1),by lia,rfl,hlt,p'⟩,fun x H' y=>?_⟩
   obtain ⟨e,y⟩:=y
   subst e y
   exact hs i σ _ hlt p
 . have e:i = n:=by lia
   subst e
   exact .inl ⟨Nat.le_refl _,hd σ H p⟩
abbrev R2:=V -> V -> Hp -> VK -> Prop
noncomputable def OpR (X:Cx) (f:Value -> Value -> Sem Value) (r:R2):Prop :=
 ∀ (pins:List (Addr × Obj)) (s:Shared) (σ:St) (H:Hp) (x y:V) (v u:Value) (Q:VK),Inv X pins σ H s -> RelV x v -> RelV y u -> r x y H Q ->
   wpAny (model X.prog X.w) X.A (f v u) (EP X pins σ Q) X.xe s
noncomputable def UnR (X:Cx) (f:Value -> Sem Value) (r:V -> Hp -> VK -> Prop):Prop :=
 ∀ (pins:List (Addr × Obj)) (s:Shared) (σ:St) (H:Hp) (x:V) (v:Value) (Q:VK),Inv X pins σ H s -> RelV x v -> r x H Q ->
   wpAny (model X.prog X.w) X.A (f v) (EP X pins σ Q) X.xe s
noncomputable def bx (X:Cx) (f:Value) (r:List V -> Hp -> VK -> Prop):Prop :=
 ∀ (pins:List (Addr × Obj)) (s:Shared) (σ:St) (H:Hp) (xs:List V) (us:List Value) (Q:VK),Inv X pins σ H s -> Vals xs us -> r xs H Q ->
   wpAny (model X.prog X.w) X.A (call f us) (EP X pins σ Q) X.xe s
noncomputable def TruR (X:Cx) (r:V -> Hp -> (Bool -> Hp -> Prop) -> Prop):Prop :=
 ∀ (pins:List (Addr × Obj)) (s:Shared) (σ:St) (H:Hp) (x:V) (v:Value) (Q:Bool -> Hp -> Prop),Inv X pins σ H s -> RelV x v -> r x H Q ->
   wpAny (model X.prog X.w) X.A (truthy v) (TP X pins σ Q) X.xe s
noncomputable def tOp (r:R2) (ta tb:TE):TE:=fun σ H Q=>ta σ H fun x H1=>tb σ H1 fun y H2=>r x y H2 Q
noncomputable def tUn (r:V -> Hp -> VK -> Prop) (ta:TE):TE:=fun σ H Q=>ta σ H fun x H1=>r x H1 Q
inductive rIS (C:Int -> Int -> Prop) (g:Int -> Int -> V) (x y:V) (H:Hp) (Q:VK):Prop
 | mk (i j:Int) (h0:x = .int i) (h1:y = .int j) (h2:C i j) (h3:Q (g i j) H):rIS C g x y H Q
noncomputable def rI (C:Int -> Int -> Prop) (g:Int -> Int -> V):R2:=fun x y H Q=>rIS C g x y H Q
inductive rI0S (g:Int -> Int -> V) (x y:V) (H:Hp) (Q:VK):Prop
 | mk (i j:Int) (h0:x = .int i) (h1:y = .int j) (h2:Q (g i j) H):rI0S g x y H Q
noncomputable def rI0 (g:Int -> Int -> V):R2:=fun x y H Q=>rI0S g x y H Q
inductive rUS (g:Int -> V) (x:V) (H:Hp) (Q:VK):Prop
 | mk (i:Int) (h0:x = .int i) (h1:Q (g i) H):rUS g x H Q
noncomputable def rU (g:Int -> V):V -> Hp -> VK -> Prop:=fun x H Q=>rUS g x H Q
section
variable {X:Cx} {a b c:Expr} {ta tb tc:TE} {pos:Pos}
theorem binT (ha:PE X a ta) (hb:PE X b tb) {pins:List (Addr × Obj)} {s:Shared} {σ:St} {H:Hp} {R:V -> V -> Hp -> Prop} (I:Inv X pins σ H s)
   (h:ta σ H fun x H1=>tb σ H1 fun y H2=>R x y H2) {Q:Value -> Shared -> Prop} {f:Value -> Value -> Sem Value}
   (hf:∀ v u s2 x y H2,Inv X pins σ H2 s2 -> RelV x v -> RelV y u -> R x y H2 -> wpAny (model X.prog X.w) X.A (f v u) Q X.xe s2) :
   wpAny (model X.prog X.w) X.A (eval a X.env) (fun v s₁=>wpAny (model X.prog X.w) X.A (eval b X.env) (fun u s₂=>wpAny (model X.prog X.w) X.A (f v u) Q X.xe s₂) X.xe s₁) X.xe s:=by
 refine thn (ha pins s σ H _ I h) fun v s1 zq=>?_
 obtain ⟨x,H1,I1,r1,q1⟩:=zq
 refine thn (hb pins s1 σ H1 _ I1 q1) fun u s2 zq=>?_
 obtain ⟨y,H2,I2,r2,q2⟩:=zq
 exact hf v u s2 x y H2 I2 r1 r2 q2
theorem a4n {op:Operator} {r:R2} (ho:OpR X (binaryOp op) r) (ha:PE X a ta) (hb:PE X b tb):PE X (.BinOp a op b pos) (tOp r ta tb):=by
 intro pins s σ H Q I h
 exact wpAny_BinOp (binT ha hb I h fun v u s2 x y H2 I2 rx ry q=>ho pins s2 σ H2 x y v u Q I2 rx ry q)
theorem a8o {op:UnaryOp} {r:V -> Hp -> VK -> Prop} (ho:UnR X (unaryOp op) r) (ha:PE X a ta):PE X (.UnaryOp op a pos) (tUn r ta):=by
 intro pins s σ H Q I h
 exact UnaryOp_ (thn (ha pins s σ H _ I h) fun v s1 ⟨x,H1,I1,r1,q1⟩=>ho pins s1 σ H1 x v Q I1 r1 q1)
theorem opI {f:Value -> Value -> Sem Value} {C:Int -> Int -> Prop} {g:Int -> Int -> Int}
   (rule:∀ (i j:Int) (t u:Tok) (s:Shared) (Q:Value -> Shared -> Prop) (E:Value -> Shared -> Prop),C i j -> Q (.int (g i j) s.toks) { s with toks:=s.toks + 1 } -> wpAny (model X.prog X.w) X.A (f (.int i t) (.int j u)) Q E s) :
   OpR X f (rI C fun i j => .int (g i j)):=by
 intro pins s σ H x y v u Q I rx ry h
 obtain ⟨i,j,rfl,rfl,hc,q⟩:=h
 obtain ⟨t,rfl⟩:=rx
 obtain ⟨t',rfl⟩:=ry
 exact rule i j t t' s _ _ hc ⟨.int (g i j),H,I.tok _,⟨_,rfl⟩,q⟩
theorem opI0 {f:Value -> Value -> Sem Value} {g:Int -> Int -> Int}
   (rule:∀ (i j:Int) (t u:Tok) (s:Shared) (Q:Value -> Shared -> Prop) (E:Value -> Shared -> Prop),Q (.int (g i j) s.toks) { s with toks:=s.toks + 1 } -> wpAny (model X.prog X.w) X.A (f (.int i t) (.int j u)) Q E s) :
   OpR X f (rI0 fun i j => .int (g i j)):=by
 intro pins s σ H x y v u Q I rx ry h
 obtain ⟨i,j,rfl,rfl,q⟩:=h
 obtain ⟨t,rfl⟩:=rx
 obtain ⟨t',rfl⟩:=ry
 exact rule i j t t' s _ _ ⟨.int (g i j),H,I.tok _,⟨_,rfl⟩,q⟩
theorem opB0 {f:Value -> Value -> Sem Value} {g:Int -> Int -> Bool}
   (rule:∀ (i j:Int) (t u:Tok) (s:Shared) (Q:Value -> Shared -> Prop) (E:Value -> Shared -> Prop),Q (.bool (g i j)) s -> wpAny (model X.prog X.w) X.A (f (.int i t) (.int j u)) Q E s) :
   OpR X f (rI0 fun i j => .bl (g i j)):=by
 intro pins s σ H x y v u Q I rx ry h
 obtain ⟨i,j,rfl,rfl,q⟩:=h
 obtain ⟨t,rfl⟩:=rx
 obtain ⟨t',rfl⟩:=ry
 exact rule i j t t' s _ _ ⟨.bl (g i j),H,I,rfl,q⟩
noncomputable def CDiv (i j:Int):Prop:=0 < j /\ j < 1073741824
noncomputable def CPow (i j:Int):Prop:=0 <= j /\ j <= 1000000 /\ i.natAbs < 2 ^ 64
noncomputable def CMul (i j:Int):Prop:=(-(2 ^ 64) < i /\ i < 2 ^ 64) \/ (-(2 ^ 64) < j /\ j < 2 ^ 64)
theorem CMul.ok {i j:Int} (h:CMul i j):IntMulOk i j:=by
 rcases h with ⟨h1,h2⟩ | ⟨h1,h2⟩
 . exact .of_left (intBits_le_64 h1 h2)
 . exact .of_right (intBits_le_64 h1 h2)
theorem ca:OpR X (binaryOp .Add) (rI0 fun i j => .int (i + j)):=opI0 fun _ _ _ _ _ _ _ q=>add_int q
theorem a85:OpR X (binaryOp .Sub) (rI0 fun i j => .int (i - j)):=opI0 fun _ _ _ _ _ _ _ q=>sub_int q
theorem g6:OpR X (binaryOp .Mult) (rI CMul fun i j => .int (i * j)):=opI fun _ _ _ _ _ _ _ hc q=>mul_int q hc.ok
theorem d0:OpR X (binaryOp .FloorDiv) (rI CDiv fun i j => .int (i / j)):=opI fun i j _ _ _ _ _ hc q=>by
 have h1:(0:Int) < j:=hc.1
 have h2:j < 1073741824:=hc.2
 exact floordiv_int (by lia) (by rw [Int.fdiv_eq_ediv_of_nonneg i (by lia)]; exact q) (.inl (PyProof.noPylong_small (by lia)))
theorem bo:OpR X (binaryOp .Mod) (rI (fun _ j=>0 < j) fun i j => .int (i % j)):=opI fun i j _ _ _ _ _ hc q=>by
 have h1:(0:Int) < j:=hc
 exact mod_int' (by lia) (by rw [Int.fmod_eq_emod_of_nonneg i (by lia)]; exact q)
theorem a77:OpR X (binaryOp .Pow) (rI CPow fun i j => .int (i ^ j.toNat)):=opI fun _ _ _ _ _ _ _ hc q=>pow_int_small hc.1 hc.2.1 hc.2.2 q
theorem unI {f:Value -> Sem Value} {g:Int -> Int}
   (rule:∀ (i:Int) (t:Tok) (s:Shared) (Q:Value -> Shared -> Prop) (E:Value -> Shared -> Prop),Q (.int (g i) s.toks) { s with toks:=s.toks + 1 } -> wpAny (model X.prog X.w) X.A (f (.int i t)) Q E s) :
   UnR X f (rU fun i => .int (g i)):=by
 intro pins s σ H x v Q I rx h
 obtain ⟨i,rfl,q⟩:=h
 obtain ⟨t,rfl⟩:=rx
 exact rule i t s _ _ ⟨.int (g i),H,I.tok _,⟨_,rfl⟩,q⟩
theorem uh:UnR X (unaryOp .USub) (rU fun i => .int (-i)):=unI fun _ _ _ _ _ q=>neg_int q
end
noncomputable def scal:V -> V -> Bool
 | .non,.non=>true | .non,.int _=>true | .int _,.non=>true | .non,.bl _=>true | .bl _,.non=>true | .non,.str _=>true | .str _,.non=>true
 | .int _,.int _=>true | .bl _,.bl _=>true | .str _,.str _=>true | .byt _,.byt _=>true
 | .int _,.str _=>true | .str _,.int _=>true | .bl _,.str _=>true | .str _,.bl _=>true
 | _,_=>false
noncomputable def rEq:R2:=fun x y H Q=>scal x y = true /\ Q (.bl (decide (x = y))) H
noncomputable def rNe:R2:=fun x y H Q=>scal x y = true /\ Q (.bl (!decide (x = y))) H
theorem wo {i j:Int}:decide (V.int i = V.int j) = (i == j):=by
 rw [Bool.eq_iff_iff]
 simp
theorem a1h {i j:Bool}:decide (V.bl i = V.bl j) = (i == j):=by
 rw [Bool.eq_iff_iff]
 simp
theorem vp {i j:Str}:decide (V.str i = V.str j) = (i == j):=by
 rw [Bool.eq_iff_iff]
 simp
theorem vj {i j:Array UInt8}:decide (V.byt i = V.byt j) = (i.toList == j.toList):=by
 rw [Bool.eq_iff_iff]
 cases i
 cases j
 simp
section
variable {X:Cx} {a b c:Expr} {ta tb tc:TE} {pos:Pos}
theorem be {pins:List (Addr × Obj)} {σ:St} {H:Hp} {s:Shared} {Q:VK} {k k':Bool} (I:Inv X pins σ H s) (q:Q (.bl k) H) (e:k = k'):EP X pins σ Q (.bool k') s:=by
 subst e
 exact ⟨.bl k,H,I,rfl,q⟩
theorem bw:OpR X (compareOp .Eq) rEq:=by
 intro pins s σ H x y v u Q I rx ry h
 obtain ⟨hs,q⟩:=h
 cases x with
 | non =>
   cases rx
   cases y with
   | non=>cases ry; exact PySem.EqNone.eq_none_none (be I q (by simp))
   | bl j=>cases ry; exact PySem.EqNone.eq_none_bool (be I q (by simp))
   | int j=>obtain ⟨t',rfl⟩:=ry; exact PySem.EqNone.eq_none_int (be I q (by simp))
   | str j=>obtain ⟨t',rfl⟩:=ry; exact PySem.EqNone.eq_none_str (be I q (by simp))
   | _=>exact absurd (show false = true from hs) Bool.false_ne_true
 | bl i =>
   cases rx
   cases y with
   | non=>cases ry; exact PySem.EqNone.eq_bool_none (be I q (by simp))
   | bl j=>cases ry; exact eq_bool (be I q a1h)
   | str j=>obtain ⟨t',rfl⟩:=ry; exact PySem.EqMixed.eq_bool_str (be I q (by simp))
   | _=>exact absurd (show false = true from hs) Bool.false_ne_true
 | int i =>
   obtain ⟨t,rfl⟩:=rx
   cases y with
   | non=>cases ry; exact PySem.EqNone.eq_int_none (be I q (by simp))
   | int j=>obtain ⟨t',rfl⟩:=ry; exact eq_int (be I q wo)
   | str j=>obtain ⟨t',rfl⟩:=ry; exact PySem.EqMixed.eq_int_str (be I q (by simp))
   | _=>exact absurd (show false = true from hs) Bool.false_ne_true
 | str i =>
   obtain ⟨t,rfl⟩:=rx
   cases y with
   | non=>cases ry; exact PySem.EqNone.eq_str_none (be I q (by simp))
   | bl j=>cases ry; exact PySem.EqMixed.eq_str_bool (be I q (by simp))
   | int j=>obtain ⟨t',rfl⟩:=ry; exact PySem.EqMixed.eq_str_int (be I q (by simp))
   | str j=>obtain ⟨t',rfl⟩:=ry; exact eq_str (be I q vp)
   | _=>exact absurd (show false = true from hs) Bool.false_ne_true
 | byt i =>
   obtain ⟨t,rfl⟩:=rx
   cases y with
   | byt j=>obtain ⟨t',rfl⟩:=ry; exact PySem.W.eq_bytes (be I q vj)
   | _=>exact absurd (show false = true from hs) Bool.false_ne_true
 | _=>cases y <;> exact absurd (show false = true from hs) Bool.false_ne_true
theorem gf:OpR X (compareOp .NotEq) rNe:=by
 intro pins s σ H x y v u Q I rx ry h
 obtain ⟨hs,q⟩:=h
 cases x with
 | non =>
   cases rx
   cases y with
   | non=>cases ry; exact PySem.EqNone.ne_none_none (be I q (by simp))
   | bl j=>cases ry; exact PySem.EqNone.ne_none_bool (be I q (by simp))
   | int j=>obtain ⟨t',rfl⟩:=ry; exact PySem.EqNone.ne_none_int (be I q (by simp))
   | str j=>obtain ⟨t',rfl⟩:=ry; exact PySem.EqNone.ne_none_str (be I q (by simp))
   | _=>exact absurd (show false = true from hs) Bool.false_ne_true
 | bl i =>
   cases rx
   cases y with
   | non=>cases ry; exact PySem.EqNone.ne_bool_none (be I q (by simp))
   | bl j=>cases ry; exact ne_bool (be I q (congrArg not a1h))
   | str j=>obtain ⟨t',rfl⟩:=ry; exact PySem.EqMixed.ne_bool_str (be I q (by simp))
   | _=>exact absurd (show false = true from hs) Bool.false_ne_true
 | int i =>
   obtain ⟨t,rfl⟩:=rx
   cases y with
   | non=>cases ry; exact PySem.EqNone.ne_int_none (be I q (by simp))
   | int j=>obtain ⟨t',rfl⟩:=ry; exact ne_int (be I q (congrArg not wo))
   | str j=>obtain ⟨t',rfl⟩:=ry; exact PySem.EqMixed.ne_int_str (be I q (by simp))
   | _=>exact absurd (show false = true from hs) Bool.false_ne_true
 | str i =>
   obtain ⟨t,rfl⟩:=rx
   cases y with
   | non=>cases ry; exact PySem.EqNone.ne_str_none (be I q (by simp))
   | bl j=>cases ry; exact PySem.EqMixed.ne_str_bool (be I q (by simp))
   | int j=>obtain ⟨t',rfl⟩:=ry; exact PySem.EqMixed.ne_str_int (be I q (by simp))
   | str j=>obtain ⟨t',rfl⟩:=ry; exact ne_str (be I q (congrArg not vp))
   | _=>exact absurd (show false = true from hs) Bool.false_ne_true
 | byt i =>
   obtain ⟨t,rfl⟩:=rx
   cases y with
   | byt j=>obtain ⟨t',rfl⟩:=ry; exact PySem.W.ne_bytes (be I q (congrArg not vj))
   | _=>exact absurd (show false = true from hs) Bool.false_ne_true
 | _=>cases y <;> exact absurd (show false = true from hs) Bool.false_ne_true
theorem j0:OpR X (compareOp .Lt) (rI0 fun i j => .bl (decide (i < j))):=opB0 fun _ _ _ _ _ _ _ q=>lt_int q
theorem a4s:OpR X (compareOp .Gt) (rI0 fun i j => .bl (decide (j < i))):=opB0 fun _ _ _ _ _ _ _ q=>gt_int q
theorem a7m:OpR X (compareOp .Is) (fun x y H Q=>y = .non /\ Q (.bl (decide (x = .non))) H):=by
 intro pins s σ H x y v u Q I rx ry h
 obtain ⟨rfl,q⟩:=h
 cases ry
 refine is_none_gen (be I q ?_)
 cases x <;> first
   | (cases rx; rfl)
   | (obtain ⟨t,rfl⟩:=rx; rfl)
theorem a6a:OpR X (compareOp .IsNot) (fun x y H Q=>y = .non /\ Q (.bl (!decide (x = .non))) H):=by
 intro pins s σ H x y v u Q I rx ry h
 obtain ⟨rfl,q⟩:=h
 cases ry
 refine isnot_none_gen (be I q ?_)
 cases x <;> first
   | (cases rx; rfl)
   | (obtain ⟨t,rfl⟩:=rx; rfl)
theorem aq (b:Expr) {op:CmpOp} (h:autoParam (op ≠ .In) L2.a1_) (h2:autoParam (op ≠ .NotIn) L2.a1_):behindInMarks op b = false:=by
 have e1:(op == CmpOp.In) = false:=by cases op <;> first | rfl | exact absurd rfl h
 have e2:(op == CmpOp.NotIn) = false:=by cases op <;> first | rfl | exact absurd rfl h2
 cases b <;> simp [behindInMarks,e1,e2]
theorem a61 {op:CmpOp} {r:R2} (ho:OpR X (compareOp op) r) (ha:PE X a ta) (hb:PE X b tb) (hm:behindInMarks op b = false):PE X (.Compare a [op] [b] pos) (tOp r ta tb):=by
 intro pins s σ H Q I h
 exact wpAny_Compare1 (binT ha hb I h fun v u s2 x y H2 I2 rx ry q=>ho pins s2 σ H2 x y v u Q I2 rx ry q) hm
inductive tTestS (x:V) (H':Hp) (Q:Bool -> Hp -> Prop):Prop
 | mk (k:Bool) (h0:x = .bl k) (h1:Q k H'):tTestS x H' Q
noncomputable def a4v (t:TE):TT:=fun σ H Q=>t σ H fun x H'=>tTestS x H' Q
theorem wq {op:CmpOp} {r:R2} (ho:OpR X (compareOp op) r) (ha:PE X a ta) (hb:PE X b tb) (hm:behindInMarks op b = false):PT X (.Compare a [op] [b] pos) (a4v (tOp r ta tb)):=by
 intro pins s σ H Q I h
 refine wpAny_isTrue_Compare1 (thn (ha pins s σ H _ I h) fun v s1 ⟨x,H1,I1,r1,q1⟩=>thn (hb pins s1 σ H1 _ I1 q1) fun u s2 ⟨y,H2,I2,r2,q2⟩ =>
   thn (ho pins s2 σ H2 x y v u _ I2 r1 r2 q2) fun c s3 ⟨z,H3,I3,r3,k,e,q3⟩=>?_) hm
 subst e
 cases r3
 exact wpAny_truthy_bool ⟨H3,I3,q3⟩
noncomputable def TruV (K:PySem.W.Frag) (x:V) (H:Hp) (k:Bool):Prop :=
 match x with
 | .non=>k = false
 | .bl b=>k = b
 | .int i=>k = (i != 0)
 | .str y=>y.length <= sizeLine /\ k = ((y.length:Int) != 0)
 | .byt y=>y.size <= sizeLine /\ k = ((y.size:Int) != 0)
 | .ref p=>(∃ xs,SqL K H p xs /\ k = !xs.isEmpty) \/ (∃ xs,SqT K H p xs /\ k = !xs.isEmpty) \/ ∃ kvs,H p = some (.dK kvs) /\ k = !kvs.isEmpty
 | _=>False
theorem xy {κ:Type} {kvs:List (κ × V)} {vs:List (κ × Value)} (r:KV kvs vs):(!vs.isEmpty) = !kvs.isEmpty:=by
 cases r <;> rfl
theorem ny {xs:List V} {its:List Value} (r:Vals xs its):(!its.toArray.isEmpty) = !xs.isEmpty:=by
 cases r <;> simp
theorem j9:(sizeLine:Nat) < 2 ^ 63:=by rw [sizeLine_eq]; decide
theorem a79:TruR X (fun x H Q => ∃ k,TruV X.K x H k /\ Q k H):=by
 intro pins s σ H x v Q I rx h
 obtain ⟨k,e,q⟩:=h
 have hl:=j9
 have hs:sizeLine = 16777216:=sizeLine_eq
 cases x with
 | non =>
   cases rx
   have e':k = false:=e
   subst e'
   exact truthy_none ⟨H,I,q⟩
 | bl b =>
   cases rx
   have e':k = b:=e
   subst e'
   exact wpAny_truthy_bool ⟨H,I,q⟩
 | int i =>
   obtain ⟨t,rfl⟩:=rx
   have e':k = (i != 0):=e
   subst e'
   exact PySem.P.truthy_int ⟨H,I,q⟩
 | str y =>
   obtain ⟨t,rfl⟩:=rx
   obtain ⟨hy,e'⟩:y.length <= sizeLine /\ k = ((y.length:Int) != 0):=e
   subst e'
   exact PySem.P.truthy_str (by lia) ⟨H,I.tok _,q⟩
 | byt y =>
   obtain ⟨t,rfl⟩:=rx
   obtain ⟨hy,e'⟩:y.size <= sizeLine /\ k = ((y.size:Int) != 0):=e
   subst e'
   exact PySem.W.truthy_bytes (by lia) ⟨H,I.tok _,q⟩
 | ref p =>
   cases rx
   have e':(∃ xs,SqL X.K H p xs /\ k = !xs.isEmpty) \/ (∃ xs,SqT X.K H p xs /\ k = !xs.isEmpty) \/ ∃ kvs,H p = some (.dK kvs) /\ k = !kvs.isEmpty:=e
   rcases e' with ⟨xs,hx,e'⟩ | ⟨xs,hx,e'⟩ | ⟨kvs,hx,e'⟩
   . subst e'
     obtain ⟨its,r,pl,hz⟩:=I.list hx
     have hlen:=r.length
     exact wpAny_truthy_list pl.isList (by simp only [List.size_toArray]; lia) ⟨H,I.tok _,by rw [ny r]; exact q⟩
   . subst e'
     obtain ⟨its,r,pl,hz⟩:=I.tuple hx
     have hlen:=r.length
     exact truthy_tuple pl (by simp only [List.size_toArray]; lia) ⟨H,I.tok _,by rw [ny r]; exact q⟩
   . subst e'
     obtain ⟨hz,hS,vs,r,m⟩:kvs.length <= sizeLine /\ (p == sysModules) = false /\ ∃ vs,KV kvs vs /\ s.heap.DictOf (bn X.prog X.w) p vs:=I.hok p _ hx
     have hlen:kvs.length = vs.length:=Paired.length r
     exact wpAny_truthy_dict hS m (by lia) ⟨H,I.tok _,by rw [xy r]; exact q⟩
 | _=>exact (show False from e).elim
theorem a49 (ha:PE X a ta) (he:∀ whole,isTrue a X.env whole = (do let v <- whole; standAt a.pos; holding [v] (truthy v))) :
   PT X a (fun σ H Q=>ta σ H fun x H' => ∃ k,TruV X.K x H' k /\ Q k H'):=by
 intro pins s σ H Q I h
 exact isTrue_plain (thn (ha pins s σ H _ I h) fun v s1 ⟨x,H1,I1,r1,q1⟩=>a79 pins s1 σ H1 x v Q I1 r1 q1) (he _)
theorem ia:OpR X (binaryOp .Add) (fun x y H Q => ∃ i j,x = .str i /\ y = .str j /\ i.length + j.length <= sizeLine /\ Q (.str (i ++ j)) H):=by
 intro pins s σ H x y v u Q I rx ry h
 obtain ⟨i,j,rfl,rfl,hz,q⟩:=h
 obtain ⟨t,rfl⟩:=rx
 obtain ⟨t',rfl⟩:=ry
 exact add_str (fun t' tk=>⟨.str (i ++ j),H,I.tok _,⟨_,rfl⟩,q⟩) hz
theorem jf {x:V} {us:List Value} (r:Vals [x] us):∃ u,us = [u] /\ RelV x u:=by
 cases r with
 | cons r1 r2=>cases r2; exact ⟨_,rfl,r1⟩
end
structure ObjM (h:Heap) (x dx C:Addr) (mA:Str -> Option Value):Prop where
 obj:h.get? x = some (PySem.W.instObj C dx)
 ns:h.Ns1 dx mA
 ne:dx ≠ x
theorem a0k {h:Heap} {dx:Addr} {mA:Str -> Option Value} (n:h.Ns1 dx mA):∃ od,h.get? dx = some od /\ ∀ name,PySem.W.lookIn name od = some (mA name):=by
 obtain ⟨o,es,ep,ho,hd,hk,_,hm⟩:=n
 refine ⟨o,ho,fun name=>?_⟩
 have e:=hm name
 unfold nsFind findBy at e
 rw [<- Array.find?_toList] at e
 unfold PySem.W.lookIn
 rw [hd]
 dsimp only
 split
 . rename_i y q
   rw [q] at e
   exact congrArg some e
 . rename_i q
   rw [q] at e
   have a:es.toList.any (·.refKey) = false:=by
     rw [List.any_eq_false]
     intro y hy
     obtain ⟨z,t,hkey⟩:=hk y (Array.mem_toList_iff.mp hy)
     simp [DictEntry.refKey,hkey]
   have a':¬ es.toList.any (·.refKey) = true:=by rw [a]; exact Bool.false_ne_true
   rw [if_neg a']
   exact congrArg some e
theorem ObjM.look {h:Heap} {x dx C:Addr} {mA:Str -> Option Value} (I:ObjM h x dx C mA):∃ od,PySem.W.InstAt h x (PySem.W.instObj C dx) C (some od) /\ ∀ name,PySem.W.lookIn name od = some (mA name) :=
 let ⟨od,ho,hl⟩:=a0k I.ns
 ⟨od,⟨I.obj,rfl,rfl,ho⟩,hl⟩
section
variable {prog:Program} {w:World} {A:Around} {E:Value -> Shared -> Prop} {s:Shared} {K:PySem.W.Frag} {x dx C f:Addr} {mA:Str -> Option Value} {name:Str} {v:Value}
theorem a5i {expr:Bool} {Q:Value -> Shared -> Prop} (X:K.In s.heap) (I:ObjM s.heap x dx C mA) (hg:PySem.W.plainGet K C name = true) (hh:PySem.W.hasDictIn K C = true)
   (ha:PySem.W.findIn K (.ref C) name = some none) (hv:mA name = some v) (hv':PySem.W.handedIn v = true) (h:Q v { s with toks:=s.toks + 1 }) :
   wpAny (model prog w) A (getAttr (.ref x) name expr) Q E s:=by
 obtain ⟨od,J,hl⟩:=I.look
 exact PySem.W.get_value X J (PySem.W.plainGet_of hg).1 (PySem.W.findObj_own hh ha rfl (by rw [hl,hv])) hv' h
theorem a2l {pl:Sem Bool} {Q:Value × List Value -> Shared -> Prop} (X:K.In s.heap) (I:ObjM s.heap x dx C mA) (hg:PySem.W.plainGet K C name = true)
   (hf:PySem.W.findIn K (.ref C) name = some (some (.ref f))) (ht:PySem.W.isFn K (.ref f) = true) (hv:mA name = none) (h:Q (.ref f,[.ref x]) s) :
   wpAny (model prog w) A (getMethod (.ref x) name pl) Q E s:=by
 obtain ⟨od,J,hl⟩:=I.look
 exact PySem.W.method_fn X J (PySem.W.plainGet_of hg).1 (PySem.W.plainGet_of hg).2 hf (beq_iff_eq.mp ht) (by show (PySem.W.lookIn name od).map (·.isSome) = some false; rw [hl,hv]; rfl) h
theorem a68 {ns:List Str} {Q:Unit -> Shared -> Prop} (X:K.In s.heap) (I:ObjM s.heap x dx C mA)
   (hs:PySem.W.findIn K (.ref C) "__setattr__" = some (some (.builtin "object.__setattr__"))) (hp:PySem.W.plainOver K C = true) (ht:PySem.W.takerIn K C name = some none) (hh:PySem.W.hasDictIn K C = true)
   (hw:PySem.Within mA ns) (hsz:ns.length <= sizeLine)
   (h:∀ h',ObjM h' x dx C (fun y=>if y = name then some v else mA y) -> Heap.SameBut dx s.heap h' -> Q () { s with heap:=h',toks:=s.toks + 2 }) :
   wpAny (model prog w) A (setAttr (.ref x) name v) Q E s:=by
 obtain ⟨od,J,hl⟩:=I.look
 refine PySem.W.set_plain X J hs (PySem.W.osa_open (s:={ s with toks:=s.toks + 1 }) (r:=none) X J hp ht fun b=>?_)
 obtain ⟨cd,hc,hd'⟩:=PySem.W.any_some hh
 have hx:s.heap.get? x = some ⟨.ref C,some dx,.plain,#[]⟩:=I.obj
 refine wpAny_bind (wpAny_pure (wpAny_bind (wpAny_bind (wpAny_loadPart hx (wpAny_bind (PySem.W.Looks.here (s:={ s with toks:=s.toks + 1 }) (PySem.W.looks_clsIn X hc) ?_))))))
 rw [hd']
 refine wpAny_pure (a:=some dx) (wpAny_bind (wpAny_pure (wpAny_bind ?_)))
 refine wpAny_nsSet1 (s:={ s with toks:=s.toks + 1 }) I.ns fun h' hn2 hs2=>?_
 obtain ⟨oD,esD,epD,hoD,hdD,hcD⟩:=hn2.count (PySem.Within.cons name v hw)
 refine wpAny_bind (wpAny_lookBehind hoD (by rw [hdD]; exact pastItsLine_dict (Nat.le_trans hcD (by rw [List.length_cons]; lia))) ?_)
 exact wpAny_pure (h _ ⟨(hs2.2 _ (Ne.symm I.ne)).trans I.obj,hn2,I.ne⟩ hs2)
theorem a45 {R:Result -> Shared -> Prop} {vs:List Value} {kw:List (Str × Value)} (X:K.In s.heap) (hm:PySem.W.makesIn K C = true)
   (hi:PySem.W.findIn K (.ref C) "__init__" = some (some (.ref f))) (hf:PySem.W.typeIn K (.ref f) = some (.type "function"))
   (h:codeAny (model prog w) (A.under (.builtin "type.__call__" ⟨.ref C :: vs,kw⟩)) (.call (.ref f) ⟨.ref (s.heap.objs.size + 1) :: vs,kw⟩) (PySem.W.InitBack (s.heap.objs.size + 1) R)
     { s with heap:=(s.heap.push PySem.W.emptyDict).push (PySem.W.instObj C s.heap.objs.size) }) :
   codeAny (model prog w) A (.call (.ref C) ⟨vs,kw⟩) R s:=by
 obtain ⟨hh,g,d,t,os⟩:=s
 exact PySem.W.make_core (PySem.W.makes_of X hm) (PySem.W.looks_findIn X hi) (fun self=>PySem.W.bind_fn X self hf) (.inl rfl) h
end
noncomputable def putF (f:Str) (v:V):List (Str × V) -> List (Str × V)
 | []=>[(f,v)]
 | (g,x) :: r=>if g = f then (g,v) :: r else (g,x) :: putF f v r
theorem b7 (f g:Str) (v:V):∀ fs:List (Str × V),(putF f v fs).lookup g = if g = f then some v else fs.lookup g
 | []=>by
   show List.lookup g [(f,v)] = _
   by_cases h:g = f
   . have hb:(g == f) = true:=beq_iff_eq.mpr h
     simp only [List.lookup,hb,if_pos h]
   . have hb:(g == f) = false:=beq_eq_false_iff_ne.mpr h
     simp only [List.lookup,hb,if_neg h]
 | (k,x) :: r=>by
   have ih:=b7 f g v r
   rw [show putF f v ((k,x) :: r) = (if k = f then (k,v) :: r else (k,x) :: putF f v r) from rfl]
   by_cases hk:k = f
   . rw [if_pos hk]
     by_cases h:g = k
     . have hb:(g == k) = true:=beq_iff_eq.mpr h
       simp only [List.lookup,hb,if_pos (h.trans hk)]
     . have hb:(g == k) = false:=beq_eq_false_iff_ne.mpr h
       simp only [List.lookup,hb,if_neg (fun e:g = f=>h (e.trans hk.symm))]
   . rw [if_neg hk]
     by_cases h:g = k
     . have hb:(g == k) = true:=beq_iff_eq.mpr h
       simp only [List.lookup,hb,if_neg (fun e:g = f=>hk (h.symm.trans e))]
     . have hb:(g == k) = false:=beq_eq_false_iff_ne.mpr h
       simp only [List.lookup,hb]
       exact ih
theorem kh (f:Str) (v:V):∀ fs:List (Str × V),f ∈ (putF f v fs).map (·.1) /\ ∀ g,g ∈ fs.map (·.1) -> g ∈ (putF f v fs).map (·.1)
 | []=>⟨by simp [putF],fun g h=>by simp at h⟩
 | (k,x) :: r=>by
   obtain ⟨i1,i2⟩:=kh f v r
   rw [show putF f v ((k,x) :: r) = (if k = f then (k,v) :: r else (k,x) :: putF f v r) from rfl]
   by_cases hk:k = f
   . rw [if_pos hk]
     subst hk
     exact ⟨by simp,fun g h=>by simpa using h⟩
   . rw [if_neg hk]
     refine ⟨?_,fun g h=>?_⟩
     . rw [List.map_cons]
       exact List.mem_cons_of_mem _ i1
     . rw [List.map_cons] at h |-
       rcases List.mem_cons.mp h with e | e
       . exact List.mem_cons.mpr (.inl e)
       . exact List.mem_cons_of_mem _ (i2 g e)
theorem cb (f:Str) (v:V):∀ fs:List (Str × V),(putF f v fs).length <= fs.length + 1
 | []=>by simp [putF]
 | (k,x) :: r=>by
   have ih:=cb f v r
   rw [show putF f v ((k,x) :: r) = (if k = f then (k,v) :: r else (k,x) :: putF f v r) from rfl]
   by_cases hk:k = f
   . rw [if_pos hk,List.length_cons,List.length_cons]; lia
   . rw [if_neg hk,List.length_cons,List.length_cons]; lia
theorem RelO.some_of {v:V} {o:Option Value} (r:RelO (some v) o):∃ u,o = some u /\ RelV v u:=by
 cases o with
 | none=>exact (show False from r).elim
 | some u=>exact ⟨u,rfl,r⟩
theorem RelO.none_of {o:Option Value} (r:RelO none o):o = none:=by
 cases o with
 | none=>rfl
 | some u=>exact (show False from r).elim
theorem a1p {v:V} {u:Value} (r:RelV v u):PySem.W.handedIn u = true:=by
 cases v with
 | non=>cases (show u = Value.none from r); rfl
 | bl b=>cases (show u = Value.bool b from r); rfl
 | int i=>obtain ⟨t,e⟩:=(show ∃ t,u = Value.int i t from r); cases e; rfl
 | str x=>obtain ⟨t,e⟩:=(show ∃ t,u = Value.str x t from r); cases e; rfl
 | byt b=>obtain ⟨t,e⟩:=(show ∃ t,u = Value.bytes b t from r); cases e; rfl
 | flt b=>obtain ⟨t,e⟩:=(show ∃ t,u = Value.float b t from r); cases e; rfl
 | ref a=>cases (show u = Value.ref a from r); rfl
 | ty n=>cases (show u = Value.type n from r); rfl
section
variable {P:Program} {w:World} {H H':Hp} {h h':Heap} {a C dx:Addr} {fs fs':List (Str × V)}
theorem pc (hok:HOk P w H h) (e:H a = some (.ins C dx fs)):∃ mA,ObjM h a dx C mA /\ (∀ f,RelO (fs.lookup f) (mA f)) /\ PySem.Within mA (fs.map (·.1)) /\ fs.length <= 1000 /\ H dx = some (.own a):=by
 obtain ⟨d,z,ne,ob,mA,n,r,q⟩:=(show ObjOk P w H h a (.ins C dx fs) from hok a _ e)
 exact ⟨mA,⟨ob,n,ne⟩,r,q,z,d⟩
end
structure Cls (K:PySem.W.Frag) (C:Addr):Prop where
 pg:PySem.W.plainGet K C Str.empty = true
 hd:PySem.W.hasDictIn K C = true
 po:PySem.W.plainOver K C = true
 sa:PySem.W.findIn K (.ref C) "__setattr__" = some (some (.builtin "object.__setattr__"))
theorem Cls.get {K:PySem.W.Frag} {C:Addr} (c:Cls K C) (f:Str):PySem.W.plainGet K C f = true:=c.pg
noncomputable def NoAttr (K:PySem.W.Frag) (C:Addr) (f:Str):Prop:=PySem.W.findIn K (.ref C) f = some none
theorem NoAttr.taker {K:PySem.W.Frag} {C:Addr} {f:Str} (n:NoAttr K C f):PySem.W.takerIn K C f = some none:=by
 unfold PySem.W.takerIn
 rw [show PySem.W.findIn K (.ref C) f = some none from n]
 rfl
structure Con (K:PySem.W.Frag) (C:Addr) (f:Str) (v:V) (u:Value):Prop where
 at_:PySem.W.findIn K (.ref C) f = some (some u)
 rel:RelV v u
 get:PySem.W.specialIn K u "__get__" = some none
 cp:PySem.W.copiedNames.contains f = false
structure Meth (K:PySem.W.Frag) (C:Addr) (m:Str) (f:Addr):Prop where
 at_:PySem.W.findIn K (.ref C) m = some (some (.ref f))
 fn:PySem.W.isFn K (.ref f) = true
 kp:PySem.W.keepIn K (.ref f) = true
section
variable {X:Cx} {pins:List (Addr × Obj)} {σ:St} {H:Hp} {s:Shared} {a C dx:Addr} {fs:List (Str × V)} {f:Str} {v:V} {A:Around} {E:Value -> Shared -> Prop}
theorem ye {b:Bool} {Q:Value -> Shared -> Prop} (I:Inv X pins σ H s) (e:H a = some (.ins C dx fs)) (c:Cls X.K C) (n:NoAttr X.K C f) (l:fs.lookup f = some v)
   (h:∀ u s',Inv X pins σ H s' -> RelV v u -> Q u s'):wpAny (model X.prog X.w) A (getAttr (.ref a) f b) Q E s:=by
 obtain ⟨mA,O,r,_,_,_⟩:=pc I.hok e
 obtain ⟨u,hu,ru⟩:=RelO.some_of (v:=v) (o:=mA f) (by rw [<- l]; exact r f)
 exact a5i I.kIn O (c.get f) c.hd n hu (a1p ru) (h u _ (I.tok _) ru)
theorem nq {m:Str} {g:Addr} {pl:Sem Bool} {Q:Value × List Value -> Shared -> Prop} (I:Inv X pins σ H s) (e:H a = some (.ins C dx fs)) (c:Cls X.K C) (k:Meth X.K C m g) (l:fs.lookup m = none)
   (h:Q (.ref g,[.ref a]) s):wpAny (model X.prog X.w) A (getMethod (.ref a) m pl) Q E s:=by
 obtain ⟨mA,O,r,_,_,_⟩:=pc I.hok e
 have hn:mA m = none:=RelO.none_of (by rw [<- l]; exact r m)
 exact a2l I.kIn O (c.get m) k.at_ k.fn hn h
theorem yj {y:V} {u:Value} {Q:Unit -> Shared -> Prop} (I:Inv X pins σ H s) (e:H a = some (.ins C dx fs)) (c:Cls X.K C) (n:NoAttr X.K C f) (hl:fs.length < 1000) (ry:RelV y u)
   (h:∀ s',Inv X pins σ (upd H a (.ins C dx (putF f y fs))) s' -> Q () s'):wpAny (model X.prog X.w) A (setAttr (.ref a) f u) Q E s:=by
 obtain ⟨mA,O,r,wi,_,ho⟩:=pc I.hok e
 have hz:(fs.map (·.1)).length <= sizeLine:=by rw [List.length_map,sizeLine_eq]; lia
 refine a68 I.kIn O c.sa c.po n.taker c.hd wi hz fun h' O' sb=>h _ ?_
 have hd:∃ o,h'.get? dx = some o:=let ⟨o,_,_,e',_⟩:=O'.ns; ⟨o,e'⟩
 refine I.write (x:=a) (e:=dx) (by rw [e]; exact True.intro) (.inr ho) (fun b q hb z=>(sb.2 b hb).trans z) hd ?_
 refine ⟨by rw [ag O.ne]; exact ho,?_,O.ne,O'.obj,_,O'.ns,fun g=>?_,fun g hg=>?_⟩
 . have:=cb f y fs; lia
 . show RelO ((putF f y fs).lookup g) (if g = f then some u else mA g)
   rw [b7]
   by_cases q:g = f
   . rw [if_pos q,if_pos q]; exact ry
   . rw [if_neg q,if_neg q]; exact r g
 . by_cases q:g = f
   . rw [q]; exact (kh f y fs).1
   . refine (kh f y fs).2 g (wi g fun z=>hg ?_)
     show (if g = f then some u else mA g) = none
     rw [if_neg q]; exact z
theorem Inv.made (I:Inv X pins σ H s):Inv X pins σ (upd (upd H s.heap.objs.size (.own (s.heap.objs.size + 1))) (s.heap.objs.size + 1) (.ins C s.heap.objs.size []))
   { s with heap:=(s.heap.push PySem.W.emptyDict).push (PySem.W.instObj C s.heap.objs.size) }:=by
 have e1:(s.heap.push PySem.W.emptyDict).get? s.heap.objs.size = some PySem.W.emptyDict:=Heap.get?_push_size s.heap rfl
 have e2:((s.heap.push PySem.W.emptyDict).push (PySem.W.instObj C s.heap.objs.size)).get? (s.heap.objs.size + 1) = some (PySem.W.instObj C s.heap.objs.size):=by
   have:=Heap.get?_push_size (s.heap.push PySem.W.emptyDict) (o:=PySem.W.instObj C s.heap.objs.size) rfl
   rwa [Heap.size_push] at this
 have e3:(s.heap.push PySem.W.emptyDict).Ns s.heap.objs.size (fun _=>none):=⟨PySem.W.emptyDict,#[],_,e1,rfl,(fun e he=>absurd he (by simp)),fun _=>rfl⟩
 have I1:=I.laid (a:=s.heap.objs.size) (o := .own (s.heap.objs.size + 1)) (h':=s.heap.push PySem.W.emptyDict) (t':=s.toks) (fun b u q=>Heap.get?_push_of_some _ q) (Nat.le_refl _) ⟨_,e1⟩
 refine I1.laid (a:=s.heap.objs.size + 1) (o := .ins C s.heap.objs.size []) (t':=s.toks) (fun b u q=>Heap.get?_push_of_some _ q) (Nat.le_of_eq (Heap.size_push _ _)) ?_
 have ne:s.heap.objs.size ≠ s.heap.objs.size + 1:=Nat.ne_of_lt (Nat.lt_succ_self _)
 refine ⟨by rw [ag ne,aa],Nat.zero_le _,ne,e2,fun _=>none,(Heap.Ns1.of_empty e3).at fun o q=>Heap.get?_push_of_some _ q,fun _=>True.intro,fun y hy=>absurd rfl hy⟩
theorem a66 {prog:Program} {w:World} {env:Env} {e:Expr} {f:Str} {pos:Pos} {s:Shared} {Q:Value -> Shared -> Prop} (hb:attributeBase e f env (eval e env) = eval e env)
   (h:wpAny (model prog w) A (eval e env) (fun o s₁=>wpAny (model prog w) A (getAttr o f true) Q E s₁) E s):wpAny (model prog w) A (eval (.Attribute e f pos) env) Q E s :=
 Attribute_any_ h (by rw [arm_eval_Attribute,hb])
end
noncomputable def tFld (K:PySem.W.Frag) (ta:TE) (f:Str):TE:=fun σ H Q=>ta σ H fun x H1 => ∃ a C dx fs v,x = .ref a /\ H1 a = some (.ins C dx fs) /\ Cls K C /\ NoAttr K C f /\ fs.lookup f = some v /\ Q v H1
noncomputable def sFld (K:PySem.W.Frag) (ta tv:TE) (f:Str):TS:=fun D σ H=>tv σ H fun y H1=>ta σ H1 fun x H2 => ∃ a C dx fs,x = .ref a /\ H2 a = some (.ins C dx fs) /\ Cls K C /\ NoAttr K C f /\ fs.length < 1000 /\
 D.nx σ (upd H2 a (.ins C dx (putF f y fs)))
section
variable {X:Cx} {o e value:Expr} {f:Str} {pos pos' tpos:Pos} {ta tv:TE}
theorem a7q (he:PE X e ta) (hb:attributeBase e f X.env (eval e X.env) = eval e X.env):PE X (.Attribute e f pos) (tFld X.K ta f):=by
 intro pins s σ H Q I h
 refine a66 hb (thn (he pins s σ H _ I h) fun u s1 zq=>?_)
 obtain ⟨x,H1,I1,rx,a,C,dx,fs,v,ex,ea,c,n,l,q⟩:=zq
 subst ex
 obtain rfl:u = Value.ref a:=rx
 exact ye I1 ea c n l fun u' s2 I2 ru=>⟨v,H1,I2,ru,q⟩
theorem a7b (ha:PE X o ta) (hv:PE X value tv) (hs:swapsWith value (some (.Attribute o f pos')) pos.line X.env = pure false):PS X (.Assign [.Attribute o f pos'] value pos) (sFld X.K ta tv f):=by
 intro pins s σ H D I h
 refine plainObj_wpAny_Assign_Attribute (thn (hv pins s σ H _ I h) fun u s1 ⟨y,H1,I1,ry,q⟩=>thn (ha pins s1 σ H1 _ I1 q) fun ov s2 ⟨x,H2,I2,rx,a,C,dx,fs,ex,ea,c,n,l,q2⟩=>?_) hs
 subst ex
 obtain rfl:ov = Value.ref a:=rx
 exact yj I2 ea c n l ry fun s3 I3=>⟨σ,_,I3,q2⟩
end
section
variable {X:Cx} {pins:List (Addr × Obj)} {σ:St} {H:Hp} {s:Shared} {A:Around} {E:Value -> Shared -> Prop} {Q:Value -> Shared -> Prop} {c:Value} {b:Bool}
end
structure Room (k:Nat) (A:Around):Prop where
 hd:A.handled = none
 dp:A.depth + 3 * k + 5 < recursionLimit
 un:A.units + 16 * k + 200 < cLine
theorem Room.mono {j k:Nat} {A:Around} (r:Room k A) (h:j <= k):Room j A:=⟨r.hd,by have:=r.dp; lia,by have:=r.un; lia⟩
theorem Room.deeper {k:Nat} {A:Around} (r:Room (k + 1) A) (env:Env):Room k (A.deeper env) :=
 ⟨r.hd,by have:=r.dp; show A.depth + 1 + 3 * k + 5 < _; lia,by have:=r.un; show A.units + 3 + 16 * k + 200 < _; lia⟩
theorem yn {A:Around} {C:Addr} {us:List Value} {kw:List (Str × Value)}:(A.under (.builtin "type.__call__" ⟨.ref C :: us,kw⟩)).depth = A.depth + 1:=by
 first | rfl | simp [Around.under,Code.weight,Code.isCreation,Code.isGuard,Code.isCaller,Code.frames,Code.isFrame,guardIds]
theorem xt {A:Around} {C:Addr} {us:List Value} {kw:List (Str × Value)}:(A.under (.builtin "type.__call__" ⟨.ref C :: us,kw⟩)).units = A.units + 1:=by
 first | rfl | simp [Around.under,Code.cUnits,Code.frames,Code.isFrame]
theorem Room.make {k:Nat} {A:Around} (r:Room (k + 1) A) (C:Addr) (us:List Value) (kw:List (Str × Value)):Room k (A.under (.builtin "type.__call__" ⟨.ref C :: us,kw⟩)) :=
 ⟨r.hd,by have:=r.dp; rw [yn]; lia,by have:=r.un; rw [xt]; lia⟩
theorem Room.depth {k:Nat} {A:Around} (r:Room k A):A.depth < recursionLimit:=by have:=r.dp; lia
theorem Room.units {k:Nat} {A:Around} (r:Room k A):A.units + 64 < cLine:=by have:=r.un; lia
noncomputable def tNil:TA:=fun _ H Q=>Q [] H
noncomputable def de (ta:TE) (tr:TA):TA:=fun σ H Q=>ta σ H fun x H1=>tr σ H1 fun xs H2=>Q (x :: xs) H2
section
variable {X:Cx} {e:Expr} {es:List Expr} {te:TE} {t:TA} {pos:Pos}
theorem jz:PA X [] tNil:=fun _ _ _ _ H Q I h=>Calls.spliced_nil ⟨[],H,I,.nil,h⟩
theorem dq (ha:PE X e te) (hr:PA X es t) (hs:autoParam (starEach (e :: es) X.env = (false,eval e X.env) :: starEach es X.env) L2.a2_):PA X (e :: es) (de te t):=by
 intro pos pins s σ H Q I h
 rw [hs]
 show wpAny _ _ (spliced ((false,eval e X.env) :: backTo pos (starEach es X.env))) _ _ s
 refine Calls.spliced_cons (thn (ha pins s σ H _ I h) fun u s1 zq=>?_)
 obtain ⟨x,H1,I1,r1,q1⟩:=zq
 exact thn (hr pos pins s1 σ H1 _ I1 q1) fun us s2 ⟨xs,H2,I2,r2,q2⟩=>⟨x :: xs,H2,I2,.cons r1 r2,q2⟩
noncomputable def tTup (t:TA):TE:=fun σ H Q=>t σ H fun xs H1=>xs.length <= sizeLine /\ ∀ p,H1 p = none -> Q (.ref p) (upd H1 p (.tup xs))
noncomputable def tLst (t:TA):TE:=fun σ H Q=>t σ H fun xs H1=>xs.length <= sizeLine /\ ∀ p,H1 p = none -> Q (.ref p) (upd H1 p (.lst xs))
theorem a03 {x1} (h:PA X es t):PE X (.Tuple es x1 pos) (tTup t):=by
 intro pins s σ H Q I hq
 refine wpAny_Tuple_spliced (thn (h pos pins s σ H _ I hq) fun us s1 ⟨xs,H1,I1,r,z,q⟩=>⟨by rw [<- r.length]; exact z,?_⟩)
 have hf:H1 s1.heap.objs.size = none:=I1.hok.fresh (Nat.le_refl _)
 refine ⟨.ref s1.heap.objs.size,upd H1 s1.heap.objs.size (.tup xs),I1.laid (t':=s1.toks) (fun b u e=>Heap.get?_push_of_some _ e) (Nat.le_refl _) ?_,rfl,q _ hf⟩
 exact ⟨z,us,r,⟨_,Heap.get?_push_size _ rfl,rfl,_,rfl⟩⟩
theorem tj (h:PA X es t):PE X (.List es pos) (tLst t):=by
 intro pins s σ H Q I hq
 refine wpAny_List_spliced (thn (h pos pins s σ H _ I hq) fun us s1 ⟨xs,H1,I1,r,z,q⟩=>⟨by rw [<- r.length]; exact z,?_⟩)
 have hf:H1 s1.heap.objs.size = none:=I1.hok.fresh (Nat.le_refl _)
 refine ⟨.ref s1.heap.objs.size,upd H1 s1.heap.objs.size (.lst xs),I1.laid (t':=s1.toks) (fun b u e=>Heap.get?_push_of_some _ e) (Nat.le_refl _) ?_,rfl,q _ hf⟩
 exact ⟨z,us,0,r,Heap.get?_push_size _ rfl⟩
end
abbrev Sp:=List V -> Hp -> VK -> XK -> Prop
abbrev CXT:=List Env -> Hp -> Shared -> XK -> Value -> Shared -> Prop
structure Env0 (P:Program) (w:World) (K:PySem.W.Frag) (mg:Str -> Option Value) (base:Heap) (A:Around) (outer:List Env) (s:Shared) (H:Hp):Prop where
 frames:A.frames = some outer
 mod:Mod K mg base
 bs:∀ b o,base.get? b = some o -> s.heap.get? b = some o /\ H b = none
 bsz:base.objs.size <= s.heap.objs.size
 funs:s.heap.FunFrames base outer
 frf:∀ b ∈ frs outer,H b = none
 hok:HOk P w H s.heap
 bare:AllBare s.gens
noncomputable def CE (outer:List Env) (P:Program) (w:World) (H:Hp) (s:Shared) (Q:VK) (u:Value) (s':Shared):Prop :=
 ∃ v H',s'.os = s.os /\ AllBare s'.gens /\ Un (frs outer) [] H H' s.heap s'.heap /\ HOk P w H' s'.heap /\ RelV v u /\ Q v H'
noncomputable def CR (CX:CXT) (outer:List Env) (P:Program) (w:World) (H:Hp) (s:Shared) (Q:VK) (E:XK) (r:Result) (s':Shared):Prop :=
 match r with
 | .ok (.ret u)=>CE outer P w H s Q u s'
 | .ok _=>False
 | .error e=>CX outer H s E e s'
structure FnOk (P:Program) (w:World) (K:PySem.W.Frag) (mg:Str -> Option Value) (base:Heap) (CX:CXT) (k:Nat) (f:Addr) (fd:FuncData) (ps:List Str) (sp:Sp):Prop where
 len:∀ vs H Q E,sp vs H Q E -> vs.length = ps.length
 run:∀ (A:Around) (outer:List Env) (s:Shared) (H:Hp) (args:Args) (us:List Value) (vs:List V) (Q:VK) (E:XK),Room k A -> Env0 P w K mg base A outer s H -> BindsTo s fd args (ps.zip us) -> Vals vs us -> sp vs H Q E ->
   codeAny (model P w) A (.call (.ref f) args) (CR CX outer P w H s Q E) s
theorem Env0.make {P:Program} {w:World} {K:PySem.W.Frag} {mg:Str -> Option Value} {base:Heap} {A:Around} {outer:List Env} {s:Shared} {H:Hp} (e:Env0 P w K mg base A outer s H) (C:Addr) (us:List Value) (kw:List (Str × Value)) :
   Env0 P w K mg base (A.under (.builtin "type.__call__" ⟨.ref C :: us,kw⟩)) outer s H:=⟨by first | exact e.frames | (simpa [Around.under,Code.envs,Code.isFrame,pushEnvs] using e.frames),e.mod,e.bs,e.bsz,e.funs,e.frf,e.hok,e.bare⟩
section
variable {X:Cx} {pins:List (Addr × Obj)} {σ:St} {H:Hp} {s s':Shared}
theorem Inv.env0 (I:Inv X pins σ H s):Env0 X.prog X.w X.K X.mg X.base X.A X.stack s H :=
 ⟨I.ok.frames,I.ok.mod,I.bs,Nat.le_trans I.ok.bsz I.sz,I.stack,I.stkFree,I.hok,I.bare⟩
theorem Inv.after {Q:VK} {u:Value} (I:Inv X pins σ H s) (h:CE X.stack X.prog X.w H s Q u s'):EP X pins σ Q u s':=by
 obtain ⟨v,H',os,bare,un,hok,r,q⟩:=h
 obtain ⟨hh,g,d,t,os'⟩:=s'
 obtain rfl:os' = s.os:=os
 exact ⟨v,H',I.call (h':=hh) (g':=g) (d':=d) (t':=t) (ch:=[]) un hok bare (fun b z=>absurd z (by simp)),r,q⟩
end
noncomputable def a4z (sp:Sp) (dvs:List V) (E:XK) (t:TA):TE:=fun σ H Q=>t σ H fun vs H1=>sp (vs ++ dvs) H1 Q E
noncomputable def r4 (C:Addr) (m:Str) (sp:Sp) (dvs:List V) (E:XK) (ta:TE) (t:TA):TE:=fun σ H Q=>ta σ H fun x H1 => ∃ a dx fs,x = .ref a /\ H1 a = some (.ins C dx fs) /\ fs.lookup m = none /\
 t σ H1 fun vs H2=>sp (x :: (vs ++ dvs)) H2 Q E
noncomputable def a53 (C:Addr) (sp:Sp) (dvs:List V) (E:XK) (t:TA):TE:=fun σ H Q=>t σ H fun vs H1 => ∀ x dx,H1 x = none -> H1 dx = none -> dx ≠ x ->
 sp (.ref x :: (vs ++ dvs)) (upd (upd H1 dx (.own x)) x (.ins C dx [])) (fun v H2=>v = .non /\ Q (.ref x) H2) E
noncomputable def Binds (K:PySem.W.Frag) (fd:FuncData) (ps:List Str) (ds:List Value):Prop :=
 ∀ (s:Shared) (us:List Value),K.In s.heap -> (us ++ ds).length = ps.length -> BindsTo s fd ⟨us,[]⟩ (ps.zip (us ++ ds))
theorem Binds.all {K:PySem.W.Frag} {fd:FuncData} {ps:List Str} (h:∀ us:List Value,us.length = ps.length -> bindArgs fd ⟨us,[]⟩ = pure (ps.zip us)):Binds K fd ps []:=fun s us _ hl=>by
 rw [List.append_nil] at hl |-
 exact .of_eq (h us hl)
noncomputable def fh (CX:CXT) (X:Cx) (E:XK):Prop := ∀ (pins:List (Addr × Obj)) (σ:St) (H:Hp) (s:Shared) (e:Value) (s':Shared),Inv X pins σ H s -> CX X.stack H s E e s' -> X.xe e s'
section
variable {X:Cx} {CX:CXT} {k:Nat} {f C:Addr} {fd:FuncData} {ps:List Str} {sp:Sp} {dvs:List V} {ds:List Value} {E:XK} {x m:Str} {p pos apos:Pos} {e o:Expr} {es:List Expr} {ta:TE} {t:TA}
theorem t0 {pins:List (Addr × Obj)} {σ:St} {H:Hp} {s:Shared} {Q:VK} {us:List Value} {vs:List V} (F:FnOk X.prog X.w X.K X.mg X.base CX k f fd ps sp) (hr:Room k X.A) (hb:Binds X.K fd ps ds) (hd:Vals dvs ds) (hx:fh CX X E)
   (I:Inv X pins σ H s) (r:Vals vs us) (h:sp (vs ++ dvs) H Q E):wpAny (model X.prog X.w) X.A (call (.ref f) us) (EP X pins σ Q) X.xe s:=by
 have r2:Vals (vs ++ dvs) (us ++ ds):=r.append hd
 have hl:(us ++ ds).length = ps.length:=by rw [<- r2.length]; exact F.len _ _ _ _ h
 refine wpAny_call (codeAny_mono (F.run X.A X.stack s H ⟨us,[]⟩ (us ++ ds) (vs ++ dvs) Q E hr I.env0 (hb s us I.kIn hl) r2 h) fun r s' hq=>?_)
 cases r with
 | error e=>exact hx pins σ H s e s' I hq
 | ok fl =>
   cases fl with
   | ret u=>exact I.after hq
   | next=>exact False.elim hq
   | brk=>exact False.elim hq
   | cont=>exact False.elim hq
theorem a5b (F:FnOk X.prog X.w X.K X.mg X.base CX k f fd ps sp) (hr:Room k X.A) (hg:Gl X x) (hm:X.mg x = some (.ref f)) (hk:PySem.W.keepIn X.K (.ref f) = true) (hb:Binds X.K fd ps ds) (hd:Vals dvs ds) (hx:fh CX X E)
   (ha:PA X (e :: es) t) (hdb:autoParam ((x == ("__debug__" : Str)) = false) L2.a1_) (he:autoParam (starEach (e :: es) X.env = (false,eval e X.env) :: starEach es X.env) L2.a2_) (hpl:autoParam ((backTo pos (starEach es X.env)).any (·.1) = false) L2.a2_) :
   PE X (.Call (.Name x p) (e :: es) [] pos) (a4z sp dvs E t):=by
 intro pins s σ H Q I h
 refine wpAny_Call_Name_kw (oi I hg hm ?_ hdb)
 refine PySem.W.callWith_K (h₀:=X.base) I.ok.mod.kin hk (thn (ha pos pins s σ H _ I h) fun us s1 ⟨vs,H1,I1,r,q⟩=>⟨I1.kIn,?_⟩) he hpl
 exact t0 F hr hb hd hx I1 r q
theorem a55 {pl:Sem Bool} (he:PE X o ta) (c:Cls X.K C) (hm:Meth X.K C m f) (F:FnOk X.prog X.w X.K X.mg X.base CX k f fd ps sp) (hr:Room k X.A) (hb:Binds X.K fd ps ds) (hd:Vals dvs ds) (hx:fh CX X E) (ha:PA X (e :: es) t)
   (hst:autoParam (starEach (e :: es) X.env = (false,eval e X.env) :: starEach es X.env) L2.a2_) (hpl:autoParam ((backTo pos (starEach es X.env)).any (·.1) = false) L2.a2_)
   (ht:autoParam (eval (.Call (.Attribute o m apos) (e :: es) [] pos) X.env = (do
     let ov <- eval o X.env
     standAt apos.atName
     let (f,first) <- holding [ov] (getMethod ov m pl)
     callWith pos f first (backTo pos (starEach (e :: es) X.env)) (backToKw pos (keywordEach [] X.env)))) L2.a2_) :
   PE X (.Call (.Attribute o m apos) (e :: es) [] pos) (r4 C m sp dvs E ta t):=by
 intro pins s σ H Q I h
 refine PySem.W.methodCall_KW (pl:=pl) (thn (he pins s σ H _ I h) fun u s1 ⟨x,H1,I1,rx,a,dx,fs,ex,ea,l,q⟩=>?_) ht
 subst ex
 obtain rfl:u = Value.ref a:=rx
 refine nq I1 ea c hm l ?_
 refine PySem.W.callWith_K (first:=[.ref a]) (h₀:=X.base) I.ok.mod.kin hm.kp (thn (ha pos pins s1 σ H1 _ I1 q) fun us s2 ⟨vs,H2,I2,r,q2⟩=>⟨I2.kIn,?_⟩) hst hpl
 exact t0 (us := .ref a :: us) (vs := .ref a :: vs) F hr hb hd hx I2 (.cons rfl r) q2
theorem a48 {pl:Sem Bool} (he:PE X o ta) (c:Cls X.K C) (hm:Meth X.K C m f) (F:FnOk X.prog X.w X.K X.mg X.base CX k f fd ps sp) (hr:Room k X.A) (hb:Binds X.K fd ps ds) (hd:Vals dvs ds) (hx:fh CX X E)
   (ht:autoParam (eval (.Call (.Attribute o m apos) [] [] pos) X.env = (do
     let ov <- eval o X.env
     standAt apos.atName
     let (f,first) <- holding [ov] (getMethod ov m pl)
     callWith pos f first (backTo pos (starEach [] X.env)) (backToKw pos (keywordEach [] X.env)))) L2.a2_) :
   PE X (.Call (.Attribute o m apos) [] [] pos) (r4 C m sp dvs E ta tNil):=by
 intro pins s σ H Q I h
 refine PySem.W.methodCall_KW (pl:=pl) (thn (he pins s σ H _ I h) fun u s1 ⟨x,H1,I1,rx,a,dx,fs,ex,ea,l,q⟩=>?_) ht
 subst ex
 obtain rfl:u = Value.ref a:=rx
 refine nq I1 ea c hm l ?_
 exact PySem.W.callWith_K0 (first:=[.ref a]) I1.kIn hm.kp (t0 (us:=[.ref a]) (vs:=[.ref a]) F hr hb hd hx I1 (.cons rfl .nil) q)
structure Mk (K:PySem.W.Frag) (C f:Addr):Prop where
 makes:PySem.W.makesIn K C = true
 init:PySem.W.findIn K (.ref C) "__init__" = some (some (.ref f))
 fn:PySem.W.isFn K (.ref f) = true
 kp:PySem.W.keepIn K (.ref C) = true
theorem a3d {pins:List (Addr × Obj)} {σ:St} {H:Hp} {s:Shared} {Q:VK} {us:List Value} {vs:List V} (M:Mk X.K C f) (F:FnOk X.prog X.w X.K X.mg X.base CX k f fd ps sp) (hr:Room (k + 1) X.A) (hb:Binds X.K fd ps ds) (hd:Vals dvs ds)
   (hx:fh CX X E) (I:Inv X pins σ H s) (r:Vals vs us)
   (h:∀ x dx,H x = none -> H dx = none -> dx ≠ x -> sp (.ref x :: (vs ++ dvs)) (upd (upd H dx (.own x)) x (.ins C dx [])) (fun v H2=>v = .non /\ Q (.ref x) H2) E) :
   wpAny (model X.prog X.w) X.A (call (.ref C) us) (EP X pins σ Q) X.xe s:=by
 have hq:=h (s.heap.objs.size + 1) s.heap.objs.size (I.hok.fresh (Nat.le_succ _)) (I.hok.fresh (Nat.le_refl _)) (Nat.ne_of_lt (Nat.lt_succ_self _))
 have I2:=Inv.made (C:=C) I
 have r2:Vals (V.ref (s.heap.objs.size + 1) :: (vs ++ dvs)) (Value.ref (s.heap.objs.size + 1) :: (us ++ ds)) := .cons rfl (r.append hd)
 have hl:(Value.ref (s.heap.objs.size + 1) :: us ++ ds).length = ps.length:=by
   have e:=r2.length
   rw [F.len _ _ _ _ hq] at e
   exact e.symm
 refine wpAny_call (a45 (f:=f) I.kIn M.makes M.init (beq_iff_eq.mp M.fn) (codeAny_mono (F.run _ X.stack _ _ ⟨Value.ref (s.heap.objs.size + 1) :: us,[]⟩ (Value.ref (s.heap.objs.size + 1) :: (us ++ ds)) _ _ E (hr.make C us [])
   (I2.env0.make C us []) (hb _ (Value.ref (s.heap.objs.size + 1) :: us) I2.kIn hl) r2 hq) fun r s' hq'=>?_))
 cases r with
 | error e=>exact hx pins σ _ _ e s' I2 hq'
 | ok fl =>
   cases fl with
   | ret u =>
     obtain ⟨v,H',I3,rv,ev,q3⟩:=I2.after hq'
     subst ev
     exact ⟨rv,⟨V.ref (s.heap.objs.size + 1),H',I3,rfl,q3⟩⟩
   | next=>exact False.elim hq'
   | brk=>exact False.elim hq'
   | cont=>exact False.elim hq'
theorem a5a (M:Mk X.K C f) (F:FnOk X.prog X.w X.K X.mg X.base CX k f fd ps sp) (hr:Room (k + 1) X.A) (hg:Gl X x) (hm:X.mg x = some (.ref C)) (hb:Binds X.K fd ps ds) (hd:Vals dvs ds) (hx:fh CX X E)
   (ha:PA X (e :: es) t) (hdb:autoParam ((x == ("__debug__" : Str)) = false) L2.a1_) (he:autoParam (starEach (e :: es) X.env = (false,eval e X.env) :: starEach es X.env) L2.a2_) (hpl:autoParam ((backTo pos (starEach es X.env)).any (·.1) = false) L2.a2_) :
   PE X (.Call (.Name x p) (e :: es) [] pos) (a53 C sp dvs E t):=by
 intro pins s σ H Q I h
 refine wpAny_Call_Name_kw (oi I hg hm ?_ hdb)
 refine PySem.W.callWith_K (h₀:=X.base) I.ok.mod.kin M.kp (thn (ha pos pins s σ H _ I h) fun us s1 ⟨vs,H1,I1,r,q⟩=>⟨I1.kIn,?_⟩) he hpl
 exact a3d M F hr hb hd hx I1 r q
end
section
variable {X:Cx} {CX:CXT} {k:Nat} {f C:Addr} {fd:FuncData} {ps ks:List Str} {sp:Sp} {E:XK} {x m:Str} {p pos apos kpos:Pos} {e o:Expr} {es:List Expr} {kws:List Keyword} {te ta:TE} {t tk:TA} {nm:Option Str}
variable {g:List Value -> List Value -> List Value} {gV:List V -> List V -> List V}
end
structure FnScope (N P:List Str) (sc:Scope):Prop where
 kind:sc.kind = .function
 co:sc.isCoroutine = false
 gen:sc.isGenerator = false
 nd:N.Nodup
 pre:N.take P.length = P
 par:∀ x ∈ P,sc.names.lookup x = some .local \/ sc.names.lookup x = some .cell
 nofree:∀ y ∈ sc.names,y.2 ≠ .free
theorem qi {kindOf:Str -> Option NameKind} {x:Str}:∀ {binds:List (Str × Value)} {m:Str -> Option Value},(∀ v,(x,v) ∉ binds) -> bindL kindOf binds m x = m x
 | [],_,_=>rfl
 | (n,v) :: r,m,h=>by
   unfold bindL
   rw [qi fun w hw=>h w (List.mem_cons_of_mem _ hw)]
   split
   . have:x ≠ n:=by rintro rfl; exact h v List.mem_cons_self
     simp [this]
   . rfl
theorem q5 {kindOf:Str -> Option NameKind} {x:Str}:∀ {binds:List (Str × Value)} {m:Str -> Option Value},(∀ v,(x,v) ∉ binds) -> bindC kindOf binds m x = m x
 | [],_,_=>rfl
 | (n,v) :: r,m,h=>by
   unfold bindC
   rw [q5 fun w hw=>h w (List.mem_cons_of_mem _ hw)]
   split
   . rfl
   . have:x ≠ n:=by rintro rfl; exact h v List.mem_cons_self
     simp [this]
theorem ph {kindOf:Str -> Option NameKind} {x:Str} {v:Value}:∀ {P:List Str} {vs:List Value} {i:Nat} {m:Str -> Option Value},P.Nodup -> P[i]? = some x -> vs[i]? = some v -> kindOf x = some .local ->
   bindL kindOf (P.zip vs) m x = some v
 | [],_,_,_,_,h,_,_=>by simp at h
 | _ :: _,[],_,_,_,_,h,_=>by simp at h
 | p :: P,w :: vs,0,m,nd,h1,h2,hk=>by
   simp at h1 h2; subst h1; subst h2
   show bindL kindOf ((p,w) :: P.zip vs) m p = _
   unfold bindL
   rw [qi fun v hv=>(List.nodup_cons.mp nd).1 (List.of_mem_zip hv).1,if_pos hk]
   simp
 | p :: P,w :: vs,i + 1,m,nd,h1,h2,hk=>by
   show bindL kindOf ((p,w) :: P.zip vs) m x = _
   unfold bindL
   exact ph (i:=i) (List.nodup_cons.mp nd).2 (by simpa using h1) (by simpa using h2) hk
theorem qp {kindOf:Str -> Option NameKind} {x:Str} {v:Value}:∀ {P:List Str} {vs:List Value} {i:Nat} {m:Str -> Option Value},P.Nodup -> P[i]? = some x -> vs[i]? = some v -> kindOf x ≠ some .local ->
   bindC kindOf (P.zip vs) m x = some v
 | [],_,_,_,_,h,_,_=>by simp at h
 | _ :: _,[],_,_,_,_,h,_=>by simp at h
 | p :: P,w :: vs,0,m,nd,h1,h2,hk=>by
   simp at h1 h2; subst h1; subst h2
   show bindC kindOf ((p,w) :: P.zip vs) m p = _
   unfold bindC
   rw [q5 fun v hv=>(List.nodup_cons.mp nd).1 (List.of_mem_zip hv).1,if_neg hk]
   simp
 | p :: P,w :: vs,i + 1,m,nd,h1,h2,hk=>by
   show bindC kindOf ((p,w) :: P.zip vs) m x = _
   unfold bindC
   exact qp (i:=i) (List.nodup_cons.mp nd).2 (by simpa using h1) (by simpa using h2) hk
noncomputable def start (N:List Str) (vs:List V):St:=vs.map some ++ List.replicate (N.length - vs.length) none
noncomputable def cxOf (CX:CXT) (P:Program) (w:World) (K:PySem.W.Frag) (mg:Str -> Option Value) (base:Heap) (N:List Str) (qual:Str) (scope:Scope) (f:Addr) (cd:Value) (A:Around) (outer:List Env) (s:Shared) (H:Hp) (E:XK):Cx where
 prog:=P
 w:=w
 K:=K
 mg:=mg
 base:=base
 A:=A.deeper (envOfC qual scope s.heap.objs.size f cd)
 N:=N
 s₀:=s
 H₀:=H
 env:=envOfC qual scope s.heap.objs.size f cd
 outer:=outer
 stack:=envOfC qual scope s.heap.objs.size f cd :: outer
 ex:=[]
 calm:=true
 fn:=fun _=>true
 pn:=[]
 xe:=fun e s'=>wpAny (model P w) (A.deeper (envOfC qual scope s.heap.objs.size f cd)) (leaving (envOfC qual scope s.heap.objs.size f cd) e) (fun _ s''=>CX outer H s E e s'') (fun e' s''=>CX outer H s E e' s'') s'
theorem uy {sc:Scope} {n:Nat} {x:Str} (h:sc.names.lookup x = some .cell):∃ c,(cellsFrom n sc.names []).lookup x = some c:=by
 have q:=PySem.W.cellsFrom_some sc.names n [] (.inl h)
 exact Option.isSome_iff_exists.mp q
theorem a1g {CX:CXT} {P:Program} {w:World} {K:PySem.W.Frag} {mg:Str -> Option Value} {base:Heap} {N ps:List Str} {qual:Str} {scope:Scope} {f:Addr} {cd:Value} {A:Around} {outer:List Env} {s s1:Shared} {H:Hp} {E:XK} {us:List Value} {vs:List V}
   (S:FnScope N ps scope) (hd:A.handled = none) (e0:Env0 P w K mg base A outer s H) (hl:vs.length = ps.length) (r:Vals vs us)
   (x:InCallC s s.heap.objs.size (bindL (envOfC qual scope s.heap.objs.size f cd).kindOf (ps.zip us) fun _=>none) (cellsFrom (s.heap.objs.size + 1) scope.names []) (bindC (envOfC qual scope s.heap.objs.size f cd).kindOf (ps.zip us) fun _=>none) s1) :
   Inv (cxOf CX P w K mg base N qual scope f cd A outer s H E) [] (start N vs) H s1:=by
 have hpl:ps.length <= N.length:=by have:=congrArg List.length S.pre; rw [List.length_take] at this; lia
 obtain ⟨h1,tk,rfl,hk⟩:=x.done
 have noA:∀ b:Addr,b ∉ (cxOf CX P w K mg base N qual scope f cd A outer s H E).ex:=fun b z=>absurd (show b ∈ ([]:List Addr) from z) (by simp)
 refine ⟨⟨e0.mod,S.kind,rfl,rfl,Nat.le_refl _,fun y z c h1 h2=>?_,fun y hy=>?_,fun y c _ h=>?_,fun _=>hd,Around.frames_deeper e0.frames,.inr ⟨rfl,rfl⟩,fun b z=>absurd z (noA b),e0.bs,e0.bsz,fun b _ _=>noA b,fun b z=>absurd z (noA b),e0.funs,e0.frf⟩,
   rfl,e0.bare,Un.kept hk,⟨_,x.toInCall.ns,fun i y v h1 h2 h3=>?_⟩,fun y c h=>⟨_,x.cell y c h⟩,e0.hok.fresh (Nat.le_refl _),fun y c h=>?_,fun p hp=>absurd (show p ∈ ([]:List (Addr × Obj)) from hp) (by simp),e0.hok.kept hk,?_⟩
 . exact name_of_addr x.apart (PySem.mem_of_lookup h1) (PySem.mem_of_lookup h2)
 . have hy:scope.names.lookup y = some .cell \/ scope.names.lookup y = some .free:=hy
   rcases hy with hy | hy
   . exact uy hy
   . exact absurd rfl (S.nofree _ (PySem.mem_of_lookup hy))
 . exact Nat.le_of_lt (x.above y c (PySem.mem_of_lookup h))
 . have hi:i < vs.length:=by
     unfold start at h2
     by_cases hi:i < vs.length
     . exact hi
     . rw [List.getElem?_append_right (by simpa using hi)] at h2
       rw [List.getElem?_replicate] at h2
       split at h2 <;> cases h2
   have ha:vs[i]? = some v:=by
     unfold start at h2
     rw [List.getElem?_append_left (by simpa using hi),List.getElem?_map] at h2
     cases e:vs[i]? with
     | none=>rw [e] at h2; cases h2
     | some a=>rw [e] at h2; cases h2; rfl
   obtain ⟨u,hu,rv⟩:=r.get ha
   have hp:ps[i]? = some y:=by
     rw [<- S.pre,List.getElem?_take_of_lt (by lia)]; exact h1
   have ndP:ps.Nodup:=by rw [<- S.pre]; exact S.nd.sublist (List.take_sublist _ _)
   refine ⟨u,rv,?_⟩
   rcases S.par y (List.mem_of_getElem? hp) with k | k
   . exact .inl ⟨k,ph ndP hp hu k⟩
   . obtain ⟨c,e⟩:=uy (n:=s.heap.objs.size + 1) k
     refine .inr ⟨.inl k,c,e,?_⟩
     have q:=x.cell y c e
     rw [qp ndP hp hu (by show scope.names.lookup y ≠ _; rw [k]; decide)] at q
     exact q
 . exact e0.hok.fresh (Nat.le_of_lt (x.above y c (PySem.mem_of_lookup h)))
 . unfold start
   show _ = N.length
   rw [List.length_append,List.length_map,List.length_replicate]
   lia
theorem a8w {CX:CXT} {P:Program} {w:World} {K:PySem.W.Frag} {mg:Str -> Option Value} {base:Heap} {k:Nat} {f:Addr} {name qual:Str} {params:Arguments} {body:List Stmt} {scope:Scope} {dV kV doc pm cdv ct oc:Value} {an od:Option Addr}
   {osl:Array (Option Value)} {N ps:List Str} {sp:Sp} (lk:K.lookup f = some ⟨oc,od,.func (PySem.W.fnOf name qual params body scope dV kV doc pm an cdv ct),osl⟩) (hcd:PySem.W.codeIn K cdv qual = true) (S:FnScope N ps scope)
   (len:∀ vs H Q E,sp vs H Q E -> vs.length = ps.length)
   (hbody:∀ (A:Around) (outer:List Env) (s:Shared) (H:Hp) (vs:List V) (Q:VK) (E:XK),Room k (A.deeper (envOfC qual scope s.heap.objs.size f cdv)) -> sp vs H Q E ->
     ∃ t,PSs (cxOf CX P w K mg base N qual scope f cdv A outer s H E) body t /\ t { nx:=fun _ H'=>Q .non H',rt:=Q } (start N vs) H) :
   FnOk P w K mg base CX (k + 1) f (PySem.W.fnOf name qual params body scope dV kV doc pm an cdv ct) ps sp:=by
 refine ⟨len,fun A outer s H args us vs Q E hr e0 hb r hsp=>?_⟩
 have hl:=len _ _ _ _ hsp
 have KX:K.In s.heap:=e0.mod.kin.keeps fun b o e=>(e0.bs b o e).1
 have lim:s.heap.NoLimit:=e0.mod.nolimit.keeps fun b o e=>(e0.bs b o e).1
 have hkind:∀ y ∈ ps.zip us,scope.names.lookup y.1 = some .local \/ (scope.names.lookup y.1 = some .cell /\ ((cellsFrom (s.heap.objs.size + 1) scope.names []).lookup y.1).isSome = true):=fun ⟨n,v⟩ hy=>by
   rcases S.par n (List.of_mem_zip hy).1 with q | q
   . exact .inl q
   . exact .inr ⟨q,PySem.W.cellsFrom_some _ _ _ (.inl q)⟩
 refine codeAny_call_function hr.depth (KX _ _ lk) rfl S.co S.gen rfl (PySem.W.codeRec_of KX hcd) (hb _ _ _ _ ?_)
 refine wpAny_newFunctionEnv_cells S.kind hkind fun env he s1 x=>?_
 subst he
 refine ⟨lim.keeps x.toInCall.keep,codeAny_func ?_⟩
 obtain ⟨t,ht,hq⟩:=hbody A outer s H vs Q E (hr.deeper _) hsp
 have I:Inv (cxOf CX P w K mg base N qual scope f cdv A outer s H E) [] (start N vs) H s1:=a1g S hr.hd e0 hl r x
 refine wpAny_mono (ht [] s1 (start N vs) H _ I hq) (fun fl s' hs=>?_) fun e s' hs=>hs
 have fin:∀ {σ':St} {H':Hp} {v:V} {u:Value},Inv (cxOf CX P w K mg base N qual scope f cdv A outer s H E) [] σ' H' s' -> RelV v u -> Q v H' -> CE outer P w H s Q u s' :=
   fun {σ' H' v u} J rv q=>⟨v,H',J.os,J.bare,J.base,J.hok,rv,q⟩
 cases fl with
 | ret u =>
   obtain ⟨v,σ',H',J,rv,q⟩:=hs
   exact fin J rv q
 | next =>
   obtain ⟨σ',H',J,q⟩:=hs
   exact fin (v:=V.non) (u:=Value.none) J rfl q
 | brk =>
   obtain ⟨_,_,_,q⟩:=hs
   exact False.elim q
 | cont =>
   obtain ⟨_,_,_,q⟩:=hs
   exact False.elim q
section
variable {X:Cx} {x:Str} {p pos:Pos} {e:Expr} {es:List Expr} {t:TA} {id T:String} {r:List V -> Hp -> VK -> Prop}
noncomputable def tCB (r:List V -> Hp -> VK -> Prop) (t:TA):TE:=fun σ H Q=>t σ H fun vs H1=>r vs H1 Q
theorem sq (hc:bx X (.builtin id) r) (hg:Gl X x) (hm:X.mg x = none) (hv:bootBuiltins x = some (.builtin id)) (ha:PA X (e :: es) t) (hn:autoParam (x ≠ "__name__") L2.a1_) (hdb:autoParam ((x == ("__debug__" : Str)) = false) L2.a1_)
   (he:autoParam (starEach (e :: es) X.env = (false,eval e X.env) :: starEach es X.env) L2.a2_) (hpl:autoParam ((backTo pos (starEach es X.env)).any (·.1) = false) L2.a2_):PE X (.Call (.Name x p) (e :: es) [] pos) (tCB r t):=by
 intro pins s σ H Q I h
 refine wpAny_Call_Name_kw (kj I hg hm hv ?_ hn hdb)
 exact PyProof.Rows.callWith_builtin1 (thn (ha pos pins s σ H _ I h) fun us s1 ⟨vs,H1,I1,r1,q1⟩=>hc pins s1 σ H1 vs us Q I1 r1 q1) he hpl
theorem pk (hc:bx X (.type T) r) (hg:Gl X x) (hm:X.mg x = none) (hv:bootBuiltins x = some (.type T)) (ha:PA X (e :: es) t) (hn:autoParam (x ≠ "__name__") L2.a1_) (hdb:autoParam ((x == ("__debug__" : Str)) = false) L2.a1_)
   (he:autoParam (starEach (e :: es) X.env = (false,eval e X.env) :: starEach es X.env) L2.a2_) (hpl:autoParam ((backTo pos (starEach es X.env)).any (·.1) = false) L2.a2_):PE X (.Call (.Name x p) (e :: es) [] pos) (tCB r t):=by
 intro pins s σ H Q I h
 refine wpAny_Call_Name_kw (kj I hg hm hv ?_ hn hdb)
 exact PyProof.Rows.callWith_type1 (thn (ha pos pins s σ H _ I h) fun us s1 ⟨vs,H1,I1,r1,q1⟩=>hc pins s1 σ H1 vs us Q I1 r1 q1) he hpl
end
end L2
namespace HT
open PySem PyProof.Rows
section
open PySem.SeqAt
open PySem.AutoSeq1 (wpAny_loadPart')
open PySem.MeetsSeq PySem.MeetsSeq2 PySem.MeetsSeq3
end
section
variable {prog:Program} {w:World} {A:Around} {E:Value -> Shared -> Prop} {s:Shared}
noncomputable def sIx (n d:Nat):Option Int -> Nat
 | none=>d
 | some v=>if v < 0 then (v + (n:Int)).toNat else min v.toNat n
theorem sIx_none (n d:Nat):sIx n d none = d:=rfl
theorem sIx_nat (n d k:Nat):sIx n d (some (k:Int)) = min k n:=by
 show (if (k:Int) < 0 then ((k:Int) + (n:Int)).toNat else min (k:Int).toNat n) = min k n
 rw [if_neg (by lia),Int.toNat_natCast]
theorem o6 (n d:Nat) (hd:d <= n) (o:Option Int):sIx n d o <= n:=by
 cases o with
 | none=>exact hd
 | some v =>
   show (if v < 0 then (v + (n:Int)).toNat else min v.toNat n) <= n
   by_cases hv:v < 0
   . rw [if_pos hv]; lia
   . rw [if_neg hv]; exact Nat.min_le_right _ _
theorem vm (v:Int) (n d:Nat):(if v < 0 then max (v + (n:Int)) 0 else min v (n:Int)) = ((sIx n d (some v):Nat):Int):=by
 show (if v < 0 then max (v + (n:Int)) 0 else min v (n:Int)) = (((if v < 0 then (v + (n:Int)).toNat else min v.toNat n):Nat):Int)
 by_cases hv:v < 0
 . simp only [if_pos hv]; lia
 . simp only [if_neg hv]; lia
theorem za (lo hi:Option Int) (n:Nat):Builtin.Slice.sliceAdjust lo hi 1 (n:Int) = (((sIx n 0 lo:Nat):Int),((sIx n n hi:Nat):Int)):=by
 have h1:¬ ((1:Int) < 0):=by lia
 unfold Builtin.Slice.sliceAdjust
 simp only [h1,if_false]
 refine Prod.ext ?_ ?_
 . cases lo with
   | none=>rfl
   | some v=>exact vm v n 0
 . cases hi with
   | none=>rfl
   | some v=>exact vm v n n
theorem xw (i j:Nat):Builtin.Slice.slicePlaces (i:Int) (j:Int) 1 = j - i:=by
 unfold Builtin.Slice.slicePlaces
 have h1:(1:Int) > 0:=by lia
 simp only [h1,if_true,Int.ediv_one]
 split <;> lia
theorem na {v:Value} {o:Option Int} {Q:Option Int -> Shared -> Prop} (p:IsPart v o) (h:Q o s):wpAny (model prog w) A (Builtin.Slice.slicePartIndex v) Q E s:=by
 cases p with
 | none=>exact slicePart_none h
 | int i t=>exact slicePart_int h
theorem mf {sl:Addr} {vl vu:Value} {lo hi:Option Int} {n:Nat} {Q:Int × Int × Nat -> Shared -> Prop} (hs:s.heap.IsSliceOf sl vl vu .none) (pl:IsPart vl lo) (pu:IsPart vu hi)
   (h:Q (((sIx n 0 lo:Nat):Int),1,sIx n n hi - sIx n 0 lo) s):wpAny (model prog w) A (Builtin.Slice.sliceApplied (.ref sl) (pure (n:Int))) Q E s:=by
 obtain ⟨os,hos,hcs,hds⟩:=id hs
 unfold Builtin.Slice.sliceApplied Builtin.Slice.sliceFields
 refine wpAny_bind (wpAny_bind (wpAny_field hos hds (x:=vl) rfl (wpAny_bind (wpAny_field hos hds (x:=vu) rfl (wpAny_bind (wpAny_field hos hds (x := .none) rfl (wpAny_pure ?_)))))))
 refine wpAny_bind (slicePart_none ?_)
 show wpAny _ _ (if ((1:Int) == 0) = true then _ else _) _ _ s
 rw [if_neg (by decide)]
 refine wpAny_bind (na pl (wpAny_bind (na pu (wpAny_bind (wpAny_pure ?_)))))
 show wpAny _ _ (match Builtin.Slice.sliceAdjust lo hi 1 (n:Int) with | (lo,hi)=>pure (lo,(1:Int),Builtin.Slice.slicePlaces lo hi 1)) _ _ s
 rw [za lo hi n]
 show wpAny _ _ (pure (((sIx n 0 lo:Nat):Int),(1:Int),Builtin.Slice.slicePlaces ((sIx n 0 lo:Nat):Int) ((sIx n n hi:Nat):Int) 1)) _ _ s
 rw [xw]
 exact wpAny_pure h
theorem a2b (xs:Array Value) (i k:Nat):((List.range k).filterMap fun (m:Nat)=>xs[((i:Int) + (m:Int) * 1).toNat]?).toArray = ((xs.toList.drop i).take k).toArray:=by
 have e:(fun (m:Nat)=>xs[((i:Int) + (m:Int) * 1).toNat]?) = fun m=>xs[i + m]?:=by
   funext m
   have:((i:Int) + (m:Int) * 1).toNat = i + m:=by lia
   rw [this]
 rw [e]
 have:=pick_run xs i k
 rw [List.filterMap_map] at this
 have e2:((fun x=>xs[x]?) ∘ fun x=>i + x) = fun m=>xs[i + m]?:=rfl
 rw [e2] at this
 rw [this]
theorem getItem_tuple_cut {t sl:Addr} {items:Array Value} {vl vu:Value} {lo hi:Option Int} {Q:Value -> Shared -> Prop} (ht:IsTup s.heap t items) (hs:s.heap.IsSliceOf sl vl vu .none) (pl:IsPart vl lo) (pu:IsPart vu hi)
   (hw:¬ (sIx items.size 0 lo = 0 /\ sIx items.size items.size hi = items.size))
   (h:Q (.ref s.heap.objs.size) { s with heap:=s.heap.push { cls := .type "tuple",data := .seq ((items.toList.drop (sIx items.size 0 lo)).take (sIx items.size items.size hi - sIx items.size 0 lo)).toArray } })
   (hsz:items.size <= sizeLine):wpAny (model prog w) A (getItem (.ref t) (.ref sl)) Q E s:=by
 have htake:sizeOk (.seq ((items.toList.drop (sIx items.size 0 lo)).take (sIx items.size items.size hi - sIx items.size 0 lo)).toArray):=by
   show ((items.toList.drop (sIx items.size 0 lo)).take (sIx items.size items.size hi - sIx items.size 0 lo)).toArray.size <= sizeLine
   rw [List.size_toArray,List.length_take,List.length_drop,Array.length_toList]
   omega
 have hj:sIx items.size items.size hi <= items.size:=o6 _ _ (Nat.le_refl _) hi
 obtain ⟨os,hos,hcs,hds⟩:=id hs
 have hTs:s.TypeIs (.ref sl) "slice" := ⟨os,hos,hcs⟩
 unfold getItem
 try with_reducible refine wpAny_holding ?_
 first | refine wpAny_bind (wpAny_pure ?_) | skip
 refine wpAny_bind (wpAny_sequenceKey ht.typeIs (by decide) ?_)
 refine wpAny_bind (wpAny_callSpecial?_slot (name:=Str.ofString "__getitem__") ht.typeIs PyProof.Rows.slot_tuple_getitem
   (wpAny_call_entry PyProof.Rows.slot_tuple_getitem ht.typeIs entry_tuple_getitem ?_ (args_tuple_getitem _ _)))
 show wpAny _ _ (Builtin.Tuple.tupleItemsOf (.ref t) >>= _) _ _ s
 refine wpAny_bind (tupleItemsOf_ ht ?_)
 refine wpAny_bind (wpAny_typeOf hTs ?_)
 rw [if_pos (by decide)]
 refine wpAny_bind (mf hs pl pu ?_)
 have hno:¬ ((((sIx items.size 0 lo:Nat):Int) == 0 && (1:Int) == 1 && (sIx items.size items.size hi - sIx items.size 0 lo) == items.size) = true):=by
   intro q
   rw [Bool.and_eq_true,Bool.and_eq_true] at q
   have q1:((sIx items.size 0 lo:Nat):Int) = 0:=eq_of_beq q.1.1
   have q2:sIx items.size items.size hi - sIx items.size 0 lo = items.size:=eq_of_beq q.2
   exact hw ⟨by omega,by omega⟩
 show wpAny _ _ (if (((sIx items.size 0 lo:Nat):Int) == 0 && (1:Int) == 1 && (sIx items.size items.size hi - sIx items.size 0 lo) == items.size) = true then _ else _) _ _ s
 rw [if_neg hno,a2b]
 first
   | exact wpAny_bind (m:=Builtin.Tuple.tupleExact _) (wpAny_newObj_type (wpAny_pure ⟨_,rfl,wpAny_pure h⟩) htake)
   | exact wpAny_bind (m:=Builtin.Tuple.tupleExact _) (wpAny_newObj_type (wpAny_bind (wpAny_pure (wpAny_pure ⟨_,rfl,wpAny_pure h⟩))) htake)
   | exact wpAny_bind (wpAny_bind (m:=Builtin.Tuple.tupleExact _) (wpAny_newObj_type (wpAny_pure (wpAny_pure ⟨_,rfl,wpAny_pure h⟩)) htake))
   | exact wpAny_bind (wpAny_bind (m:=Builtin.Tuple.tupleExact _) (wpAny_newObj_type (wpAny_pure ⟨_,rfl,wpAny_pure h⟩) htake))
end
end HT
namespace L2
open PySem PySem.Spec PyProof.Rows
abbrev TO:=St -> Hp -> (Option Int -> Hp -> Prop) -> Prop
noncomputable def PO (X:Cx) (e:Option Expr) (t:TO):Prop :=
 ∀ (pins:List (Addr × Obj)) (s:Shared) (σ:St) (H:Hp) (Q:Option Int -> Hp -> Prop),Inv X pins σ H s -> t σ H Q ->
   wpAny (model X.prog X.w) X.A (evalPart e X.env) (fun u s' => ∃ o H',Inv X pins σ H' s' /\ IsPart u o /\ Q o H') X.xe s
noncomputable def vg:TO:=fun _ H Q=>Q none H
inductive tPartS (x:V) (H1:Hp) (Q:Option Int -> Hp -> Prop):Prop
 | mk (i:Int) (h0:x = .int i) (h1:Q (some i) H1):tPartS x H1 Q
noncomputable def a4q (t:TE):TO:=fun σ H Q=>t σ H fun x H1=>tPartS x H1 Q
theorem yr {ns:List Int}:∀ {us:List Value},Vals (ns.map V.int) us -> IntsAre us ns:=by
 induction ns with
 | nil=>intro us r; rw [List.map_nil] at r; cases r; exact .nil
 | cons n ns ih =>
   intro us r
   rw [List.map_cons] at r
   cases r with
   | cons r1 r2 =>
     obtain ⟨t,e⟩:=r1
     subst e
     exact .cons n t (ih r2)
section
variable {X:Cx} {e:Expr} {te:TE} {lo hi:Option Expr} {tl th:TO} {pos p2:Pos}
theorem vk:PO X none vg:=by
 intro pins s σ H Q I h
 rw [evalPart_none]
 exact wpAny_pure ⟨none,H,I,.none,h⟩
theorem ww (h:PE X e te):PO X (some e) (a4q te):=by
 intro pins s σ H Q I hw
 rw [evalPart_some]
 refine thn (h pins s σ H _ I hw) fun u s1 zq=>?_
 obtain ⟨x,H1,I1,r1,q1⟩:=zq
 obtain ⟨i,rfl,q⟩:=q1
 obtain ⟨t,rfl⟩:=r1
 exact ⟨some i,H1,I1,.int i t,q⟩
noncomputable def SlR (X:Cx) (r:V -> Option Int -> Option Int -> Hp -> VK -> Prop):Prop :=
 ∀ (pins:List (Addr × Obj)) (s:Shared) (σ:St) (H:Hp) (x:V) (v vl vu:Value) (lo hi:Option Int) (sl:Addr) (Q:VK),Inv X pins σ H s -> RelV x v -> s.heap.IsSliceOf sl vl vu .none -> IsPart vl lo -> IsPart vu hi -> r x lo hi H Q ->
   ∃ T id,typeLookup (.type T) "__getitem__" = pure (some (.builtin id)) /\ s.TypeIs v T /\ wpAny (model X.prog X.w) X.A (getItem v (.ref sl)) (EP X pins σ Q) X.xe s
noncomputable def tSl (r:V -> Option Int -> Option Int -> Hp -> VK -> Prop) (te:TE) (tl th:TO):TE:=fun σ H Q=>te σ H fun x H1=>tl σ H1 fun l H2=>th σ H2 fun u H3=>r x l u H3 Q
theorem ub {r:V -> Option Int -> Option Int -> Hp -> VK -> Prop} (hr:SlR X r) (he:PE X e te) (hl:PO X lo tl) (hu:PO X hi th):PE X (.Subscript e (.Slice lo hi none p2) pos) (tSl r te tl th):=by
 intro pins s σ H Q I h
 refine Subscript_ (thn (he pins s σ H _ I h) fun v s1 zq=>?_)
 obtain ⟨x,H1,I1,r1,q1⟩:=zq
 refine wpAny_Slice (thn (hl pins s1 σ H1 _ I1 q1) fun vl s2 ⟨l,H2,I2,pl,q2⟩=>thn (hu pins s2 σ H2 _ I2 q2) fun vu s3 zq=>?_)
 obtain ⟨u,H3,I3,pu,q3⟩:=zq
 rw [evalPart_none]
 refine wpAny_pure ?_
 have I4:Inv X pins σ H3 { s3 with heap:=s3.heap.push { cls := .type "slice",data := .fields #[vl,vu,.none] } }:=I3.kept (t':=s3.toks) fun b ob q=>Heap.get?_push_of_some _ q
 obtain ⟨T,id,hT,ht,hg⟩:=hr pins { s3 with heap:=s3.heap.push { cls := .type "slice",data := .fields #[vl,vu,.none] } } σ H3 x v vl vu l u s3.heap.objs.size Q I4 r1 (Heap.IsSliceOf.new ..) pl pu q3
 show wpAny (model X.prog X.w) X.A (subscriptTail e (.Slice lo hi none p2) v (.ref s3.heap.objs.size)) (EP X pins σ Q) X.xe { s3 with heap:=s3.heap.push { cls := .type "slice",data := .fields #[vl,vu,.none] } }
 exact tail_any (ops:=[.ref s3.heap.objs.size,v]) ht hT hg (by with_unfolding_all rfl)
noncomputable def cutV (xs:List V) (lo hi:Option Int):List V:=(xs.drop (HT.sIx xs.length 0 lo)).take (HT.sIx xs.length xs.length hi - HT.sIx xs.length 0 lo)
theorem le (xs:List V) (lo hi:Option Int):(cutV xs lo hi).length <= xs.length:=by
 unfold cutV
 rw [List.length_take,List.length_drop]
 lia
inductive rSlTS (K:PySem.W.Frag) (x:V) (lo hi:Option Int) (H:Hp) (Q:VK):Prop
 | mk (a:Addr) (xs:List V) (h0:x = .ref a) (h1:SqT K H a xs) (h2:¬ (HT.sIx xs.length 0 lo = 0 /\ HT.sIx xs.length xs.length hi = xs.length)) (h3:∀ p,H p = none -> Q (.ref p) (upd H p (.tup (cutV xs lo hi)))):rSlTS K x lo hi H Q
noncomputable def rSlT (K:PySem.W.Frag):V -> Option Int -> Option Int -> Hp -> VK -> Prop:=fun x lo hi H Q=>rSlTS K x lo hi H Q
theorem a1j:SlR X (rSlT X.K):=by
 intro pins s σ H x v vl vu lo hi sl Q I rx hs pl pu h
 obtain ⟨a,xs,rfl,hx,hw,q⟩:=h
 cases rx
 obtain ⟨its,r,ht,hz⟩:=I.tuple hx
 have hlen:its.toArray.size = xs.length:=by rw [List.size_toArray]; exact r.length.symm
 refine ⟨"tuple",_,PyProof.Rows.slot_tuple_getitem.lookup,ht.typeIs,?_⟩
 refine HT.getItem_tuple_cut ht hs pl pu (by rw [hlen]; exact hw) ?_ (by rw [hlen]; exact hz)
 rw [hlen]
 refine ⟨.ref s.heap.objs.size,_,I.laid (t':=s.toks) (o := .tup (cutV xs lo hi)) (fun b ob q=>Heap.get?_push_of_some _ q) (Nat.le_refl _) ?_,rfl,q _ (I.hok.fresh (Nat.le_refl _))⟩
 exact ⟨Nat.le_trans (le xs lo hi) hz,_,(r.drop (HT.sIx xs.length 0 lo)).take (HT.sIx xs.length xs.length hi - HT.sIx xs.length 0 lo),IsTup.new _ _⟩
end
noncomputable def ixN (n:Nat) (i:Int):Option Nat:=if 0 <= i then (if i < n then some i.toNat else none) else if -(n:Int) <= i then some (i + n).toNat else none
noncomputable def atI {α:Type} (xs:List α) (i:Int):Option α:=(ixN xs.length i).bind fun j=>xs[j]?
theorem vy {n:Nat} {i:Int} {j:Nat} (h:ixN n i = some j):seqIndex? i n = some j /\ j < n /\ -(n:Int) <= i /\ i < n:=by
 unfold ixN at h
 by_cases h0:0 <= i
 . rw [if_pos h0] at h
   by_cases h1:i < n
   . rw [if_pos h1] at h
     have e:i.toNat = j:=Option.some.inj h
     exact ⟨by rw [seqIndex_of h0 h1,e],by lia,by lia,h1⟩
   . rw [if_neg h1] at h; cases h
 . rw [if_neg h0] at h
   by_cases h1 : -(n:Int) <= i
   . rw [if_pos h1] at h
     have e:(i + n).toNat = j:=Option.some.inj h
     exact ⟨by rw [seqIndex_neg (by lia) h1,e],by lia,h1,by lia⟩
   . rw [if_neg h1] at h; cases h
theorem p5 {α:Type} {xs:List α} {i:Int} {v:α} (h:atI xs i = some v):∃ j,seqIndex? i xs.length = some j /\ xs[j]? = some v /\ j < xs.length /\ -(xs.length:Int) <= i /\ i < xs.length:=by
 unfold atI at h
 cases e:ixN xs.length i with
 | none=>rw [e] at h; cases h
 | some j =>
   rw [e] at h
   obtain ⟨h1,h2,h3,h4⟩:=vy e
   exact ⟨j,h1,h,h2,h3,h4⟩
theorem ie {α:Type} {xs:List α} {j:Nat} {v:α} (h:xs[j]? = some v):atI xs (j:Int) = some v:=by
 have hj:j < xs.length:=(List.getElem?_eq_some_iff.mp h).1
 have e:ixN xs.length (j:Int) = some j:=by
   unfold ixN
   rw [if_pos (by lia),if_pos (by lia)]; simp
 unfold atI; rw [e]; exact h
noncomputable def vv (b:Expr):Prop := ∀ o i,subscripted b false o i = operate [o,i] (getItem o i)
noncomputable def IxR (X:Cx) (r:R2):Prop :=
 ∀ (value slice:Expr) (pins:List (Addr × Obj)) (s:Shared) (σ:St) (H:Hp) (x y:V) (v u:Value) (Q:VK),Inv X pins σ H s -> RelV x v -> RelV y u -> r x y H Q ->
   subscripted slice false v u = operate [v,u] (getItem v u) -> wpAny (model X.prog X.w) X.A (subscriptTail value slice v u) (EP X pins σ Q) X.xe s
noncomputable def MtR (X:Cx) (id:String) (r:V -> List V -> Hp -> VK -> Prop):Prop :=
 ∀ (pins:List (Addr × Obj)) (s:Shared) (σ:St) (H:Hp) (x:V) (xs:List V) (v:Value) (us:List Value) (Q:VK),Inv X pins σ H s -> RelV x v -> Vals xs us -> r x xs H Q ->
   wpAny (model X.prog X.w) X.A (call (.builtin id) (v :: us)) (EP X pins σ Q) X.xe s
section
variable {X:Cx} {a b:Expr} {ta tb:TE} {pos:Pos}
theorem zd {r:R2} (hr:IxR X r) (ha:PE X a ta) (hb:PE X b tb) (hs:vv b):PE X (.Subscript a b pos) (tOp r ta tb):=by
 intro pins s σ H Q I h
 exact Subscript_ (binT ha hb I h fun v u s2 x y H2 I2 rx ry q=>hr a b pins s2 σ H2 x y v u Q I2 rx ry q (hs _ _))
inductive rIxLS (K:PySem.W.Frag) (x y:V) (H:Hp) (Q:VK):Prop
 | mk (p:Addr) (xs:List V) (i:Int) (v:V) (h0:x = .ref p) (h1:y = .int i) (h2:SqL K H p xs) (h3:atI xs i = some v) (h4:Q v H):rIxLS K x y H Q
noncomputable def rIxL (K:PySem.W.Frag):R2:=fun x y H Q=>rIxLS K x y H Q
inductive rIxTS (K:PySem.W.Frag) (x y:V) (H:Hp) (Q:VK):Prop
 | mk (p:Addr) (xs:List V) (i:Int) (v:V) (h0:x = .ref p) (h1:y = .int i) (h2:SqT K H p xs) (h3:atI xs i = some v) (h4:Q v H):rIxTS K x y H Q
noncomputable def rIxT (K:PySem.W.Frag):R2:=fun x y H Q=>rIxTS K x y H Q
inductive rIxSS (x y:V) (H:Hp) (Q:VK):Prop
 | mk (z:Str) (i:Int) (c:Nat) (h0:x = .str z) (h1:y = .int i) (h2:z.length <= sizeLine) (h3:atI z.cps.toList i = some c) (h4:Q (.str ⟨#[c]⟩) H):rIxSS x y H Q
noncomputable def rIxS:R2:=fun x y H Q=>rIxSS x y H Q
theorem vx:IxR X (rIxL X.K):=by
 intro value slice pins s σ H x y v u Q I rx ry h hs
 obtain ⟨p,xs,i,z,rfl,rfl,hq,he,q⟩:=h
 cases rx
 obtain ⟨t,rfl⟩:=ry
 obtain ⟨its,r,pl,hz⟩:=I.list hq
 obtain ⟨j,h1,h2,h3,h4,h5⟩:=p5 he
 obtain ⟨w,ew,rw'⟩:=r.get h2
 have hl:=r.length
 have hn:=j9
 have fin:EP X pins σ Q w s:=⟨z,H,I,rw',q⟩
 by_cases h0:0 <= i
 . have hj:i.toNat = j:=by
     rw [seqIndex_of h0 h5] at h1
     exact Option.some.inj h1
   exact item_listR pl.isList h0 (by lia) (by rw [hj]; simpa using ew) fin hs
 . have hj:(i + (its.toArray.size:Int)).toNat = j:=by
     rw [seqIndex_neg (by lia) h4] at h1
     rw [List.size_toArray,<- hl]
     exact Option.some.inj h1
   exact subscriptTail_builtinR (x:=w) pl.isList.typeIs slot_list_getitem.lookup
     (wpAny_getItem_list_neg (Q:=fun r s'=>r = w /\ EP X pins σ Q r s') pl.isList (by lia) (by rw [List.size_toArray] <;> lia) (by lia) (by rw [hj]; simpa using ew) ⟨rfl,fin⟩) hs
theorem ng:IxR X (rIxT X.K):=by
 intro value slice pins s σ H x y v u Q I rx ry h hs
 obtain ⟨p,xs,i,z,rfl,rfl,hq,he,q⟩:=h
 cases rx
 obtain ⟨t,rfl⟩:=ry
 obtain ⟨its,r,pl,hz⟩:=I.tuple hq
 obtain ⟨j,h1,h2,h3,h4,h5⟩:=p5 he
 obtain ⟨w,ew,rw'⟩:=r.get h2
 have hl:=r.length
 have hn:=j9
 have fin:EP X pins σ Q w s:=⟨z,H,I,rw',q⟩
 exact subscriptTail_builtinR (x:=w) pl.typeIs slot_tuple_getitem.lookup
   (getItem_tuple (j:=j) (Q:=fun r s'=>r = w /\ EP X pins σ Q r s') pl (by lia) (by lia) (by rw [List.size_toArray,<- hl]; exact h1) (by simpa using ew) ⟨rfl,fin⟩) hs
theorem my:IxR X rIxS:=by
 intro value slice pins s σ H x y v u Q I rx ry h hs
 obtain ⟨z,i,c,rfl,rfl,hz,he,q⟩:=h
 obtain ⟨t,rfl⟩:=rx
 obtain ⟨t',rfl⟩:=ry
 obtain ⟨j,h1,h2,h3,h4,h5⟩:=p5 he
 have hl:z.cps.toList.length = z.length:=by simp [Str.length]
 rw [hl] at h1 h4 h5
 have hn:=j9
 exact tail_any (typeIs_str s z t) slot_str_getitem.lookup (getItem_str (c:=c) (by
   have e1:decide (i < -(2 ^ 63:Int)) = false:=decide_eq_false (by lia)
   have e2:decide (i >= 2 ^ 63) = false:=decide_eq_false (by lia)
   rw [e1,e2,Bool.or_false]) (by rw [h1]; simpa using h2) ⟨.str ⟨#[c]⟩,H,I.tok _,⟨_,rfl⟩,q⟩) hs
theorem yi (its:List Value) (n j:Nat) (u:Value):Obj.mapSeq (·.setIfInBounds j u) { cls := .type "list",data := .seq its.toArray n } = { cls := .type "list",data := .seq (its.set j u).toArray n }:=by
 simp [Obj.mapSeq]
theorem Inv.lst {pins:List (Addr × Obj)} {σ:St} {H:Hp} {s:Shared} {p:Addr} {xs:List V} (I:Inv X pins σ H s) (h:H p = some (.lst xs)) :
   ∃ (its:List Value) (n:Nat),Vals xs its /\ s.heap.get? p = some { cls := .type "list",data := .seq its.toArray n } /\ xs.length <= sizeLine:=by
 obtain ⟨z,its,n,r,e⟩:=I.hok p _ h
 exact ⟨its,n,r,e,z⟩
theorem Inv.lstUpd {pins:List (Addr × Obj)} {σ:St} {H:Hp} {s:Shared} {p:Addr} {xs ys:List V} {its its':List Value} {n n':Nat} {f:Obj -> Obj} (I:Inv X pins σ H s) (h:H p = some (.lst xs))
   (ho:s.heap.get? p = some { cls := .type "list",data := .seq its.toArray n }) (hf:f { cls := .type "list",data := .seq its.toArray n } = { cls := .type "list",data := .seq its'.toArray n' }) (r:Vals ys its') (hz:ys.length <= sizeLine) (t:Nat) :
   Inv X pins σ (upd H p (.lst ys)) { s with heap:=s.heap.update p f,toks:=t }:=by
 have e:(s.heap.update p f).get? p = some { cls := .type "list",data := .seq its'.toArray n' }:=by
   rw [Heap.get?_update_self f ho (by rw [hf] <;> rfl),hf]
 refine I.write (x:=p) (e:=p) (by rw [h]; trivial) (.inl rfl) (fun b u hb q=>(Heap.get?_update_other _ _ (Ne.symm hb)).trans q) ⟨_,e⟩ ?_
 exact ⟨hz,its',n',r,e⟩
inductive rSetLS (o i v:V) (H:Hp) (Q:Hp -> Prop):Prop
 | mk (p:Addr) (xs:List V) (k:Int) (j:Nat) (h0:o = .ref p) (h1:i = .int k) (h2:H p = some (.lst xs)) (h3:ixN xs.length k = some j) (h4:Q (upd H p (.lst (xs.set j v)))):rSetLS o i v H Q
noncomputable def a8g:V -> V -> V -> Hp -> (Hp -> Prop) -> Prop:=fun o i v H Q=>rSetLS o i v H Q
theorem a37:PSet X a8g:=by
 intro pins s σ H o i v ov iv u Q I ro ri rv h
 obtain ⟨p,xs,k,j,rfl,rfl,hp,hj,q⟩:=h
 cases ro
 obtain ⟨t,rfl⟩:=ri
 obtain ⟨its,n,r,ho,hz⟩:=I.lst hp
 obtain ⟨h1,h2,h3,h4⟩:=vy hj
 have hl:=r.length
 have hn:=j9
 have I':Inv X pins σ (upd H p (.lst (xs.set j v))) { s with heap:=s.heap.update p (Obj.mapSeq (·.setIfInBounds j u)) } :=
   I.lstUpd hp ho (yi its n j u) (r.set rv j) (by rw [List.length_set]; exact hz) s.toks
 by_cases h0:0 <= k
 . have hk:k.toNat = j:=by
     rw [seqIndex_of h0 h4] at h1
     exact Option.some.inj h1
   exact PySem.W.ki_setAt ho h0 (by lia) (by rw [List.size_toArray,<- hl]; exact h4) (by rw [hk]; exact ⟨_,I',q⟩)
 . have hk:(k + (its.toArray.size:Int)).toNat = j:=by
     rw [seqIndex_neg (by lia) h3] at h1
     rw [List.size_toArray,<- hl]
     exact Option.some.inj h1
   exact PySem.W.ki_setBack ho (by lia) (by rw [List.size_toArray,<- hl]; exact h3) (by lia) (by rw [hk]; exact ⟨_,I',q⟩)
theorem tz (lo hi:Option Int) (n:Nat):(sliceBounds lo hi none n).1 = ((HT.sIx n 0 lo:Nat):Int) /\ (sliceBounds lo hi none n).2.1 = ((HT.sIx n n hi:Nat):Int) /\ (sliceBounds lo hi none n).2.2 = 1:=by
 refine ⟨?_,?_,rfl⟩
 . cases lo with
   | none=>simp [sliceBounds,HT.sIx]
   | some i =>
     simp only [sliceBounds,HT.sIx,Option.getD_none,show (1:Int) > 0 by decide,if_true]
     by_cases h:i < 0
     . simp only [h,if_true] <;> lia
     . simp only [h,if_false] <;> lia
 . cases hi with
   | none=>simp [sliceBounds,HT.sIx]
   | some i =>
     simp only [sliceBounds,HT.sIx,Option.getD_none,show (1:Int) > 0 by decide,if_true]
     by_cases h:i < 0
     . simp only [h,if_true] <;> lia
     . simp only [h,if_false] <;> lia
theorem qr (its:List Value) (lo hi:Option Int):slicePick its.toArray lo hi none = ((its.drop (HT.sIx its.length 0 lo)).take (HT.sIx its.length its.length hi - HT.sIx its.length 0 lo)).toArray:=by
 obtain ⟨h1,h2,h3⟩:=tz lo hi its.toArray.size
 unfold slicePick
 rw [h1,h2,h3]
 simp only [sliceRange_one,pick_run,List.size_toArray] <;> rfl
inductive rSlLS (K:PySem.W.Frag) (x:V) (lo hi:Option Int) (H:Hp) (Q:VK):Prop
 | mk (a:Addr) (xs:List V) (h0:x = .ref a) (h1:SqL K H a xs) (h2:∀ p,H p = none -> Q (.ref p) (upd H p (.lst (cutV xs lo hi)))):rSlLS K x lo hi H Q
noncomputable def rSlL (K:PySem.W.Frag):V -> Option Int -> Option Int -> Hp -> VK -> Prop:=fun x lo hi H Q=>rSlLS K x lo hi H Q
theorem a6f:SlR X (rSlL X.K):=by
 intro pins s σ H x v vl vu lo hi sl Q I rx hs pl pu h
 obtain ⟨a,xs,rfl,hx,q⟩:=h
 cases rx
 obtain ⟨its,r,ht,hz⟩:=I.list hx
 have hlen:=r.length
 refine ⟨"list",_,slot_list_getitem.lookup,ht.isList.typeIs,?_⟩
 refine wpAny_getItem_list_slice ht.isList hs pl pu .none (by simp) ?_ (by rw [List.size_toArray] <;> lia)
 rw [qr,<- hlen]
 refine ⟨.ref s.heap.objs.size,_,I.laid (t':=s.toks) (o := .lst (cutV xs lo hi)) (fun b ob q=>Heap.get?_push_of_some _ q) (Nat.le_refl _) ?_,rfl,q _ (I.hok.fresh (Nat.le_refl _))⟩
 exact ⟨Nat.le_trans (le xs lo hi) hz,_,0,(r.drop (HT.sIx xs.length 0 lo)).take (HT.sIx xs.length xs.length hi - HT.sIx xs.length 0 lo),Heap.get?_push_size _ rfl⟩
noncomputable def i8:V -> Bool
 | .non=>true
 | .bl _=>true
 | .int _=>true
 | .str _=>true
 | _=>false
noncomputable def eqV:V -> V -> Bool
 | .non,.non=>true
 | .bl a,.bl b=>a == b
 | .bl a,.int b=>(if a then 1 else 0) == b
 | .int a,.bl b=>a == (if b then 1 else 0)
 | .int a,.int b=>a == b
 | .str a,.str b=>a == b
 | _,_=>false
theorem a7r {A:Around} {s:Shared} {y x:V} {u v:Value} (ry:RelV y u) (rx:RelV x v) (fy:i8 y = true) (fx:i8 x = true):SeqAt.EqAt A s u v (eqV y x):=by
 cases y with
 | non =>
   cases ry
   cases x with
   | non=>cases rx; exact SeqAt.EqAt.same _
   | bl b=>cases rx; exact SeqAt.EqAt.none_bool b
   | int b=>obtain ⟨t,rfl⟩:=rx; exact SeqAt.EqAt.none_int b t
   | str b=>obtain ⟨t,rfl⟩:=rx; exact SeqAt.EqAt.none_str b t
   | _=>exact absurd (show false = true from fx) Bool.false_ne_true
 | bl a =>
   cases ry
   cases x with
   | non=>cases rx; exact SeqAt.EqAt.bool_none a
   | bl b=>cases rx; exact SeqAt.EqAt.bool_bool a b
   | int b=>obtain ⟨t,rfl⟩:=rx; exact SeqAt.EqAt.bool_int a b t
   | str b=>obtain ⟨t,rfl⟩:=rx; exact SeqAt.EqAt.bool_str a b t
   | _=>exact absurd (show false = true from fx) Bool.false_ne_true
 | int a =>
   obtain ⟨t',rfl⟩:=ry
   cases x with
   | non=>cases rx; exact SeqAt.EqAt.int_none a t'
   | bl b=>cases rx; exact SeqAt.EqAt.int_bool a t' b
   | int b=>obtain ⟨t,rfl⟩:=rx; exact SeqAt.EqAt.int_int a t' b t
   | str b=>obtain ⟨t,rfl⟩:=rx; exact SeqAt.EqAt.int_str a t' b t
   | _=>exact absurd (show false = true from fx) Bool.false_ne_true
 | str a =>
   obtain ⟨t',rfl⟩:=ry
   cases x with
   | non=>cases rx; exact SeqAt.EqAt.str_none a t'
   | bl b=>cases rx; exact SeqAt.EqAt.str_bool a t' b
   | int b=>obtain ⟨t,rfl⟩:=rx; exact SeqAt.EqAt.str_int a t' b t
   | str b=>obtain ⟨t,rfl⟩:=rx; exact SeqAt.EqAt.str_str a t' b t
   | _=>exact absurd (show false = true from fx) Bool.false_ne_true
 | _=>exact absurd (show false = true from fy) Bool.false_ne_true
noncomputable def eqU (x:V) (u:Value):Bool:=match u with
 | .none=>eqV .non x
 | .bool b=>eqV (.bl b) x
 | .int i _=>eqV (.int i) x
 | .str z _=>eqV (.str z) x
 | _=>false
theorem a0a {x y:V} {u:Value} (r:RelV y u) (f:i8 y = true):eqU x u = eqV y x:=by
 cases y with
 | non=>cases r; rfl
 | bl b=>cases r; rfl
 | int i=>obtain ⟨t,rfl⟩:=r; rfl
 | str z=>obtain ⟨t,rfl⟩:=r; rfl
 | _=>exact absurd (show false = true from f) Bool.false_ne_true
theorem j7 {x:V}:∀ {xs:List V} {us:List Value},Vals xs us -> xs.all i8 = true -> us.any (eqU x) = xs.any fun y=>eqV y x
 | _,_,.nil,_=>rfl
 | y :: xs,u :: us,.cons r t,f=>by
   rw [List.all_cons,Bool.and_eq_true] at f
   rw [List.any_cons,List.any_cons,a0a r f.1,j7 t f.2]
theorem ip {A:Around} {s:Shared} {x:V} {v:Value} (rx:RelV x v) (fx:i8 x = true):∀ {xs:List V} {us:List Value},Vals xs us -> xs.all i8 = true -> ∀ u ∈ us,SeqAt.EqAt A s u v (eqU x u)
 | _,_,.nil,_=>fun u hu=>by cases hu
 | y :: xs,u :: us,.cons r t,f=>fun u' hu=>by
   rw [List.all_cons,Bool.and_eq_true] at f
   rcases List.mem_cons.mp hu with rfl | hu
   . rw [a0a r f.1]; exact a7r r rx f.1 fx
   . exact ip rx fx t f.2 u' hu
noncomputable def inV (x:V) (xs:List V):Bool:=xs.any fun y=>eqV y x
inductive rInS (K:PySem.W.Frag) (neg:Bool) (x y:V) (H:Hp) (Q:VK):Prop
 | mk (p:Addr) (xs:List V) (h0:y = .ref p) (h1:(SqL K H p xs \/ SqT K H p xs)) (h2:i8 x = true) (h3:xs.all i8 = true) (h4:Q (.bl (if neg then !inV x xs else inV x xs)) H):rInS K neg x y H Q
noncomputable def rIn (K:PySem.W.Frag) (neg:Bool):R2:=fun x y H Q=>rInS K neg x y H Q
theorem zw:OpR X (compareOp .In) (rIn X.K false):=by
 intro pins s σ H x y v u Q I rx ry h
 obtain ⟨p,xs,rfl,hq,fx,fs,q⟩:=h
 cases ry
 rcases hq with hq | hq
 . obtain ⟨its,r,pl,hz⟩:=I.list hq
   refine SeqAt.in_listAt (eqU x) pl.isList (fun w hw=>ip rx fx r fs w (by simpa using hw)) ⟨.bl _,H,I,rfl,?_⟩
   rw [show its.toArray.any (eqU x) = its.any (eqU x) by simp,j7 r fs]
   exact q
 . obtain ⟨its,r,pl,hz⟩:=I.tuple hq
   refine SeqAt.in_tupleAt (eqU x) pl (fun w hw=>ip rx fx r fs w (by simpa using hw)) ⟨.bl _,H,I,rfl,?_⟩
   rw [show its.toArray.any (eqU x) = its.any (eqU x) by simp,j7 r fs]
   exact q
theorem rf:OpR X (compareOp .NotIn) (rIn X.K true):=by
 intro pins s σ H x y v u Q I rx ry h
 obtain ⟨p,xs,rfl,hq,fx,fs,q⟩:=h
 cases ry
 rcases hq with hq | hq
 . obtain ⟨its,r,pl,hz⟩:=I.list hq
   refine SeqAt.notIn_listAt (eqU x) pl.isList (fun w hw=>ip rx fx r fs w (by simpa using hw)) ⟨.bl _,H,I,rfl,?_⟩
   rw [show its.toArray.any (eqU x) = its.any (eqU x) by simp,j7 r fs]
   exact q
 . obtain ⟨its,r,pl,hz⟩:=I.tuple hq
   refine SeqAt.notIn_tupleAt (eqU x) pl (fun w hw=>ip rx fx r fs w (by simpa using hw)) ⟨.bl _,H,I,rfl,?_⟩
   rw [show its.toArray.any (eqU x) = its.any (eqU x) by simp,j7 r fs]
   exact q
theorem kg:bx X (.builtin "len") (fun xs H Q => ∃ p ys,xs = [.ref p] /\ (SqL X.K H p ys \/ SqT X.K H p ys) /\ Q (.int ys.length) H):=by
 intro pins s σ H xs us Q I r h
 obtain ⟨p,ys,rfl,hq,q⟩:=h
 obtain ⟨u,rfl,rx⟩:=jf r
 cases rx
 have hn:=j9
 rcases hq with hq | hq
 . obtain ⟨its,r',pl,hz⟩:=I.list hq
   have hlen:=r'.length
   exact Calls.call_len_list pl.isList (by simp only [List.size_toArray] <;> lia) ⟨.int ys.length,H,I.tok _,⟨s.toks + 1,by rw [List.size_toArray,hlen]⟩,q⟩
 . obtain ⟨its,r',pl,hz⟩:=I.tuple hq
   have hlen:=r'.length
   exact len_tuple pl (by simp only [List.size_toArray] <;> lia) ⟨.int ys.length,H,I.tok _,⟨s.toks + 1,by rw [List.size_toArray,hlen]⟩,q⟩
theorem sr:bx X (.type "list") (fun xs H Q => ∃ p ys,xs = [.ref p] /\ (SqL X.K H p ys \/ SqT X.K H p ys) /\ ∀ l,H l = none -> Q (.ref l) (upd H l (.lst ys))):=by
 intro pins s σ H xs us Q I r h
 obtain ⟨p,ys,rfl,hq,q⟩:=h
 obtain ⟨u,rfl,rx⟩:=jf r
 cases rx
 have fin:∀ (its:List Value),Vals ys its -> ys.length <= sizeLine -> ∀ (h':Heap) (c':Nat),(∀ b o',s.heap.get? b = some o' -> h'.get? b = some o') ->
     h'.get? s.heap.objs.size = some { cls := .type "list",dict:=none,data := .seq its.toArray c',slots := #[] } -> EP X pins σ Q (.ref s.heap.objs.size) { s with heap:=h' }:=fun its r' hz h' c' kp e =>
   ⟨.ref s.heap.objs.size,_,I.laid (t':=s.toks) kp (Nat.le_refl _) (show ObjOk X.prog X.w _ h' _ (.lst ys) from ⟨hz,its,c',r',e⟩),rfl,q _ (I.hok.fresh (Nat.le_refl _))⟩
 rcases hq with hq | hq
 . obtain ⟨its,r',pl,hz⟩:=I.list hq
   have hlen:=r'.length
   obtain ⟨o,ho,hc,n,hd⟩:=pl.isList
   exact call_list_seq p (.inl rfl) ho hc hd (fun h' c' kp e=>fin its r' hz h' c' kp e) (by simp only [List.size_toArray] <;> lia)
 . obtain ⟨its,r',pl,hz⟩:=I.tuple hq
   have hlen:=r'.length
   obtain ⟨o,ho,hc,n,hd⟩:=pl
   exact call_list_seq p (.inr rfl) ho hc hd (fun h' c' kp e=>fin its r' hz h' c' kp e) (by simp only [List.size_toArray] <;> lia)
noncomputable def tyV (K:PySem.W.Frag) (T:String) (x:V) (H:Hp):Prop:=match x with
 | .str _=>T = "str"
 | .int _=>T = "int"
 | .ref p=>(T = "list" /\ ∃ xs,SqL K H p xs) \/ (T = "tuple" /\ ∃ o,K.lookup p = some o /\ o.cls = .type "tuple" /\ o.dict = none) \/
     (T = "dict" /\ ((∃ kvs,H p = some (.dK kvs)) \/ ∃ kvs,H p = some (.dT kvs))) \/ (T = "set" /\ ∃ S n,H p = some (.set S n))
 | _=>False
theorem a1f {pins:List (Addr × Obj)} {σ:St} {H:Hp} {s:Shared} {T:String} {x:V} {v:Value} (I:Inv X pins σ H s) (r:RelV x v) (ty:tyV X.K T x H) :
   s.TypeIs v T /\ ∀ a,v = .ref a -> ∃ ob,s.heap.get? a = some ob /\ ob.dict = none:=by
 cases x with
 | str z =>
   obtain ⟨t,rfl⟩:=r
   cases (show T = "str" from ty)
   exact ⟨typeIs_str s z t,fun _ e=>nomatch e⟩
 | int i =>
   obtain ⟨t,rfl⟩:=r
   cases (show T = "int" from ty)
   exact ⟨typeIs_int s i t,fun _ e=>nomatch e⟩
 | ref p =>
   cases r
   rcases ty with ⟨rfl,xs,hq⟩ | ⟨rfl,o,hk,hc,hd⟩ | ⟨rfl,hk⟩ | ⟨rfl,S,n,hk⟩
   . obtain ⟨its,_,pl,_⟩:=I.list hq
     refine ⟨pl.isList.typeIs,fun a e=>?_⟩
     cases e
     obtain ⟨o,n,e,c,hd,_⟩:=pl
     exact ⟨o,e,hd⟩
   . refine ⟨⟨o,I.kIn p o hk,hc⟩,fun a e=>?_⟩
     cases e
     exact ⟨o,I.kIn _ o hk,hd⟩
   . have z:∃ o,s.heap.get? p = some o /\ o.ExactDict:=by
       rcases hk with ⟨kvs,hk⟩ | ⟨kvs,hk⟩
       . obtain ⟨_,_,_,_,o,_,_,e,ex,_⟩:=I.hok p _ hk
         exact ⟨o,e,ex⟩
       . obtain ⟨_,_,_,_,o,_,_,e,ex,_⟩:=I.hok p _ hk
         exact ⟨o,e,ex⟩
     obtain ⟨o,e,ex⟩:=z
     refine ⟨⟨o,e,ex.1⟩,fun a e2=>?_⟩
     cases e2
     exact ⟨o,e,ex.2.1⟩
   . obtain ⟨o,_,_,_,e,ex,_⟩:=I.hok p _ hk
     refine ⟨⟨o,e,ex.1⟩,fun a e2=>?_⟩
     cases e2
     exact ⟨o,e,ex.2.1⟩
 | _=>exact False.elim ty
noncomputable def tBM0 (K:PySem.W.Frag) (T:String) (r:V -> List V -> Hp -> VK -> Prop) (to:TE):TE:=fun σ H Q=>to σ H fun x H1=>tyV K T x H1 /\ r x [] H1 Q
noncomputable def tBM (K:PySem.W.Frag) (T:String) (r:V -> List V -> Hp -> VK -> Prop) (to:TE) (t:TA):TE:=fun σ H Q=>to σ H fun x H1=>tyV K T x H1 /\ t σ H1 fun xs H2=>r x xs H2 Q
variable {o e:Expr} {es:List Expr} {to:TE} {t:TA} {name:Str} {apos cpos:Pos} {T id:String} {r:V -> List V -> Hp -> VK -> Prop}
theorem a7d (pa:PlainAttrs T) (slot:Slot T name id) (hty:typeOf (.builtin id) = pure (.type "method_descriptor")) (hm:MtR X id r) (ho:PE X o to)
   (hbase:autoParam (attributeBase o name X.env (eval o X.env) = eval o X.env) L2.a2_) (hline:autoParam ((apos.endLine == cpos.line) = true) L2.a2_):PE X (.Call (.Attribute o name apos) [] [] cpos) (tBM0 X.K T r to):=by
 intro pins s σ H Q I h
 refine wpAny_Call_method0_late hbase hline (thn (ho pins s σ H _ I h) fun v s1 zq=>?_)
 obtain ⟨x,H1,I1,r1,ty,q1⟩:=zq
 obtain ⟨h1,h2⟩:=a1f I1 r1 ty
 exact ⟨T,id,pa,slot,hty,h1,h2,Calls.callWith_builtin rfl (PySem.evalArgs_none (hm pins s1 σ H1 x [] v [] Q I1 r1 .nil q1))⟩
theorem a4m (pa:PlainAttrs T) (slot:Slot T name id) (hty:typeOf (.builtin id) = pure (.type "method_descriptor")) (hm:MtR X id r) (ho:PE X o to) (ha:PA X (e :: es) t)
   (hbase:autoParam (attributeBase o name X.env (eval o X.env) = eval o X.env) L2.a2_)
   (hfew:autoParam (((backTo cpos (starEach (e :: es) X.env)).all (fun x => !x.1) && (backToKw cpos (keywordEach [] X.env)).all (fun x=>x.1.isSome)
     && decide ((e :: es).length + ([]:List Keyword).length + (if ([]:List Keyword).isEmpty then 0 else 1) < 30)) = true) L2.a2_)
   (hline:autoParam ((apos.endLine == cpos.line) = true) L2.a2_) (hs:autoParam (starEach (e :: es) X.env = (false,eval e X.env) :: starEach es X.env) L2.a2_) (hplain:autoParam ((backTo cpos (starEach es X.env)).any (·.1) = false) L2.a2_) :
   PE X (.Call (.Attribute o name apos) (e :: es) [] cpos) (tBM X.K T r to t):=by
 intro pins s σ H Q I h
 refine wpAny_Call_method_late hbase hfew hline rfl (thn (ho pins s σ H _ I h) fun v s1 zq=>?_)
 obtain ⟨x,H1,I1,r1,ty,q1⟩:=zq
 obtain ⟨h1,h2⟩:=a1f I1 r1 ty
 refine ⟨T,id,pa,slot,hty,h1,h2,?_⟩
 have hA:=ha cpos pins s1 σ H1 _ I1 q1
 rw [hs] at hA |-
 refine Calls.callWith_builtin (by show (false || (backTo cpos (starEach es X.env)).any (·.1)) = false; rw [hplain] <;> rfl) (Calls.evalArgs_plain ?_)
 exact thn hA fun us s2 ⟨vs,H2,I2,r2,q2⟩=>hm pins s2 σ H2 x vs v us Q I2 r1 r2 q2
/- xs.append(e),list.index on a module's tuple .. are MtR facts of 06m -/
end
noncomputable def MtM (X:Cx) (id:String) (r:V -> List V -> Hp -> VK -> Prop):Prop :=
 ∀ (pins:List (Addr × Obj)) (s:Shared) (σ:St) (H:Hp) (x:V) (xs:List V) (v:Value) (us:List Value) (Q:VK),Inv X pins σ H s -> RelV x v -> Vals xs us -> r x xs H Q ->
   wpAny (model X.prog X.w) X.A (call (.builtin id) (v :: us)) (EP X pins σ Q) X.xe s
theorem Vals.one:∀ {x:V} {us:List Value},Vals [x] us -> ∃ u,us = [u] /\ RelV x u
 | _,_,.cons r .nil=>⟨_,rfl,r⟩
theorem Vals.eraseIdx:∀ {xs:List V} {us:List Value} (i:Nat),Vals xs us -> Vals (xs.eraseIdx i) (us.eraseIdx i)
 | _,_,_,.nil => .nil
 | _,_,0,.cons _ t=>t
 | _,_,i + 1,.cons r t => .cons r (Vals.eraseIdx i t)
theorem pe {α:Type}:∀ (l:List α) (i:Nat),(l.eraseIdx i).length <= l.length
 | [],_=>Nat.le_refl _
 | _ :: _,0=>Nat.le_succ _
 | _ :: r,i + 1=>Nat.succ_le_succ (pe r i)
section
variable {X:Cx} {pins:List (Addr × Obj)} {σ:St} {H:Hp} {s:Shared} {l b:Addr} {xs ys zs:List V}
theorem Inv.lset {its its':List Value} {n:Nat} {f:Array Value -> Array Value} {t':Nat} (I:Inv X pins σ H s) (hH:H l = some (.lst xs))
   (e:s.heap.get? l = some { cls := .type "list",data := .seq its.toArray n }) (hf:f its.toArray = its'.toArray) (hv:Vals ys its') (hz:ys.length <= sizeLine) :
   Inv X pins σ (upd H l (.lst ys)) { s with heap:=s.heap.update l (Obj.mapSeq f),toks:=t' }:=by
 have q:=PySem.IsL.update e f
 rw [hf] at q
 refine I.write (x:=l) (e:=l) (by rw [hH]; exact trivial) (.inl rfl) (fun b' u hb hu=>(Heap.get?_update_other s.heap (Obj.mapSeq f) (Ne.symm hb)).trans hu) ⟨_,q⟩ ?_
 exact ⟨hz,its',_,hv,q⟩
theorem Inv.lnew {its:List Value} {t':Nat} (I:Inv X pins σ H s) (hv:Vals ys its) (hz:ys.length <= sizeLine) :
   Inv X pins σ (upd H s.heap.objs.size (.lst ys)) { s with heap:=s.heap.push { cls := .type "list",data := .seq its.toArray },toks:=t' } :=
 I.laid (fun _ _ q=>Heap.get?_push_of_some _ q) (Nat.le_refl _) ⟨hz,its,0,hv,Heap.get?_push_size _ rfl⟩
theorem Inv.fresh (I:Inv X pins σ H s):H s.heap.objs.size = none:=I.hok.fresh (Nat.le_refl _)
theorem Inv.lstM (I:Inv X pins σ H s) (hH:H l = some (.lst xs)):xs.length <= sizeLine /\ ∃ (its:List Value) (n:Nat),Vals xs its /\ xs.length = its.length /\ s.heap.get? l = some { cls := .type "list",data := .seq its.toArray n }:=by
 obtain ⟨z,its,n,r,e⟩:=I.hok l _ hH
 exact ⟨z,its,n,r,r.length,e⟩
theorem a3v {n:Nat} (h:n <= sizeLine):Builtin.List.listTooLong n = false:=by
 unfold Builtin.List.listTooLong
 exact decide_eq_false (by lia)
end
section
variable {X:Cx}
inductive rAppendS (x:V) (vs:List V) (H:Hp) (Q:VK):Prop
 | mk (l:Addr) (xs:List V) (y:V) (h0:x = .ref l) (h1:vs = [y]) (h2:H l = some (.lst xs)) (h3:xs.length < sizeLine) (h4:Q .non (upd H l (.lst (xs ++ [y])))):rAppendS x vs H Q
noncomputable def a69:V -> List V -> Hp -> VK -> Prop:=fun x vs H Q=>rAppendS x vs H Q
theorem du:MtM X "list.append" a69:=by
 intro pins s σ H x vs v us Q I rx rv h
 obtain ⟨l,xs,y,rfl,rfl,hH,hz,q⟩:=h
 cases rx
 obtain ⟨u,rfl,ru⟩:=rv.one
 obtain ⟨z,its,n,r,hl,e⟩:=I.lstM hH
 refine call_meets F.slot_list_append ⟨_,e,rfl⟩ F.entry_list_append (F.args_list_append_2 _ _) (PySem.list_append l its.toArray n u (by rw [List.size_toArray]; lia)) ⟨e,?_⟩
 refine ⟨.non,_,I.lset (its':=its ++ [u]) hH e (by simp) (r.append (.cons ru .nil)) ?_,rfl,q⟩
 rw [List.length_append,List.length_singleton]
 lia
inductive rExtendS (x:V) (vs:List V) (H:Hp) (Q:VK):Prop
 | mk (l b:Addr) (xs zs:List V) (h0:x = .ref l) (h1:vs = [.ref b]) (h2:H l = some (.lst xs)) (h3:H b = some (.lst zs)) (h4:xs.length + zs.length <= sizeLine) (h5:Q .non (upd H l (.lst (xs ++ zs)))):rExtendS x vs H Q
noncomputable def a5h:V -> List V -> Hp -> VK -> Prop:=fun x vs H Q=>rExtendS x vs H Q
theorem a1e:MtM X "list.extend" a5h:=by
 intro pins s σ H x vs v us Q I rx rv h
 obtain ⟨l,b,xs,zs,rfl,rfl,hH,hB,hz,q⟩:=h
 cases rx
 obtain ⟨u,rfl,ru⟩:=rv.one
 cases ru
 obtain ⟨z,its,n,r,hl,e⟩:=I.lstM hH
 obtain ⟨z2,its2,n2,r2,hl2,e2⟩:=I.lstM hB
 have hsz:its.toArray.size + its2.toArray.size <= sizeLine:=by rw [List.size_toArray,List.size_toArray]; lia
 have hlong:¬ (!its.toArray.isEmpty && Builtin.List.listTooLong (its.toArray.size + its2.toArray.size)) = true:=by
   rw [a3v hsz,Bool.and_false]
   exact Bool.false_ne_true
 refine call_meets F.slot_list_extend ⟨_,e,rfl⟩ F.entry_list_extend (F.args_list_extend_2 _ _)
   (AutoSeq1.list_extend_list_list_0 l its.toArray n b its2.toArray n2 hlong (by rw [List.size_toArray]; lia) (by lia)) ⟨e,e2,?_⟩
 refine ⟨.non,_,I.lset (its':=its ++ its2) hH e (by simp) (r.append r2) ?_,rfl,q⟩
 rw [List.length_append]
 lia
inductive rPopAtS (x:V) (vs:List V) (H:Hp) (Q:VK):Prop
 | mk (l:Addr) (xs:List V) (i:Int) (k:Nat) (y:V) (h0:x = .ref l) (h1:vs = [.int i]) (h2:H l = some (.lst xs)) (h3 : -(2 ^ 63) <= i) (h4:i < 2 ^ 63) (h5:seqIndex? i xs.length = some k) (h6:xs[k]? = some y) (h7:Q y (upd H l (.lst (xs.eraseIdx k)))):rPopAtS x vs H Q
noncomputable def a7y:V -> List V -> Hp -> VK -> Prop:=fun x vs H Q=>rPopAtS x vs H Q
theorem a2j:MtM X "list.pop" a7y:=by
 intro pins s σ H x vs v us Q I rx rv h
 obtain ⟨l,xs,i,k,y,rfl,rfl,hH,h1,h2,hk,hy,q⟩:=h
 cases rx
 obtain ⟨u,rfl,ru⟩:=rv.one
 obtain ⟨t,rfl⟩:=ru
 obtain ⟨z,its,n,r,hl,e⟩:=I.lstM hH
 obtain ⟨w,hw,rw'⟩:=r.get hy
 refine call_meets F.slot_list_pop ⟨_,e,rfl⟩ F.entry_list_pop (F.args_list_pop_2 _ _)
   (MeetsSeq.list_pop_at l its.toArray n i t k w (fitsIndex_both h1 h2) (by rw [List.size_toArray,<- hl]; exact hk) (by rw [<- Array.getElem?_toList]; exact hw) (by rw [List.size_toArray]; lia)) ⟨e,?_⟩
 refine ⟨y,_,I.lset (its':=its.eraseIdx k) hH e ?_ (r.eraseIdx k) ?_,rw',q⟩
 . show its.toArray.eraseIdxIfInBounds k = (its.eraseIdx k).toArray
   rw [List.eraseIdxIfInBounds_toArray]
 . have:=pe xs k
   lia
inductive rCatS (x y:V) (H:Hp) (Q:VK):Prop
 | mk (l b:Addr) (xs zs:List V) (h0:x = .ref l) (h1:y = .ref b) (h2:H l = some (.lst xs)) (h3:H b = some (.lst zs)) (h4:xs.length + zs.length <= sizeLine) (h5:∀ p,H p = none -> Q (.ref p) (upd H p (.lst (xs ++ zs)))):rCatS x y H Q
noncomputable def rCat:R2:=fun x y H Q=>rCatS x y H Q
theorem dw:OpR X (binaryOp .Add) rCat:=by
 intro pins s σ H x y v u Q I rx ry h
 obtain ⟨l,b,xs,zs,rfl,rfl,hH,hB,hz,q⟩:=h
 cases rx
 cases ry
 obtain ⟨z,its,n,r,hl,e⟩:=I.lstM hH
 obtain ⟨z2,its2,n2,r2,hl2,e2⟩:=I.lstM hB
 refine PySem.P.add_list e e2 ?_ (by rw [List.size_toArray,List.size_toArray]; lia)
 have ea:its.toArray ++ its2.toArray = (its ++ its2).toArray:=by simp
 rw [ea]
 exact ⟨.ref _,_,I.lnew (t':=s.toks) (r.append r2) (by rw [List.length_append]; lia),rfl,q _ I.fresh⟩
end
section
variable {prog:Program} {w:World} {A:Around} {E:Value -> Shared -> Prop} {s:Shared}
end
section
variable {X:Cx}
end
end L2
namespace Att
open PySem PySem.W PySem.Calls PyProof.Rows
theorem o7 {P:Params} {h:Heap}:∀ (ns:List Int) (vs:List Value),WellAll P h vs (ns.map WData.int) -> IntsAre vs ns:=by
 intro ns
 induction ns with
 | nil =>
   intro vs w
   rw [List.map_nil] at w
   cases w
   exact .nil
 | cons n ns ih =>
   intro vs w
   rw [List.map_cons] at w
   cases w with
   | cons a b =>
     cases a
     exact .cons _ _ (ih _ b)
theorem zr {l:OpenLaw} {n:Nat} (hn:l.most = some n) {P:Params} {h:Heap} {args:List WData} {vals:List Value}
   (hpre:l.row.toRowW.claim.pre args = true) (hwl:WellAll P h vals args) :
   ∃ a vs ns,vals = [Value.ref a] /\ args = [WData.list (ns.map WData.int)] /\ h.get? a = some { cls := .type "list",data := .seq vs.toArray } /\ IntsAre vs ns /\ ns.length <= n:=by
 have hsh:WShape.hasAll [] args [.list .int] = true:=(pre_splitW hpre).1
 have hc:l.pre.holds [] { args:=args } = true:=(pre_splitW hpre).2
 obtain ⟨d,r,rfl,h1,h2⟩:=hasAllW_cons hsh
 obtain rfl:=hasAllW_nil h2
 obtain ⟨xs,rfl,h3⟩:=hasW_list h1
 obtain ⟨ns,rfl⟩:=items_int h3
 have hlen:ns.length <= n:=by
   unfold OpenLaw.pre at hc
   have h4:(WTm.not (.lt (.lit (.int (n:Int))) (.len (.arg 0)))).holds [] { args:=[.list (ns.map .int)] } = true:=by
     have h4:=(holds_andW hc).1
     rw [hn] at h4
     exact h4
   have h5:=condW_of h4 (w_not (w_lt w_lit (w_len_list (w_arg rfl))))
   rw [List.length_map] at h5
   refine Nat.le_of_not_lt fun q=>?_
   have q':(n:Int) < ((ns.length:Nat):Int):=by omega
   first
     | (rw [decide_eq_true q'] at h5; exact absurd h5 (by decide))
     | (simp at h5; omega)
 cases hwl with
 | cons w1 w2 =>
   cases w2
   cases w1 with
   | list ho hall=>exact ⟨_,_,ns,rfl,rfl,ho,o7 ns _ hall,hlen⟩
theorem a0i (l:OpenLaw) (args:List WData):l.row.toRowW.claim.post args (.bool true) args = true :=
 postW_of (r:=l.row.toRowW) (X:=(true == true))
   (show WShape.has [] (.bool true) .bool = true by first | rfl | decide | simp [WShape.has,WShape.arms,WShape.armsAll])
   (show (WTm.eq .res (.lit (.bool true))).value [] { args:=args,res:=some (.bool true),after:=args } = some (.bool (true == true)) from w_eq_bool (w_res rfl) w_lit) rfl
theorem attach_call {l:OpenLaw} {n:Nat} {q:Program} {loose:List Str} {XP:(Str -> Option Value) -> Heap -> Prop} {YP:World -> Heap -> Prop} {d:DefRec}
   (hn:l.most = some n) (hdf:d.params.defaults = [])
   (call:∀ (w:World) (s₀ s₁:Shared) (mg mb:Str -> Option Value) (fa:Addr) (o:Obj) (pm cd doc:Value) (a:Addr) (vs:List Value) (ns:List Int),
     Ground q loose [] XP w s₀ mg mb s₁.heap -> YP w s₁.heap ->
     s₁.heap.get? fa = some o -> o.data = .func (docDef d.name d.params d.body d.scope pm cd doc) -> s₁.heap.CodeRec cd d.name -> mg d.name = some (.ref fa) ->
     s₁.heap.get? a = some { cls := .type "list",data := .seq vs.toArray } -> IntsAre vs ns -> ns.length <= n -> s₁.gens = #[] ->
     codeAny (model l.prog w) callerA (.call (.ref fa) ⟨[.ref a],[]⟩) (fun r s'=>r = .ok (.ret (.bool true)) /\ OldK s₁.heap s'.heap /\ s'.os = s₁.os /\ AllBare s'.gens) s₁) :
   WalkO q loose XP YP l.row.toRowW d [] (fun f vs=>PySem.call f vs):=by
 intro w s₀ s₁ mg mb G Y fa o pm cd doc dV kV ho hd hcd hD hmg hg args vals as hpre hlay hrd hwl hlo
 obtain rfl:dV = .none:=Dflts.none hD hdf
 obtain rfl:kV = .none:=Dflts.noKw hD
 obtain ⟨a,vs,ns,rfl,rfl,hobj,hints,hlen⟩:=zr hn hpre hwl
 refine enter_call (codeAny_mono (call w s₀ s₁ mg mb fa o pm cd doc a vs ns G Y ho (fd_plain hd) hcd hmg hobj hints hlen hg) fun r s' hq=>?_)
 obtain ⟨rfl,h2,h3,h4⟩:=hq
 exact ⟨.inl ⟨.bool true,.bool true,[],rfl,fun _=>rfl,.bool true,a0i l _,fun _=>⟨List.Pairwise.nil,fun _ hm=>(nomatch hm)⟩⟩,h2,h3,h4⟩
section
variable {prog:Program} {w:World} {A:Around} {E:Value -> Shared -> Prop} {s:Shared} {K:Frag}
end
end Att
namespace L2
open PySem PySem.Spec PyProof.Rows
theorem pq:∀ {vs:List Value} {ns:List Int},IntsAre vs ns -> Vals (ns.map V.int) vs
 | _,_,.nil => .nil
 | _,_,.cons n t h => .cons ⟨t,rfl⟩ (pq h)
noncomputable def Only (H:Hp):Prop := ∀ b,H b = none \/ ∃ o xs,H b = some (.frz o (.lst xs))
theorem a2t {P:Program} {w:World} {K:PySem.W.Frag} {mg mb:Str -> Option Value} {CX:CXT} {k:Nat} {fa a:Addr} {fd:FuncData} {x:Str} {sp:Sp} {s₁:Shared} {vs:List Value} {ns:List Int}
   (KX:K.In s₁.heap) (hns:s₁.heap.Ns mainGlobals mg) (hb:s₁.heap.Ns builtinsNs mb) (hbb:∀ x:Str,x ≠ "__name__" -> mb x = bootBuiltins x) (hlim:s₁.heap.NoLimit) (hg:s₁.gens = #[])
   (ha:s₁.heap.get? a = some { cls := .type "list",data := .seq vs.toArray }) (hi:IntsAre vs ns) (hl:ns.length <= sizeLine) (hr:Room k callerA)
   (F:∀ base:Heap,K.In base -> base.Ns mainGlobals mg -> FnOk P w K mg base CX k fa fd [x] sp) (hbind:∀ (s:Shared) (u:Value),BindsTo s fd ⟨[u],[]⟩ [(x,u)])
   (hsp:∀ H:Hp,Only H -> SqL K H a (ns.map V.int) -> sp [.ref a] H (fun v _=>v = .bl true) fun _ _ _=>False)
   (hCX:∀ H e s',CX [] H s₁ (fun _ _ _=>False) e s' -> False) :
   codeAny (model P w) callerA (.call (.ref fa) ⟨[.ref a],[]⟩) (fun r s'=>r = .ok (.ret (.bool true)) /\ OldK s₁.heap s'.heap /\ s'.os = s₁.os /\ AllBare s'.gens) s₁:=by
 have rv:=pq hi
 have lenV:=hi.length
 have core:∀ H:Hp,Only H -> SqL K H a (ns.map V.int) -> HOk P w H s₁.heap -> (∀ b,H b ≠ none -> b = a) -> (H a ≠ none -> K.lookup a = none) ->
     codeAny (model P w) callerA (.call (.ref fa) ⟨[.ref a],[]⟩) (fun r s'=>r = .ok (.ret (.bool true)) /\ OldK s₁.heap s'.heap /\ s'.os = s₁.os /\ AllBare s'.gens) s₁:=by
   intro H hO hS hok hA hK
   have base_of:∀ {b:Addr} {o:Obj},s₁.heap.get? b = some o -> H b = none -> (hidT s₁.heap H).get? b = some o:=fun e n=>a2m e n
   have noA:∀ {b:Addr} {o:Obj} {es:Array DictEntry} {ep:Nat},s₁.heap.get? b = some o -> o.data = .dict es ep -> H b = none:=fun {b o es ep} e d=>by
     cases q:H b with
     | none=>rfl
     | some u =>
       have e':b = a:=hA b (by rw [q]; simp)
       subst e'
       rw [ha] at e; cases e
       have d':Data.seq vs.toArray _ = Data.dict es ep:=d
       cases d'
   have nsK:∀ {b:Addr} {m:Str -> Option Value},s₁.heap.Ns b m -> (hidT s₁.heap H).Ns b m:=fun {b m} ⟨o,es,ep,e,d,r⟩=>⟨o,es,ep,base_of e (noA e d),d,r⟩
   have hKb:K.In (hidT s₁.heap H):=fun b o e=>base_of (KX b o e) (by
     cases q:H b with
     | none=>rfl
     | some u =>
       have e':b = a:=hA b (by rw [q]; simp)
       subst e'
       rw [hK (by rw [q]; simp)] at e; cases e)
   have hM:Mod K mg (hidT s₁.heap H):=⟨hKb,nsK hns,⟨mb,nsK hb,hbb⟩,let ⟨mc,h1,h2⟩:=hlim; ⟨mc,nsK h1,h2⟩⟩
   have e0:Env0 P w K mg (hidT s₁.heap H) callerA [] s₁ H:=⟨rfl,hM,fun b o e=>a5s e,Nat.le_of_eq (a1x _ _),trivial,fun b hb=>absurd (show b ∈ ([]:List Addr) from hb) (by simp),hok,.of_eq hg⟩
   refine codeAny_mono ((F _ hKb (nsK hns)).run callerA [] s₁ H ⟨[.ref a],[]⟩ [.ref a] [.ref a] _ _ hr e0 (hbind s₁ (.ref a)) (.cons rfl .nil) (hsp H hO hS)) fun r s' h=>?_
   cases r with
   | error e=>exact (hCX H e s' h).elim
   | ok fl =>
     cases fl with
     | next=>exact False.elim h
     | brk=>exact False.elim h
     | cont=>exact False.elim h
     | ret u =>
       obtain ⟨v,H',os,bare,un,hok',r',q⟩:=h
       have q':v = .bl true:=q
       subst q'
       obtain rfl:u = Value.bool true:=r'
       refine ⟨rfl,OldK.of_keep fun b o e=>?_,os,bare⟩
       cases q:H b with
       | none=>exact un.keep b o e q (by intro z; exact absurd (show b ∈ ([]:List Addr) from z) (by simp)) (by simp)
       | some u =>
         rcases hO b with z | ⟨ob,xs,z⟩
         . rw [q] at z; cases z
         . have z2:=un.frzs b ob _ z
           obtain ⟨e1,_⟩:=hok b _ z
           obtain ⟨e2,_⟩:=hok' b _ z2
           rw [e] at e1; cases e1
           exact e2
 cases hk:K.lookup a with
 | some o =>
   have e:=KX a o hk
   rw [ha] at e
   cases e
   refine core (fun _=>none) (fun _ => .inl rfl) (.inr ⟨_,vs.toArray,_,hk,rfl,rfl,rfl,by rw [List.size_toArray,lenV]; exact hl,by simpa using rv⟩) (fun b u z=>by have z':(none:Option HO) = some u:=z; cases z') (fun b z=>absurd rfl z) fun z=>absurd rfl z
 | none =>
   refine core (fun b=>if b = a then some (.frz { cls := .type "list",data := .seq vs.toArray } (.lst (ns.map V.int))) else none) (fun b=>?_) (.inl (.inr ⟨{ cls := .type "list",data := .seq vs.toArray },if_pos rfl⟩)) (fun b u z=>?_) (fun b z=>?_) fun _=>hk
   . by_cases hb:b = a
     . exact .inr ⟨_,_,if_pos hb⟩
     . exact .inl (if_neg hb)
   . by_cases hb:b = a
     . have z':=(if_pos hb).symm.trans z
       cases z'
       subst hb
       exact ⟨ha,by rw [List.length_map]; exact hl,vs,_,rv,ha⟩
     . have z':=(if_neg hb).symm.trans z
       cases z'
   . by_cases hb:b = a
     . exact hb
     . exact absurd (if_neg hb) z
theorem walk_of {l:PySem.W.OpenLaw} {n k:Nat} {q:Program} {loose:List Str} {XP:(Str -> Option Value) -> Heap -> Prop} {YP:World -> Heap -> Prop} {d:DefRec} {K:Params -> PySem.W.Frag} {CX:World -> CXT} {sp:World -> Sp} {x:Str}
   (hn:l.most = some n) (hn2:n <= sizeLine) (hdf:d.params.defaults = []) (hr:Room k callerA)
   (hY:∀ (w:World) (h:Heap),YP w h -> (K w.params).In h)
   (F:∀ (w:World) (mg:Str -> Option Value) (fa:Addr) (h:Heap),(K w.params).In h -> h.Ns mainGlobals mg -> mg d.name = some (.ref fa) ->
     ∃ fd:FuncData,(∀ (s:Shared) (u:Value),BindsTo s fd ⟨[u],[]⟩ [(x,u)]) /\
       ∀ base:Heap,(K w.params).In base -> base.Ns mainGlobals mg -> FnOk l.prog w (K w.params) mg base (CX w) k fa fd [x] (sp w))
   (hsp:∀ (w:World) (H:Hp) (a:Addr) (ns:List Int),ns.length <= n -> Only H -> SqL (K w.params) H a (ns.map V.int) -> sp w [.ref a] H (fun v _=>v = .bl true) fun _ _ _=>False)
   (hCX:∀ (w:World) (H:Hp) (s:Shared) (e:Value) (s':Shared),CX w [] H s (fun _ _ _=>False) e s' -> False) :
   PySem.W.WalkO q loose XP YP l.row.toRowW d [] (fun f vs=>PySem.call f vs):=by
 refine Att.attach_call hn hdf fun w s₀ s₁ mg mb fa o pm cd doc a vs ns G Y ho hd hcd hmg hobj hints hlen hg=>?_
 have KX:=hY w _ Y
 obtain ⟨fd,hb,hF⟩:=F w mg fa _ KX G.T.g hmg
 exact a2t KX G.T.g G.T.b G.T.builtins G.T.nolimit hg hobj hints (Nat.le_trans hlen hn2) hr hF hb (fun H hO hS=>hsp w H a ns hlen hO hS) fun H e s'=>hCX w H s₁ e s'
end L2
/- THE LAST THEOREM (shape; LID,My.* are yours):
  My.Adr: a structure of the addresses that your layer names (classes,functions); My.Txt K t: a structure (Prop) of the equations over K;
  My.txt_mk:{K} {implicit addresses ..} (e1:nsIn K mainGlobals "law" = some (some (.ref f))) (e2:K.lookup f = some ⟨oc,od,.func (fnOf "law" "law" params body scope dV kV doc pm an cdv ct),sl⟩) (e3:codeIn K cdv "law" = true) .. : ∃ t,My.Txt K t
(the tactic k_is has no namespace: write k_is) -/
namespace L2
open PySem PySem.Spec PyProof.Rows
noncomputable def fm (s:Stmt) (j:Nat):Stmt:=match s with
 | .ClassDef _ _ _ body _ _ _ _ _ _ _=>body.getD j (.Pass ⟨0,0,0,0⟩)
 | _ => .Pass ⟨0,0,0,0⟩
noncomputable def ff (s:Stmt):Arguments:=match s with
 | .FunctionDef _ a _ _ _ _ _ _ _ _=>a
 | _=>{ posonlyargs:=[],args:=[],vararg:=none,kwonlyargs:=[],kw_defaults:=[],kwarg:=none,defaults:=[] }
noncomputable def dr (s:Stmt):List Stmt:=match s with
 | .FunctionDef _ _ b _ _ _ _ _ _ _=>b
 | _=>[]
noncomputable def ao (s:Stmt):Scope:=match s with
 | .FunctionDef _ _ _ _ _ _ sc _ _ _=>sc
 | _=>{ kind := .function,names:=[],isGenerator:=false,isCoroutine:=false }
abbrev CX0:CXT:=fun _ _ _ _ _ _=>False
abbrev E0:XK:=fun _ _ _=>False
theorem av {X:Cx}:fh CX0 X E0:=fun _ _ _ _ _ _ _ h=>h.elim
structure Fun (K:PySem.W.Frag) (x qual:Str) (st:Stmt) (f:Addr) (fd:FuncData):Prop where
 ex:∃ (oc:Value) (od:Option Addr) (kV doc pm:Value) (an:Option Addr) (cdv ct:Value) (osl:Array (Option Value)),
   fd = PySem.W.fnOf x qual (ff st) (dr st) (ao st) .none kV doc pm an cdv ct /\ K.lookup f = some ⟨oc,od,.func fd,osl⟩ /\ PySem.W.codeIn K cdv qual = true
 kp:PySem.W.keepIn K (.ref f) = true
section
variable {P:Program} {w:World} {K:PySem.W.Frag} {mg:Str -> Option Value} {base:Heap}
theorem Fun.ok {x qual:Str} {st:Stmt} {f:Addr} {fd:FuncData} {N ps:List Str} {k:Nat} {sp:Sp} (F:Fun K x qual st f fd) (S:FnScope N ps (ao st)) (len:∀ vs H Q E,sp vs H Q E -> vs.length = ps.length)
   (hbody:∀ (cdv:Value) (A:Around) (outer:List Env) (s:Shared) (H:Hp) (vs:List V) (Q:VK) (E:XK),Room k (A.deeper (envOfC qual (ao st) s.heap.objs.size f cdv)) -> sp vs H Q E ->
     ∃ t,PSs (cxOf CX0 P w K mg base N qual (ao st) f cdv A outer s H E).nox (dr st) t /\ t { nx:=fun _ H'=>Q .non H',rt:=Q } (start N vs) H):FnOk P w K mg base CX0 (k + 1) f fd ps sp:=by
 obtain ⟨oc,od,kV,doc,pm,an,cdv,ct,osl,rfl,lk,hcd⟩:=F.ex
 refine a8w lk hcd S len fun A outer s H vs Q E hr hsp=>?_
 obtain ⟨t,h,q⟩:=hbody cdv A outer s H vs Q E hr hsp
 exact ⟨t,h.nox,q⟩
theorem Fun.binds {x qual:Str} {st:Stmt} {f:Addr} {fd:FuncData} {ps:List Str} (F:Fun K x qual st f fd)
   (h:∀ (kV doc pm:Value) (an:Option Addr) (cdv ct:Value) (us:List Value),us.length = ps.length -> bindArgs (PySem.W.fnOf x qual (ff st) (dr st) (ao st) .none kV doc pm an cdv ct) ⟨us,[]⟩ = pure (ps.zip us)):Binds K fd ps []:=by
 obtain ⟨oc,od,kV,doc,pm,an,cdv,ct,osl,rfl,lk,hcd⟩:=F.ex
 exact .all (h kV doc pm an cdv ct)
theorem fun_mk {x qual:Str} {st:Stmt} {f:Addr} {oc:Value} {od an:Option Addr} {osl:Array (Option Value)} {kV doc pm cdv ct:Value} (l:K.lookup f = some ⟨oc,od,.func (PySem.W.fnOf x qual (ff st) (dr st) (ao st) .none kV doc pm an cdv ct),osl⟩)
   (c:PySem.W.codeIn K cdv qual = true) (k:PySem.W.keepIn K (.ref f) = true):Fun K x qual st f (PySem.W.fnOf x qual (ff st) (dr st) (ao st) .none kV doc pm an cdv ct):=⟨⟨oc,od,kV,doc,pm,an,cdv,ct,osl,rfl,l,c⟩,k⟩
end
theorem df {A:Around} {k:Nat} (hr:Room k A):A.units + 1 < cLine:=Nat.lt_of_le_of_lt (Nat.add_le_add_left (by decide:1 <= 64) _) hr.units
theorem iw {n:Nat} (h:n <= 1000):n < sizeLine:=Nat.lt_of_le_of_lt h (by decide)
section
variable {X:Cx}
theorem pv (i:Nat) {x:Str} {pos:Pos} (hN:autoParam (X.N[i]? = some x) L2.a2_) (hv:autoParam (Vis X.env.scope x) L2.a4_) (hd:autoParam ((x == ("__debug__" : Str)) = false) L2.a1_)
   (hcd:autoParam ((x == ("__classdict__" : Str)) = false) L2.a1_):PE X (.Name x pos) (tVar i):=a7h hN hv hd hcd
end
noncomputable def Same (H H':Hp):Prop := ∀ b o,H b = some o -> H' b = some o
theorem Same.refl (H:Hp):Same H H:=fun _ _ h=>h
theorem Same.trans {H H1 H2:Hp} (a:Same H H1) (b:Same H1 H2):Same H H2:=fun c o h=>b c o (a c o h)
theorem Same.free {H H':Hp} (e:Same H H') {l:Addr} (h:H' l = Option.none):H l = Option.none:=by
 cases q:H l with
 | none=>rfl
 | some o =>
   rw [e l o q] at h
   cases h
theorem Same.seq {K:PySem.W.Frag} {H H':Hp} {a:Addr} {xs:List V} (e:Same H H') (h:SqL K H a xs):SqL K H' a xs:=by
 rcases h with (h | ⟨o,h⟩) | h
 . exact .inl (.inl (e _ _ h))
 . exact .inl (.inr ⟨o,e _ _ h⟩)
 . exact .inr h
inductive And3 (P0 P1 P2:Prop):Prop
 | mk (h0:P0) (h1:P1) (h2:P2):And3 P0 P1 P2
inductive And4 (P0 P1 P2 P3:Prop):Prop
 | mk (h0:P0) (h1:P1) (h2:P2) (h3:P3):And4 P0 P1 P2 P3
inductive And5 (P0 P1 P2 P3 P4:Prop):Prop
 | mk (h0:P0) (h1:P1) (h2:P2) (h3:P3) (h4:P4):And5 P0 P1 P2 P3 P4
inductive And6 (P0 P1 P2 P3 P4 P5:Prop):Prop
 | mk (h0:P0) (h1:P1) (h2:P2) (h3:P3) (h4:P4) (h5:P5):And6 P0 P1 P2 P3 P4 P5
inductive And7 (P0 P1 P2 P3 P4 P5 P6:Prop):Prop
 | mk (h0:P0) (h1:P1) (h2:P2) (h3:P3) (h4:P4) (h5:P5) (h6:P6):And7 P0 P1 P2 P3 P4 P5 P6
inductive And11 (P0 P1 P2 P3 P4 P5 P6 P7 P8 P9 P10:Prop):Prop
 | mk (h0:P0) (h1:P1) (h2:P2) (h3:P3) (h4:P4) (h5:P5) (h6:P6) (h7:P7) (h8:P8) (h9:P9) (h10:P10):And11 P0 P1 P2 P3 P4 P5 P6 P7 P8 P9 P10
inductive Ex2 {α0 α1:Type} (P:α0 -> α1 -> Prop):Prop
 | mk (a0:α0) (a1:α1) (h:P a0 a1):Ex2 P
inductive Ex3 {α0 α1 α2:Type} (P:α0 -> α1 -> α2 -> Prop):Prop
 | mk (a0:α0) (a1:α1) (a2:α2) (h:P a0 a1 a2):Ex3 P
inductive Ex5 {α0 α1 α2 α3 α4:Type} (P:α0 -> α1 -> α2 -> α3 -> α4 -> Prop):Prop
 | mk (a0:α0) (a1:α1) (a2:α2) (a3:α3) (a4:α4) (h:P a0 a1 a2 a3 a4):Ex5 P
inductive Ex6 {α0 α1 α2 α3 α4 α5:Type} (P:α0 -> α1 -> α2 -> α3 -> α4 -> α5 -> Prop):Prop
 | mk (a0:α0) (a1:α1) (a2:α2) (a3:α3) (a4:α4) (a5:α5) (h:P a0 a1 a2 a3 a4 a5):Ex6 P
inductive Ex7 {α0 α1 α2 α3 α4 α5 α6:Type} (P:α0 -> α1 -> α2 -> α3 -> α4 -> α5 -> α6 -> Prop):Prop
 | mk (a0:α0) (a1:α1) (a2:α2) (a3:α3) (a4:α4) (a5:α5) (a6:α6) (h:P a0 a1 a2 a3 a4 a5 a6):Ex7 P
set_option maxHeartbeats 16000000
noncomputable def blk (X:Cx) (N:List Str) (s:Shared) (H:Hp) (sc:Scope) (cl:List (Str × Addr)) (C:Addr) (ex:List Addr):Cx where
 prog:=X.prog
 w:=X.w
 K:=X.K
 mg:=X.mg
 base:=X.base
 A:=X.A
 N:=N
 s₀:=s
 H₀:=H
 env:=compEnvC sc cl C X.env
 outer:=X.stack
 stack:=X.stack
 ex:=ex
 fn:=fun _=>false
 calm:=X.calm
 pn:=[]
 xe:=fun _ _=>False
section
variable {prog:Program} {w:World} {A:Around} {R:Result -> Shared -> Prop} {s:Shared}
theorem v7 {elt target iter:Expr} {ifs:List Expr} {scope:Scope} {pos:Pos} {it acc:Value} {env:Env} (I:Nat -> Shared -> Prop)
   (turn:∀ n s,I n s -> wpAny (model prog w) A (pyNext it) (fun r s₁=>match r with
     | none=>R (.ok .next) s₁
     | some v=>wpAny (model prog w) A (letOwnedTupleGo target it v) (fun _ s₁'=>wpAny (model prog w) A (assign target env v) (fun _ s₂ =>
         wpAny (model prog w) A (forIn ifs true fun c r=>if r = true then do let ok <- isTrue c env (eval c env); pure (ForInStep.yield ok) else pure (ForInStep.yield r)) (fun ok s₃ =>
           if ok = true then wpAny (model prog w) A (eval elt env) (fun x s₄ =>
             wpAny (model prog w) A (call (.builtin "list.append") [acc,x]) (fun _ s₅ => ∃ m,m < n /\ I m s₅) (fun _ _=>False) s₄) (fun _ _=>False) s₃
           else ∃ m,m < n /\ I m s₃) (fun _ _=>False) s₂) (fun _ _=>False) s₁') (fun _ _=>False) s₁) (fun _ _=>False) s)
   (n:Nat) (h:I n s) :
   codeAny (model prog w) A (.compLoop (.ListComp elt [⟨target,iter,ifs,0⟩] scope pos) 0 it acc env) R s:=by
 refine codeAny_loop rfl I (fun n s hI=>?_) n h
 show wpAny _ A ((compTurn (.ListComp elt [⟨target,iter,ifs,0⟩] scope pos) 0 it acc env).onRaise (fun x=>do noteFrame x env; theTreesLotGoes x)) _ _ s
 refine wpAny_noted ?_
 rw [compTurn_list]
 refine wpAny_bind (wpAny_standAt (wpAny_bind (wpAny_mono (turn n s hI) (fun r s₁ h₁=>?_) fun _ _ h'=>h'.elim)))
 cases r with
 | none=>exact wpAny_pure h₁
 | some v =>
   refine wpAny_bind (wpAny_mono h₁ (fun _ s₁' h₁'=>?_) fun _ _ h'=>h'.elim)
   refine wpAny_bind (wpAny_mono h₁' (fun _ s₂ h₂=>wpAny_bind (wpAny_mono h₂ (fun ok s₃ h₃=>?_) fun _ _ h'=>h'.elim)) fun _ _ h'=>h'.elim)
   cases ok with
   | false=>exact wpAny_pure ⟨rfl,h₃⟩
   | true =>
     exact wpAny_bind (wpAny_bind (wpAny_mono h₃ (fun x s₄ h₄=>wpAny_bind (wpAny_mono h₄ (fun _ s₅ h₅=>wpAny_pure (wpAny_pure ⟨rfl,h₅⟩)) fun _ _ h'=>h'.elim)) fun _ _ h'=>h'.elim))
end
noncomputable def PTs (X:Cx) (ifs:List Expr) (t:TT):Prop :=
 ∀ (pins:List (Addr × Obj)) (s:Shared) (σ:St) (H:Hp) (Q:Bool -> Hp -> Prop),Inv X pins σ H s -> t σ H Q ->
   wpAny (model X.prog X.w) X.A (forIn ifs true fun c r=>if r = true then do let ok <- isTrue c X.env (eval c X.env); pure (ForInStep.yield ok) else pure (ForInStep.yield r)) (TP X pins σ Q) X.xe s
noncomputable def tYes:TT:=fun _ H Q=>Q true H
theorem a5z {X:Cx}:PTs X [] tYes:=fun _ _ _ H _ I h=>wpAny_tests_nil ⟨H,I,h⟩
theorem wf {X:Cx} {c:Expr} {t:TT} (h:PT X c t):PTs X [c] t:=fun pins s σ H Q I q=>wpAny_tests_one (h pins s σ H Q I q)
noncomputable def cq (σ:St) (ix:List Nat):St:=ix.map fun j=>(σ[j]?).getD none
noncomputable def ik (J:It) (H1:Hp) (σ:St) (ix:List Nat) (tc:TT) (te:TE) (Q:VK):Prop := ∀ D,H1 D = none ->
 ∃ W:Nat -> Nat -> Hp -> Prop,(∃ m,W 0 m (upd H1 D (.lst []))) /\ ∀ i m H,W i m H ->
   (J.stop i H /\ Q (.ref D) H) \/ (J.go i H /\ ∀ x H',J.yld i H x H' -> tc (some x :: cq σ ix) H' fun b H2 =>
     if b = true then te (some x :: cq σ ix) H2 fun y H3 => ∃ ys,H3 D = some (.lst ys) /\ ys.length < sizeLine /\ ∃ m',m' < m /\ W (i + 1) m' (upd H3 D (.lst (ys ++ [y])))
     else ∃ m',m' < m /\ W (i + 1) m' H2)
noncomputable def jn (ix:List Nat) (wi:TI) (tc:TT) (te:TE):TE:=fun σ H Q=>wi σ H fun J H1=>ik J H1 σ ix tc te Q
section
variable {X:Cx}
theorem a57 {pins:List (Addr × Obj)} {σ:St} {H:Hp} {s:Shared} {N:List Str} {x:Str} {sc:Scope} {cl:List (Str × Addr)} {fp:List Addr} {ix:List Nat} {h1:Heap} {m:Str -> Option Value} {tk:Nat}
   (I:Inv X pins σ H s) (hkind:sc.kind = .function) (hN:N = x :: ix.map fun j=>(X.N[j]?).getD "")
   (hsub:∀ y c,cl.lookup y = some c -> X.env.cells.lookup y = some c) (hhas:∀ y,((relabel sc X.env).names.lookup y = some .cell \/ (relabel sc X.env).names.lookup y = some .free) -> ∃ c,cl.lookup y = some c)
   (hix:∀ j ∈ ix,∃ y,X.N[j]? = some y /\ X.env.kindOf y = some .cell /\ (relabel sc X.env).names.lookup y = some .cell)
   (hfp:∀ b ∈ fp,FpOk X pins H b) (hlt:∀ b ∈ fp,b < s.heap.objs.size)
   (hns:h1.Ns s.heap.objs.size m) (hk:∀ b o,s.heap.get? b = some o -> h1.get? b = some o) :
   Inv (blk X N s H sc cl s.heap.objs.size fp) [] (none :: cq σ ix) H { s with heap:=h1,toks:=tk }:=by
 have fresh:H s.heap.objs.size = none:=I.hok.fresh (Nat.le_refl _)
 refine ⟨⟨I.ok.mod,hkind,I.ok.glob,I.ok.blt,Nat.le_refl _,fun y z c h1 h2=>I.ok.inj y z c (hsub y c h1) (hsub z c h2),fun y hy=>hhas y hy,fun y c z _=>absurd (show false = true from z) (by decide),I.ok.hd,I.ok.frames,.inl rfl,
   fun b hb=>⟨Nat.ne_of_lt (hlt b hb),fun y c e=>(hfp b hb).2.2.2.2.1 y c (hsub y c e)⟩,I.bs,Nat.le_trans I.ok.bsz I.sz,fun b o e hb=>?_,fun b hb z=>?_,I.stack,I.stkFree⟩,
   rfl,I.bare,Un.kept hk,⟨m,hns,fun i y v e1 e2 e3=>?_⟩,fun y c e=>?_,fresh,fun y c e=>I.freeC y c (hsub y c e),fun p hp=>absurd (show p ∈ ([]:List (Addr × Obj)) from hp) (by simp),I.hok.kept hk,?_⟩
 . rcases (hfp b hb).2.2.2.1 with z | z
   . exact I.ok.noex b o e z
   . exact absurd (Nat.lt_of_lt_of_le (Heap.lt_size e) (Nat.le_trans I.ok.bsz z)) (Nat.lt_irrefl _)
 . rcases List.mem_cons.mp (I.stkSub b z) with q | q
   . exact (hfp b hb).2.1 q
   . exact (hfp b hb).2.2.1 q
 . cases i with
   | zero =>
     have e2':(some none:Option (Option V)) = some (some v):=e2
     cases e2'
   | succ i =>
     have e2':(cq σ ix)[i]? = some (some v):=by simpa using e2
     unfold cq at e2'
     rw [List.getElem?_map] at e2'
     cases q:ix[i]? with
     | none=>rw [q] at e2'; cases e2'
     | some j =>
       rw [q] at e2'
       have e3':(σ[j]?).getD none = some v:=by simpa using e2'
       have e4:σ[j]? = some (some v):=by
         cases q2:σ[j]? with
         | none=>rw [q2] at e3'; cases e3'
         | some w=>rw [q2] at e3'; simpa using e3'
       obtain ⟨y',hy,hc,hr⟩:=hix j (List.mem_of_getElem? q)
       have ey:y' = y:=by
         have e1':N[i + 1]? = some y:=e1
         rw [hN,List.getElem?_cons_succ,List.getElem?_map,q] at e1'
         have:=Option.some.inj e1'
         simpa [hy] using this
       subst ey
       obtain ⟨m0,hn0,hl0⟩:=I.loc
       obtain ⟨u,r,l⟩:=hl0 j y' v hy e4 (.inr (.inl hc))
       refine ⟨u,r,.inr ⟨.inl hr,?_⟩⟩
       rcases l with ⟨k,_⟩ | ⟨_,c,ec,ic⟩
       . rw [hc] at k; cases k
       . obtain ⟨c',ec'⟩:=hhas y' (.inl hr)
         have:=hsub y' c' ec'
         rw [ec] at this; cases this
         obtain ⟨o,ho,hd⟩:=ic
         exact ⟨c,ec',o,hk c o ho,hd⟩
 . obtain ⟨v,o,ho,hd⟩:=I.cell y c (hsub y c e)
   exact ⟨v,o,hk c o ho,hd⟩
 . show (none :: cq σ ix).length = N.length
   rw [hN]
   simp [cq]
theorem qo {elt iter:Expr} {x:Str} {px pos p0:Pos} {ifs:List Expr} {sc:Scope} {cl:List (Str × Addr)} {ix:List Nat} {wi:TI} {tc:TT} {te:TE} (N:List Str)
   (hc:X.calm = true) (hi:PI X (.Name x px) iter wi) (hif:∀ s H C ex,PTs (blk X N s H sc cl C ex) ifs tc) (he:∀ s H C ex,PE (blk X N s H sc cl C ex) elt te)
   (hkind:sc.kind = .function) (hN:N = x :: ix.map fun j=>(X.N[j]?).getD "") (hnd:N.Nodup) (hx:sc.names.lookup x = some .local)
   (hcl:closureFor sc X.env = pure cl) (hcell:∀ y ∈ sc.names,y.2 ≠ .cell) (hnames:∀ y ∈ sc.names,y.2 = .local -> sc.names.lookup y.1 = some .local)
   (hsub:∀ y c,cl.lookup y = some c -> X.env.cells.lookup y = some c) (hhas:∀ y,((relabel sc X.env).names.lookup y = some .cell \/ (relabel sc X.env).names.lookup y = some .free) -> ∃ c,cl.lookup y = some c)
   (hix:∀ j ∈ ix,∃ y,X.N[j]? = some y /\ X.env.kindOf y = some .cell /\ (relabel sc X.env).names.lookup y = some .cell)
   (hs:∀ x,foldedSetIterable iter X.env x = pure x)
   {use:Option (Value -> Sem Unit)} {RP:Value -> Shared -> Prop} {Q:VK} {pins:List (Addr × Obj)} {s:Shared} {σ:St} {H:Hp} (I:Inv X pins σ H s) (h:jn ix wi tc te σ H Q)
   (hfin:∀ (D C:Addr) (s6:Shared) (H5:Hp) (mm:Str -> Option Value),Inv X pins σ H5 s6 -> s6.heap.Ns C mm -> H5 C = none -> C ≠ X.env.locals -> (∀ z c,X.env.cells.lookup z = some c -> c ≠ C) -> X.s₀.heap.objs.size <= C -> (∀ p ∈ X.pn ++ pins,p.1 ≠ C) -> Q (.ref D) H5 -> compPost (model X.prog X.w) X.A X.xe use RP (.ref D) C (.ok .next) s6) :
   wpAny (model X.prog X.w) X.A (comprehension (.ListComp elt [⟨.Name x px,iter,ifs,0⟩] sc pos) sc X.env p0 (newList []) false (eval iter X.env) use) RP X.xe s:=by
 refine wpAny_comprehension_free (use:=use) rfl hs hcl hkind hnames (thn (hi pins s σ H _ I h) fun v s1 h1=>thn h1 fun itv s2 h2=>?_)
 obtain ⟨it,fp,tn,J,H2,e,I2,T,st2,f2,q2⟩:=h2
 subst e
 have fr2:H2 s2.heap.objs.size = none:=I2.hok.fresh (Nat.le_refl _)
 obtain ⟨W,⟨m0,w0⟩,turn⟩:=q2 s2.heap.objs.size fr2
 refine wpAny_newObj_type ?_
 have I3:Inv X pins σ (upd H2 s2.heap.objs.size (.lst [])) { s2 with heap:=s2.heap.push { cls := .type "list",dict:=none,data := .seq ([]:List Value).toArray } }:=by
   exact I2.lnew (its:=[]) (ys:=[]) (t':=s2.toks) .nil (Nat.zero_le _)
 have lt2:∀ b ∈ fp,b < s2.heap.objs.size:=fun b hb=>by
   obtain ⟨o,ho,_⟩:=T.obj _ _ st2 b hb
   exact Heap.lt_size ho
 have f3:∀ b ∈ fp,FpOk X pins (upd H2 s2.heap.objs.size (.lst [])) b:=fun b hb=>⟨by rw [ag (Nat.ne_of_lt (lt2 b hb))]; exact (f2 b hb).1,(f2 b hb).2⟩
 generalize hs3:({ s2 with heap:=s2.heap.push { cls := .type "list",dict:=none,data := .seq ([]:List Value).toArray } }:Shared) = s3 at I3
 have hsz3:s2.heap.objs.size <= s3.heap.objs.size:=by rw [<- hs3]; show _ <= (s2.heap.push _).objs.size; rw [Heap.size_push]; exact Nat.le_succ _
 have tn3:tn 0 s3.heap:=T.keep _ _ _ st2 fun b _ o e=>by rw [<- hs3]; exact Heap.get?_push_of_some _ e
 have lt3:∀ b ∈ fp,b < s3.heap.objs.size:=fun b hb=>Nat.lt_of_lt_of_le (lt2 b hb) hsz3
 refine wpAny_newFunctionEnv hcell (by intro y hy; simp at hy) (fun h4 hns4 hsb4=>?_) hkind
 have old:∀ b o,s3.heap.get? b = some o -> h4.get? b = some o:=fun b o e=>hsb4.extBut b o (Nat.ne_of_lt (Heap.lt_size e)) (Heap.get?_push_of_some _ e)
 have I4:=a57 (m:=_) (tk:=s3.toks + ([]:List (Str × Value)).length) (N:=N) I3 hkind hN hsub hhas hix f3 lt3 hns4 old
 have tn4:tn 0 h4:=T.keep _ _ _ tn3 fun b _ o e=>old b o e
 have fpB:∀ {H':Hp},(∀ b ∈ fp,H' b = none) -> ∀ b ∈ fp,FpOk (blk X N s3 (upd H2 s2.heap.objs.size (.lst [])) sc cl s3.heap.objs.size fp) [] H' b:=fun {H'} hn b hb =>
   ⟨hn b hb,Nat.ne_of_lt (lt3 b hb),I4.ok.exfs b hb,.inl hb,fun y c e=>(I4.ok.exf b hb).2 y c e,fun p hp=>absurd (show p ∈ ([]:List (Addr × Obj)) from hp) (by simp)⟩
 have loop:codeAny (model X.prog X.w) X.A (.compLoop (.ListComp elt [⟨.Name x px,iter,ifs,0⟩] sc pos) 0 (.ref it) (.ref s2.heap.objs.size) (compEnvC sc cl s3.heap.objs.size X.env))
     (compPost (model X.prog X.w) X.A X.xe use RP (.ref s2.heap.objs.size) s3.heap.objs.size) { s3 with heap:=h4,toks:=s3.toks + ([]:List (Str × Value)).length }:=by
   refine v7 (fun n s' => ∃ i v0 H',Inv (blk X N s3 (upd H2 s2.heap.objs.size (.lst [])) sc cl s3.heap.objs.size fp) [] (v0 :: cq σ ix) H' s' /\ tn i s'.heap /\ (∀ b ∈ fp,H' b = none) /\ W i n H') ?_ m0
     ⟨0,none,_,I4,tn4,fun b hb=>(f3 b hb).1,w0⟩
   rintro n s5 ⟨i,v0,H5,I5,st5,fr5,w5⟩
   rcases turn i n H5 w5 with ⟨stop,qn⟩ | ⟨go,step⟩
   . refine thn (T.done (blk X N s3 (upd H2 s2.heap.objs.size (.lst [])) sc cl s3.heap.objs.size fp) rfl rfl rfl hc i [] s5 _ H5 _ I5 (fpB fr5) st5 stop) fun r s6 zq=>?_
     obtain ⟨hr,I6⟩:=zq
     subst hr
     obtain ⟨mm,hm,_⟩:=I6.loc
     have I7:Inv X pins σ H5 s6:=by
       have hC:H5 s3.heap.objs.size = none:=I6.free
       have hc3:s3.heap.get? s3.heap.objs.size = none:=Heap.get?_none_of_le (Nat.le_refl _)
       have up:∀ b o,b ≠ s3.heap.objs.size -> s6.heap.get? b = some o -> s6.heap.get? b = some o:=fun b o hb e=>e
       have neC:∀ b o,s3.heap.get? b = some o -> b ≠ s3.heap.objs.size:=fun b o e=>Nat.ne_of_lt (Heap.lt_size e)
       have u:=I6.base
       refine I3.call' (s':=s6) (ch:=fp) I6.os ⟨fun b o e n hb hx=>?_,fun b o e n hb hx=>?_,fun b o e n hx=>u.free b o e n hx,fun b o e hx=>?_,u.tups,u.frzs,u.tbls⟩ (fun b o e=>?_) I6.bare fun b hb=>⟨(f3 b hb).2.2.2.1,(f3 b hb).2.1,(f3 b hb).2.2.2.2.1,(f3 b hb).2.2.2.2.2⟩
       . exact up b o (neC b o e) (u.keep b o e n hb hx)
       . obtain ⟨sl,e1⟩:=u.slot b o e n hb hx
         exact ⟨sl,up b _ (neC b o e) e1⟩
       . obtain ⟨o',e1⟩:=u.there b o e hx
         exact ⟨o',up b _ (neC b o e) e1⟩
       . refine (I6.hok b o e).stay (fun c v hc' q=>up c v ?_ q) (fun _ q=>q) fun _ _ q=>q
         rintro rfl
         rcases hc' with z | z
         . rw [<- z,hC] at e; cases e
         . rw [hC] at z; cases z
     have hCn:H5 s3.heap.objs.size = none:=I6.free
     have hCl:s3.heap.objs.size ≠ X.env.locals:=Nat.ne_of_gt I3.lt
     have hCc:∀ z c,X.env.cells.lookup z = some c -> c ≠ s3.heap.objs.size:=fun z c e e2=>by
       obtain ⟨v',q⟩:=I3.cell z c e
       exact absurd (e2 ▸ q.lt) (Nat.lt_irrefl _)
     exact hfin _ _ s6 H5 mm I7 hm hCn hCl hCc I3.sz (fun p hp e2=>absurd (e2 ▸ Heap.lt_size (I3.pin p hp).1) (Nat.lt_irrefl _)) qn
   . refine thn (T.item (blk X N s3 (upd H2 s2.heap.objs.size (.lst [])) sc cl s3.heap.objs.size fp) rfl rfl rfl hc i [] s5 _ H5 _ I5 (fpB fr5) st5 go) fun r s6 zq=>?_
     obtain ⟨u,hr,h6⟩:=zq
     subst hr
     refine thn h6 fun _ s7 zq=>?_
     obtain ⟨y,H7,I7,r7,y7,st7,fr7⟩:=zq
     have I7':=I7.pinned (fpB fr7) (T.obj _ _ st7)
     refine wpAny_assign_Name (me (i:=0) I7' hnd (by show N[0]? = some x; rw [hN]; rfl) (.inl (lookup_relabel_local hx)) r7 (fun s8 I8=>?_) (.inr (lookup_relabel_local hx)))
     have I8':Inv (blk X N s3 (upd H2 s2.heap.objs.size (.lst [])) sc cl s3.heap.objs.size fp) ([] ++ ja fp s7.heap) (some y :: cq σ ix) H7 s8:=I8
     refine thn (hif _ _ _ _ _ s8 _ H7 _ I8' (step y H7 y7)) fun ok s9 zq=>?_
     obtain ⟨H9,I9,q9⟩:=zq
     have again:∀ {H':Hp} {s':Shared} {m':Nat},Inv (blk X N s3 (upd H2 s2.heap.objs.size (.lst [])) sc cl s3.heap.objs.size fp) ([] ++ ja fp s7.heap) (some y :: cq σ ix) H' s' -> m' < n -> W (i + 1) m' H' ->
         ∃ m,m < n /\ ∃ i v0 H',Inv (blk X N s3 (upd H2 s2.heap.objs.size (.lst [])) sc cl s3.heap.objs.size fp) [] (v0 :: cq σ ix) H' s' /\ tn i s'.heap /\ (∀ b ∈ fp,H' b = none) /\ W i m H':=fun {H' s' m'} Ia hm wa=>by
       refine ⟨m',hm,i + 1,some y,H',Ia.unpinned,T.keep _ _ _ st7 fun b hb o e=>(Ia.pin (b,o) (List.mem_append_right _ (List.mem_append_right _ (ib hb e)))).1,fun b hb=>?_,wa⟩
       obtain ⟨o,e,d⟩:=T.obj _ _ st7 b hb
       exact (Ia.pin (b,o) (List.mem_append_right _ (List.mem_append_right _ (ib hb e)))).2.1
     cases ok with
     | false =>
       rw [if_neg Bool.false_ne_true] at q9 |-
       obtain ⟨m',hm,wa⟩:=q9
       exact again I9 hm wa
     | true =>
       rw [if_pos rfl] at q9 |-
       refine thn (he _ _ _ _ _ s9 _ H9 _ I9 q9) fun v10 s10 zq=>?_
       obtain ⟨z,H10,I10,r10,ys,hD,hl,m',hm,wa⟩:=zq
       exact thn (du _ s10 _ H10 (.ref s2.heap.objs.size) [z] (.ref s2.heap.objs.size) [v10] (fun _ H'=>H' = upd H10 s2.heap.objs.size (.lst (ys ++ [z]))) I10 rfl (.cons r10 .nil) ⟨_,ys,z,rfl,rfl,hD,hl,rfl⟩)
         fun _ s11 ⟨_,H11,I11,_,e11⟩=>again I11 hm (by rw [e11]; exact wa)
 subst hs3
 exact codeAny_compStart_list loop (T.self _ 0 _ _ _ tn4 loop)
theorem we {elt iter:Expr} {x:Str} {px pos:Pos} {ifs:List Expr} {sc:Scope} {cl:List (Str × Addr)} {ix:List Nat} {wi:TI} {tc:TT} {te:TE} (N:List Str)
   (hc:X.calm = true) (hi:PI X (.Name x px) iter wi) (hif:∀ s H C ex,PTs (blk X N s H sc cl C ex) ifs tc) (he:∀ s H C ex,PE (blk X N s H sc cl C ex) elt te)
   (hkind:sc.kind = .function) (hN:N = x :: ix.map fun j=>(X.N[j]?).getD "") (hnd:N.Nodup) (hx:sc.names.lookup x = some .local)
   (hcl:closureFor sc X.env = pure cl) (hcell:∀ y ∈ sc.names,y.2 ≠ .cell) (hnames:∀ y ∈ sc.names,y.2 = .local -> sc.names.lookup y.1 = some .local)
   (hsub:∀ y c,cl.lookup y = some c -> X.env.cells.lookup y = some c) (hhas:∀ y,((relabel sc X.env).names.lookup y = some .cell \/ (relabel sc X.env).names.lookup y = some .free) -> ∃ c,cl.lookup y = some c)
   (hix:∀ j ∈ ix,∃ y,X.N[j]? = some y /\ X.env.kindOf y = some .cell /\ (relabel sc X.env).names.lookup y = some .cell)
   (hs:autoParam (∀ x,foldedSetIterable iter X.env x = pure x) L2.a3_) :
   PE X (.ListComp elt [⟨.Name x px,iter,ifs,0⟩] sc pos) (jn ix wi tc te):=by
 intro pins s σ H Q I h
 rw [eval_ListComp]
 exact qo N hc hi hif he hkind hN hnd hx hcl hcell hnames hsub hhas hix hs I h fun D C s6 H5 mm I7 hm hCn hCl hCc hsz hpin qn =>
   ⟨mm,hm,fun h7 sb7=>⟨.ref D,H5,I7.turned (t':=s6.toks) (it:=C) (fun b o hb e=>sb7.extBut b o hb e) hCn hCl (.inr hsz) hCc hpin,rfl,qn⟩⟩
end
noncomputable def Its (x:Str):It:=⟨fun i _=>i < x.cps.size,fun i H v H'=>H' = H /\ ∃ c,x.cps[i]? = some c /\ v = .str ⟨#[c]⟩,fun i _=>x.cps.size <= i⟩
theorem a2x {P:Program} {w:World} {K:PySem.W.Frag} {tg:Expr} {x:Str} {t:Tok} (it:Addr) (T:String) (hT:T = "str_ascii_iterator" \/ T = "str_iterator"):Turn P w K tg (Its x) [it] it (fun i h=>h.IsStrIter it T x t i /\ i <= x.cps.size) where
 mem:=by simp
 obj:=fun i h st b hb=>by
   have e:b = it:=by simpa using hb
   subst e
   obtain ⟨⟨o,e,c,d⟩,_⟩:=st
   exact ⟨o,e,fun v z=>by rw [d] at z; cases z⟩
 keep:=fun i h h' st k=>⟨let ⟨o,ho,r⟩:=st.1; ⟨o,k it (by simp) o ho,r⟩,st.2⟩
 item:=by
   intro X hP hw hK hc i pins s σ H E I hf st hg
   subst hP hw hK
   obtain ⟨f0,f1,f2,f3,f4,f5⟩:=hf it (by simp)
   have hi:i < x.cps.size:=hg
   have fin:∀ h',h'.IsStrIter it T x t (i + 1) -> (∀ b o,b ≠ it -> s.heap.get? b = some o -> h'.get? b = some o) -> ∀ u:Tok,∃ uv,some (Value.str ⟨#[x.cps[i]]⟩ u) = some uv /\
       wpAny (model X.prog X.w) X.A (letOwnedTupleGo tg (.ref it) uv) (fun _ s2 => ∃ v H',Inv X pins σ H' s2 /\ RelV v uv /\ (Its x).yld i H v H' /\ (s2.heap.IsStrIter it T x t (i + 1) /\ i + 1 <= x.cps.size) /\ ∀ b ∈ [it],H' b = none) E { s with heap:=h',toks:=s.toks + 1 }:=fun h' st' kk u=>by
     have I1:Inv X pins σ H { s with heap:=h',toks:=s.toks + 1 }:=I.turned (fun b o hb e=>kk b o hb e) f0 f1 f3 f4 f5
     obtain ⟨o,e,c,d⟩:=id st'
     refine ⟨_,rfl,r9 (s:={ s with heap:=h',toks:=s.toks + 1 }) e c d (by rcases hT with rfl | rfl <;> decide) ⟨.str ⟨#[x.cps[i]]⟩,H,I1,⟨u,rfl⟩,⟨rfl,_,by simp [hi],rfl⟩,⟨st',hi⟩,fun b hb=>?_⟩⟩
     exact (hf b hb).1
   rcases hT with rfl | rfl
   . exact wpAny_pyNext_ascii_item st.1 (c:=x.cps[i]) (by simp [hi]) fun h' hit' hs'=>fin h' hit' (fun b o hb e=>hs'.extBut b o hb e) _
   . exact wpAny_pyNext_wide_item st.1 (c:=x.cps[i]) (by simp [hi]) fun h' hit' hs'=>fin h' hit' (fun b o hb e=>hs'.extBut b o hb e) _
 done:=by
   intro X hP hw hK hc i pins s σ H E I hf st hg
   subst hP hw hK
   obtain ⟨f0,f1,f2,f3,f4,f5⟩:=hf it (by simp)
   have hi:x.cps.size <= i:=hg
   rcases hT with rfl | rfl
   . exact wpAny_pyNext_ascii_end (I.ok.hd hc) st.1 (by simp; omega) fun h' eb=>⟨rfl,I.turned (t':=s.toks) (fun b o hb e=>eb b o hb e) f0 f1 f3 f4 f5⟩
   . exact wpAny_pyNext_wide_end (I.ok.hd hc) st.1 (by simp; omega) fun h' eb=>⟨rfl,I.turned (t':=s.toks) (fun b o hb e=>eb b o hb e) f0 f1 f3 f4 f5⟩
 self:=fun _ _ _ _ _ st h=>by
   rcases hT with rfl | rfl
   . exact wpAny_pyIter_striter_ascii st.1 h
   . exact wpAny_pyIter_striter_wide st.1 h
section
variable {X:Cx} {tg:Expr}
noncomputable def iStr (tl:TE):TI:=fun σ H R=>tl σ H fun x H1 => ∃ z,x = .str z /\ R (Its z) H1
theorem a7t {l:Expr} {tl:TE} (hl:PE X l tl):PI X tg l (iStr tl):=by
 intro pins s σ H R I h
 refine thn (hl pins s σ H _ I h) fun v s1 zq=>?_
 obtain ⟨x,H1,I1,r1,q1⟩:=zq
 obtain ⟨z,e,q⟩:=q1
 subst e
 obtain ⟨t,rfl⟩:=r1
 have fin:∀ (o:Obj) (T:String),(T = "str_ascii_iterator" \/ T = "str_iterator") -> (s1.heap.push o).IsStrIter s1.heap.objs.size T z t 0 -> PIE X pins σ tg R (.ref s1.heap.objs.size) { s1 with heap:=s1.heap.push o }:=fun o T hT hs=>by
   refine ⟨s1.heap.objs.size,[s1.heap.objs.size],_,_,H1,rfl,I1.kept (t':=s1.toks) fun b o e=>Heap.get?_push_of_some _ e,a2x (x:=z) (t:=t) _ T hT,⟨hs,Nat.zero_le _⟩,fun b hb=>?_,q⟩
   have e:b = s1.heap.objs.size:=by simpa using hb
   subst e
   exact I1.fpOk (Nat.le_refl _) (I1.hok.fresh (Nat.le_refl _))
 cases ha:z.cps.all (· < 128)
 . exact wpAny_pyIter_wide ha (fin _ _ (.inr rfl) ⟨_,Heap.get?_push_size _ rfl,rfl,rfl⟩)
 . exact wpAny_pyIter_ascii ha (fin _ _ (.inl rfl) ⟨_,Heap.get?_push_size _ rfl,rfl,rfl⟩)
theorem oq:bx X (.builtin "isinstance") (fun xs H Q => ∃ a ys,xs = [.ref a,.ty "tuple"] /\ SqT X.K H a ys /\ Q (.bl true) H):=by
 intro pins s σ H xs us Q I r h
 obtain ⟨a,ys,rfl,hq,q⟩:=h
 cases r with
 | cons r1 r =>
   cases r with
   | cons r2 r =>
     cases r
     cases r1
     cases r2
     obtain ⟨its,rv,p,hz⟩:=I.tuple hq
     obtain ⟨o,e,hc,_⟩:=p
     exact IsiPair.tuple_tuple e hc ⟨.bl true,H,I,rfl,q⟩
end
theorem yt (t:SetTable) (es:Array (Int × Value)) (h:Int) (x:Value):(layNew t es h x).2.1.led = t.led:=by
 unfold layNew
 split
 . dsimp only
   unfold SetTable.orStandIn
   split <;> rfl
 . rfl
theorem kd {t t':SetTable} {hs:Array Int} {n:Nat} {o:Array Nat} (h:t.relaid hs n = some (t',o)):t'.led = t.led /\ t'.plain = t.plain:=by
 unfold SetTable.relaid SetTable.laid at h
 cases e:SetTable.layClean (SetTable.sizeAbove n - 1) hs with
 | none=>rw [e] at h; cases h
 | some ow =>
   rw [e] at h
   have h':=Option.some.inj h
   cases h'
   exact ⟨rfl,rfl⟩
theorem v4 (t:SetTable) (es:Array (Int × Value)) (n:Nat):(relayAll t es n).2.1.led = t.led:=by
 unfold relayAll
 split
 . rename_i t' o e
   dsimp only
   split
   . exact (kd e).1
   . rfl
 . rfl
theorem og (t:SetTable) (es:Array (Int × Value)) (n:Nat) (hp:(relayAll t es n).2.1.plain = true):t.plain = true:=by
 unfold relayAll at hp
 split at hp
 . rename_i t' o e
   dsimp only at hp
   split at hp
   . rw [<- (kd e).2]; exact hp
   . cases hp
 . cases hp
noncomputable def g8:Value -> Str
 | .str x _=>x
 | _=>⟨#[]⟩
noncomputable def SSet (P:Program) (w:World) (h:Heap) (a:Addr) (ss:List Str):Prop :=
 ∃ o es ep t,h.get? a = some o /\ o.ExactSet /\ o.data = .set es ep t /\ ElemsOf (strKind P w) es.toList /\ es.toList.map (fun e=>g8 e.2) = ss /\ ss.Nodup /\ es.size < scanBound /\ t.fits es.size = true /\
   t.led = !w.params.followText "set-order" /\ (1 <= es.size -> t.plain = false)
theorem zp {P:Program} {w:World} {x:Str} {v:Value} (h:(strKind P w).is x v = true):∃ u,v = .str x u:=Value.isStrOf_shape h
theorem qc {P:Program} {w:World} {l:List (Int × Value)} (h:ElemsOf (strKind P w) l) {e:Int × Value} (he:e ∈ l):∃ u,e.2 = .str (g8 e.2) u:=by
 obtain ⟨⟨k,hk,_⟩,_⟩:=h e he
 obtain ⟨u,hu⟩:=zp hk
 exact ⟨u,by rw [hu]; rfl⟩
theorem a44 {P:Program} {w:World} {l:List (Int × Value)} (h:ElemsOf (strKind P w) l) (x:Str):(l.findIdx? (fun e=>(strKind P w).is x e.2)).isSome = decide (x ∈ l.map fun e=>g8 e.2):=by
 rw [Bool.eq_iff_iff,List.findIdx?_isSome,List.any_eq_true,decide_eq_true_eq,List.mem_map]
 constructor
 . rintro ⟨e,he,hk⟩
   obtain ⟨u,hu⟩:=zp hk
   exact ⟨e,he,by rw [hu]; rfl⟩
 . rintro ⟨e,he,rfl⟩
   obtain ⟨u,hu⟩:=qc h he
   refine ⟨e,he,?_⟩
   rw [hu]
   exact strKind_is _ _ _ _
section
variable {P:Program} {w:World} {A:Around} {E:Value -> Shared -> Prop} {s:Shared}
theorem a2e {a:Addr} {ss:List Str} {x:Str} {u:Tok} {Q:Bool -> Shared -> Prop} (hS:SSet P w s.heap a ss) (hroom:ss.length + 1 < scanBound)
   (h:∀ h' ss' b,Heap.SameBut a s.heap h' -> SSet P w h' a ss' -> (if x ∈ ss then ss' = ss else ss'.Perm (ss ++ [x])) -> Q b { s with heap:=h' }) :
   wpAny (model P w) A (setAddHashed a (.str x u) (hashStr w x)) Q E s:=by
 obtain ⟨o,es,ep,t,ho,hex,hd,hel,hss,hnd,hb,hf,hled,hpl⟩:=hS
 have hkey:(strKind P w).is x (.str x u) = true:=strKind_is _ _ _ _
 have hn:es.size = ss.length:=by rw [<- hss,List.length_map,Array.length_toList]
 unfold setAddHashed setAddHashedIn
 refine wpAny_holding (wpAny_bind (wpAny_setState_of ho hd hf ?_))
 dsimp only
 rw [byScan_of (knd:=strKind P w) rfl hb hel]
 simp only [↓reduceIte]
 unfold setAddByScan
 refine wpAny_bind ?_
 refine wpAny_bind (wpAny_rule ?_)
 refine wpAny_bind (wpAny_setScan_of (knd:=strKind P w) hkey ho hd hf hel ?_)
 have hfm:=a44 hel x
 rw [hss] at hfm
 cases hr:List.findIdx? (fun e=>(strKind P w).is x e.2) es.toList with
 | some j =>
   dsimp only
   rw [hr] at hfm
   have hx:x ∈ ss:=of_decide_eq_true (Eq.symm hfm)
   refine wpAny_pure (wpAny_pure ?_)
   have:=h s.heap ss false (Heap.SameBut.refl a s.heap) ⟨o,es,ep,t,ho,hex,hd,hel,hss,hnd,hb,hf,hled,hpl⟩ (by rw [if_pos hx])
   exact this
 | none =>
   dsimp only
   rw [hr] at hfm
   have hx:x ∉ ss:=of_decide_eq_false (Eq.symm hfm)
   have hgw:∀ (b:Bool) {s₁:Shared} {Q':Unit -> Shared -> Prop},Q' () s₁ -> wpAny (model P w) A (match b with | true=>rule "set.scan.the-table-gave-way" | false=>pure ()) Q' E s₁ :=
     fun b s₁ Q' hq=>by cases b <;> first | exact wpAny_pure hq | exact wpAny_rule hq
   have hperm:=layNew_perm t es (hashStr w x) (.str x u)
   have hfits:=layNew_fits t es (hashStr w x) (.str x u)
   have hled1:=yt t es (hashStr w x) (.str x u)
   show wpAny (model P w) A _ _ E s
   have hash:(strKind P w).hash x = hashStr w x:=rfl
   try rw [hash]
   generalize hL:layNew t es (hashStr w x) (.str x u) = L at hperm hfits hled1 |-
   obtain ⟨es1,t1,wasDummy,gave⟩:=L
   dsimp only at hperm hfits hled1 |-
   rw [Array.toList_push] at hperm
   have hel1:ElemsOf (strKind P w) es1.toList:=(ElemsOf.push (knd:=strKind P w) hel hkey rfl).perm hperm
   have hss1:(es1.toList.map fun e=>g8 e.2).Perm (ss ++ [x]):=by
     have:=hperm.map (fun e:Int × Value=>g8 e.2)
     rw [List.map_append,hss] at this
     exact this
   have hsz1:es1.size = ss.length + 1:=by rw [<- Array.length_toList,hperm.length_eq,List.length_append,Array.length_toList,hn]; rfl
   have hb1:es1.size < scanBound:=by rw [hsz1]; exact hroom
   have hnd1:(es1.toList.map fun e=>g8 e.2).Nodup:=by
     refine hss1.nodup_iff.mpr ?_
     rw [List.nodup_append]
     exact ⟨hnd,by simp,fun y hy z hz e=>by rw [List.mem_singleton.mp hz] at e; exact hx (e ▸ hy)⟩
   refine wpAny_bind (hgw _ ?_)
   have tail:∀ t2:SetTable,t2.fits es1.size = true -> t2.led = t.led -> t2.plain = false -> ∀ (g:Bool -> Sem Unit),(∀ (b:Bool) (s₁:Shared) (Q':Unit -> Shared -> Prop),Q' () s₁ -> wpAny (model P w) A (g b) Q' E s₁) ->
       wpAny (model P w) A (do
         storeSet a es1 t2
         if (!wasDummy && t2.tooFull) = true then do
             g (relayAll t2 es1 (SetTable.grown es1.size)).2.2
             storeSet a (relayAll t2 es1 (SetTable.grown es1.size)).1 (relayAll t2 es1 (SetTable.grown es1.size)).2.1
             pure (some true)
           else pure (some true)) (fun r s'=>r = some true /\ ∃ h' ss',s' = { s with heap:=h' } /\ Heap.SameBut a s.heap h' /\ SSet P w h' a ss' /\ ss'.Perm (ss ++ [x])) E s:=by
     intro t2 hf2 hl2 hp2 g hg
     refine wpAny_bind (wpAny_storeSet_of ho hd ?_ (fits_of_scanBound hb1))
     have ho1:(s.heap.update a (Obj.putSet es1 t2)).get? a = some { o with data := .set es1 (ep + 1) t2 }:=by
       have:=Heap.get?_update_self (Obj.putSet es1 t2) ho (by rw [putSet_of es1 t2 hd]; rfl)
       rw [putSet_of es1 t2 hd] at this; exact this
     have hsb1:=Heap.SameBut.update s.heap a (Obj.putSet es1 t2)
     split
     . have hp:=relayAll_perm t2 es1 (SetTable.grown es1.size)
       have hfr:=relayAll_fits t2 es1 (SetTable.grown es1.size)
       have hlr:=v4 t2 es1 (SetTable.grown es1.size)
       have hpr:=og t2 es1 (SetTable.grown es1.size)
       generalize hRl:relayAll t2 es1 (SetTable.grown es1.size) = Rl at hp hfr hlr hpr |-
       obtain ⟨es2,t3,gave2⟩:=Rl
       dsimp only at hp hfr hlr hpr |-
       have hsz:es2.size = es1.size:=by rw [<- Array.length_toList,hp.length_eq,Array.length_toList]
       have hb2:es2.size < scanBound:=by rw [hsz]; exact hb1
       refine wpAny_bind (hg _ _ _ ?_)
       refine wpAny_bind (wpAny_storeSet_of ho1 rfl ?_ (fits_of_scanBound hb2))
       have ho2:((s.heap.update a (Obj.putSet es1 t2)).update a (Obj.putSet es2 t3)).get? a = some { o with data := .set es2 (ep + 1 + 1) t3 }:=by
         have:=Heap.get?_update_self (Obj.putSet es2 t3) ho1 (by rw [putSet_of es2 t3 rfl]; rfl)
         rw [putSet_of (o:={ o with data := .set es1 (ep + 1) t2 }) es2 t3 rfl] at this; exact this
       have hss2:=hp.map (fun e:Int × Value=>g8 e.2)
       refine wpAny_pure ⟨rfl,_,es2.toList.map (fun e=>g8 e.2),rfl,hsb1.trans (Heap.SameBut.update _ a _),⟨_,es2,ep + 1 + 1,t3,ho2,hex,rfl,hel1.perm hp,rfl,hss2.nodup_iff.mpr hnd1,hb2,hfr,hlr.trans (hl2.trans hled),fun _=>?_⟩,hss2.trans hss1⟩
       cases hq:t3.plain with
       | false=>rfl
       | true=>rw [hpr hq] at hp2; cases hp2
     . exact wpAny_pure ⟨rfl,_,es1.toList.map (fun e=>g8 e.2),rfl,hsb1,⟨_,es1,ep + 1,t2,ho1,hex,rfl,hel1,rfl,hnd1,hb1,hf2,hl2.trans hled,fun _=>hp2⟩,hss1⟩
   have fin:∀ s':Shared,(∃ h' ss',s' = { s with heap:=h' } /\ Heap.SameBut a s.heap h' /\ SSet P w h' a ss' /\ ss'.Perm (ss ++ [x])) -> Q true s':=by
     rintro s' ⟨h',ss',rfl,hsb,hS',hp'⟩
     exact h h' ss' true hsb hS' (by rw [if_neg hx]; exact hp')
   split
   . refine wpAny_bind ?_
     rw [hashByValue_scannable 8 (x := .str x u) rfl]
     refine wpAny_pure ?_
     dsimp only [plainKind]
     simp only [Bool.false_eq_true,if_false]
     refine wpAny_mono (tail { t1 with plain:=false } (SetTable.fits_plain_off hfits) hled1 rfl _ ?_) (fun r s' hq=>?_) fun _ _ e=>e
     . intro b s₁ Q' hq; cases b <;> first | exact wpAny_pure hq | exact wpAny_rule hq
     . obtain ⟨rfl,hq⟩:=hq
       exact wpAny_pure (fin s' hq)
   . rename_i hnp
     refine wpAny_bind (wpAny_pure ?_)
     simp only [↓reduceIte]
     refine wpAny_mono (tail t1 hfits hled1 (by simpa using hnp) _ ?_) (fun r s' hq=>?_) fun _ _ e=>e
     . intro b s₁ Q' hq; cases b <;> first | exact wpAny_pure hq | exact wpAny_rule hq
     . obtain ⟨rfl,hq⟩:=hq
       exact wpAny_pure (fin s' hq)
end
inductive Dd:List Str -> List Str -> Prop
 | nil:Dd [] []
 | old {xs ss:List Str} {x:Str}:Dd xs ss -> x ∈ ss -> Dd (xs ++ [x]) ss
 | new {xs ss ss':List Str} {x:Str}:Dd xs ss -> x ∉ ss -> ss'.Perm (ss ++ [x]) -> Dd (xs ++ [x]) ss'
theorem Dd.mem {xs ss:List Str} (h:Dd xs ss):∀ y,y ∈ ss ↔ y ∈ xs:=by
 induction h with
 | nil=>intro y; exact Iff.rfl
 | old d hx ih =>
   rename_i zs ss x
   intro y
   rw [ih y,List.mem_append,List.mem_singleton]
   constructor
   . exact .inl
   . rintro (q | rfl)
     . exact q
     . exact (ih y).mp hx
 | new d hx hp ih =>
   rename_i zs ss ss' x
   intro y
   rw [hp.mem_iff,List.mem_append,List.mem_append,ih y]
theorem Dd.nodup {xs ss:List Str} (h:Dd xs ss):ss.Nodup:=by
 induction h with
 | nil=>exact List.nodup_nil
 | old d hx ih=>exact ih
 | new d hx hp ih =>
   rename_i zs ss ss' x
   refine hp.nodup_iff.mpr (List.nodup_append.mpr ⟨ih,by simp,fun y hy z hz e=>?_⟩)
   rw [List.mem_singleton.mp hz] at e
   exact hx (e ▸ hy)
theorem Dd.len {xs ss:List Str} (h:Dd xs ss):ss.length <= xs.length:=by
 induction h with
 | nil=>exact Nat.le_refl _
 | old d hx ih=>rw [List.length_append]; exact Nat.le_trans ih (Nat.le_add_right _ _)
 | new d hx hp ih=>rw [hp.length_eq,List.length_append,List.length_append]; exact Nat.add_le_add_right ih _
theorem xh:∀ {vs:List Value} {xs:List Str},StrsAre vs xs -> ∀ (i:Nat) (v:Value),vs[i]? = some v -> ∃ x t,xs[i]? = some x /\ v = .str x t
 | _,_,.nil,i,v,h=>by simp at h
 | _,_,.cons x t r,0,v,h=>by simp at h; exact ⟨x,t,rfl,h.symm⟩
 | _,_,.cons x t r,i + 1,v,h=>by
   obtain ⟨y,u,e1,e2⟩:=xh r i v (by simpa using h)
   exact ⟨y,u,by simpa using e1,e2⟩
section
variable {P:Program} {w:World} {A:Around} {R:Result -> Shared -> Prop} {I:Addr} {fp wr:List Addr} {G:Array GenState -> Array GenState -> Prop} {n:Nat} {Pv:Nat -> Value -> Prop} {St:Nat -> Shared -> Prop}
theorem SSet.at {h h':Heap} {a:Addr} {ss:List Str} (hS:SSet P w h a ss) (k:∀ o,h.get? a = some o -> h'.get? a = some o):SSet P w h' a ss:=by
 obtain ⟨o,es,ep,tb,ho,rest⟩:=hS
 exact ⟨o,es,ep,tb,k o ho,rest⟩
theorem mh (W:WalksS P w A.in1 I fp wr G n Pv St) (S:Addr) (hSf:S ∉ fp) (xs:List Str) (hn:xs.length = n) (hval:∀ i v,Pv i v -> ∃ x t,xs[i]? = some x /\ v = .str x t) (hb:n + 1 < scanBound) :
   ∀ (k i:Nat) (s:Shared) (ss:List Str),n - i = k -> i <= n -> St i s -> SSet P w s.heap S ss -> Dd (xs.take i) ss ->
     (∀ s' ss',Moved (S :: wr) G s s' -> SSet P w s'.heap S ss' -> Dd xs ss' -> R (.ok (.ret .none)) s') ->
     codeAny (model P w) A (.builtin "set.update.loop" ⟨[.ref S,.ref I],[]⟩) R s:=by
 have hSw:S ∉ wr:=fun h=>hSf (W.sub _ h)
 have hsub:∀ b ∈ wr,b ∈ S :: wr:=fun b hb=>List.mem_cons_of_mem _ hb
 intro k
 induction k with
 | zero =>
   intro i s ss hk hi hst hS hd hR
   have hin:i = n:=by lia
   subst hin
   refine codeAny_builtin PyProof.Rows.F.entry_set_update_loop ?_
   rw [Around.under_plainId PyProof.Rows.F.plain_set_update_loop _]
   show wpAny _ A.in1 (pyNext (.ref I) >>= _) _ _ s
   refine wpAny_bind (W.done s _ _ hst fun s' hm=>?_)
   show wpAny _ A.in1 (ret Value.none) _ _ s'
   refine wpAny_pure (hR s' ss (hm.mono hsub) (hS.at fun o e=>hm.heap S _ hSw e) ?_)
   rw [List.take_of_length_le (Nat.le_of_eq hn)] at hd
   exact hd
 | succ k ih =>
   intro i s ss hk hi hst hS hd hR
   have hlt:i < n:=by lia
   refine codeAny_builtin PyProof.Rows.F.entry_set_update_loop ?_
   rw [Around.under_plainId PyProof.Rows.F.plain_set_update_loop _]
   show wpAny _ A.in1 (pyNext (.ref I) >>= _) _ _ s
   refine wpAny_bind (W.item i s _ _ hlt hst fun v s' hP hst' hm=>?_)
   obtain ⟨x,t,hx,rfl⟩:=hval i v hP
   have hS':SSet P w s'.heap S ss:=hS.at fun o e=>hm.heap S _ hSw e
   show wpAny _ A.in1 (holding [Value.str x t] (setAdd S (.str x t)) >>= _) _ _ s'
   refine wpAny_bind (wpAny_holding ?_)
   unfold setAdd
   refine wpAny_holding ?_
   refine wpAny_bind ((strKind P w).pyHash (k:=x) (strKind_is _ _ _ _) ?_)
   have hl:ss.length <= i:=by have:=hd.len; rw [List.length_take] at this; lia
   refine a2e (s:={ s' with toks:=s'.toks + 1 }) hS' (by lia) fun h' ss' b hsb hS2 hss=>?_
   have hd':Dd (xs.take (i + 1)) ss':=by
     have e:xs.take (i + 1) = xs.take i ++ [x]:=by rw [List.take_add_one,hx]; rfl
     rw [e]
     by_cases hm:x ∈ ss
     . rw [if_pos hm] at hss
       rw [hss]
       exact .old hd hm
     . rw [if_neg hm] at hss
       exact .new hd hm hss
   refine wpAny_pure ⟨plainId_quiet PyProof.Rows.F.plain_set_update_loop _,ih (i + 1) _ ss' (by lia) hlt (W.frame _ s' _ _ hst' (Nat.le_succ _) fun b hb o e=>?_) hS2 hd' fun s'' ss'' hm'' hS'' hd''=>?_⟩
   . rw [hsb.2 b (fun h:b = S=>hSf (by rw [<- h]; exact hb))]; exact e
   . refine hR s'' ss'' (Moved.trans W.gtrans ((hm.mono hsub).then_heap (Nat.le_succ _) fun b o hb e=>?_) hm'') hS'' hd''
     rw [hsb.2 b (fun h:b = S=>hb (by rw [h]; exact List.mem_cons_self))]; exact e
end
section
variable {P:Program} {w:World} {A:Around} {E:Value -> Shared -> Prop} {s:Shared}
theorem lw (a:Value) {Q₁:Value -> Shared -> Prop}
   (h:Q₁ (.ref s.heap.objs.size) { s with heap:=s.heap.push { cls := .type "set",dict:=none,data := .set #[] 0 (.fresh 0 0 (!w.params.followText "set-order")) } }) :
   codeAny (model P w) A (.call (.builtin "set.__new__") ⟨[.type "set",a],[]⟩) (wants Q₁ E) s:=by
 refine codeAny_of_tree ?_
 show wpAny _ A.in1 (do checkBuiltinCall "set.__new__" ⟨[.type "set",a],[]⟩; again (.builtin "set.__new__" ⟨[.type "set",a],[]⟩)) _ _ s
 refine wpAny_bind (wpAny_of_eq (PySem.F.newCall_set_1 a) (wpAny_pure ⟨plainId_quiet PySem.F.plain_set_new _,codeAny_builtin PySem.F.entry_set_new ?_⟩))
 rw [Around.under_plainId PySem.F.plain_set_new _]
 unfold Builtin.«set.__new__» Builtin.Frozenset.newClass
 have hsub:=sub_set_self
 obtain ⟨hp,g,d,tk,os⟩:=s
 dsimp only
 wp_walk
 refine wpAny_askSetting (wpAny_pure ?_)
 dsimp only
 simp only [newObj]
 refine wpAny_bind (wpAny_alloc (wpAny_pure ?_))
 exact wpAny_pure h
set_option maxHeartbeats 16000000 in
theorem qw {l:Addr} {items:Array Value} {xs:List Str} {Q:Value -> Shared -> Prop}
   (hh:A.handled = none) (hl:s.heap.IsList l items) (hi:StrsAre items.toList xs) (hb:items.size + 1 < scanBound)
   (h:∀ (h':Heap) (tk:Nat) (ss:List Str),SSet P w h' s.heap.objs.size ss -> Dd xs ss -> (∀ b o,b < s.heap.objs.size -> s.heap.get? b = some o -> h'.get? b = some o) -> Q (.ref s.heap.objs.size) { s with heap:=h',toks:=tk }) :
   wpAny (model P w) A (call (.type "set") [.ref l]) Q E s:=by
 obtain ⟨c,tl,hmro⟩:=PySem.F.called_set.mro
 have hmade:=PySem.F.called_set.made
 have hsub:=PySem.F.called_set.sub
 refine wpAny_call (codeAny_of_tree ?_)
 show wpAny _ _ (callAny (.type "set") _) _ _ _
 refine wpAny_pure ⟨Code.quiet_builtin _ (by decide +kernel),codeAny_builtin PySem.F.entry_type_call ?_⟩
 rw [Around.under_plain (weight_type_call_type "set" [.ref l] []) rfl]
 have h1:=PySem.F.called_set.notType
 have h2:=PySem.F.called_set.canCreate
 have hct:=PySem.F.typeCall_set_1 (.ref l)
 repeat (any_goals (first | assumption | wp_step))
 refine codeAny_mono (lw (.ref l) (E:=E) (Q₁:=fun obj s₁=>obj = .ref s.heap.objs.size /\ s₁ = { s with heap:=s.heap.push { cls := .type "set",dict:=none,data := .set #[] 0 (.fresh 0 0 (!w.params.followText "set-order")) } }) ⟨rfl,rfl⟩) fun r s₁ hr=>?_
 cases r with
 | error e=>exact hr
 | ok fl =>
   cases fl with
   | ret obj =>
     obtain ⟨rfl,rfl⟩:=hr
     generalize hled:(!w.params.followText "set-order") = led
     have hS:(s.heap.push { cls := .type "set",dict:=none,data := .set #[] 0 (.fresh 0 0 led) }).get? s.heap.objs.size = some { cls := .type "set",dict:=none,data := .set #[] 0 (.fresh 0 0 led) }:=Heap.get?_push_size _ rfl
     have hT:Shared.TypeIs { s with heap:=s.heap.push { cls := .type "set",dict:=none,data := .set #[] 0 (.fresh 0 0 led) } } (.ref s.heap.objs.size) "set" := ⟨_,hS,rfl⟩
     have hli:=PySem.F.called_set.init.lookup
     have hbi:=PySem.F.called_set.init.bind (.ref s.heap.objs.size)
     repeat (any_goals (first | assumption | wp_step))
     refine codeAny_mono (codeAny_call_builtin (R:=wants (fun r s₂=>r = .none /\ ∃ h' tk ss,s₂ = { s with heap:=h',toks:=tk } /\ SSet P w h' s.heap.objs.size ss /\ Dd xs ss /\
         (∀ b o,b < s.heap.objs.size -> s.heap.get? b = some o -> h'.get? b = some o)) E) PySem.F.called_set.init.plain PySem.F.entry_set_init (check_set_init_1 hT ?_)) fun r₂ s₂ hr₂=>?_
     . obtain ⟨ol,hol,hcl,nl,hdl⟩:=hl
       obtain ⟨ocls,odict,odata,oslots⟩:=ol
       simp only at hcl hdl
       subst hcl; subst hdl
       have hol':(s.heap.push { cls := .type "set",dict:=none,data := .set #[] 0 (.fresh 0 0 led) }).get? l = some { cls := .type "list",dict:=odict,data := .seq items nl,slots:=oslots }:=Heap.get?_push_of_some _ hol
       have hsls:=PySem.F.sub_list_set
       have hslf:=PySem.F.sub_list_frozenset
       have hne:(Value.type "list" == Value.type "dict") = false:=by decide
       have hl1:(s.heap.push { cls := .type "set",dict:=none,data := .set #[] 0 (.fresh 0 0 led) }).IsList l items:=⟨_,hol',rfl,nl,rfl⟩
       unfold Builtin.«set.__init__» noKeywords Builtin.Frozenset.updateFrom
       generalize hPI:pyIter = PI
       wp_walk
       subst hPI
       refine wpAny_pyIter_list hl1 ?_
       refine wpAny_bind (wpAny_runValue ?_)
       have hlS:l < s.heap.objs.size:=Heap.lt_size hol
       have hh3:A.in1.in1.in1.handled = none:=by simp [hh]
       have hneI:l ≠ (s.heap.push { cls := .type "set",dict:=none,data := .set #[] 0 (.fresh 0 0 led) }).objs.size:=by
         rw [Heap.size_push]; exact Nat.ne_of_lt (Nat.lt_succ_of_lt hlS)
       have hSf:s.heap.objs.size ∉ [(s.heap.push { cls := .type "set",dict:=none,data := .set #[] 0 (.fresh 0 0 led) }).objs.size,l]:=by
         rw [Heap.size_push]; simp only [List.mem_cons,List.mem_singleton,List.not_mem_nil,or_false,not_or]
         exact ⟨Nat.ne_of_lt (Nat.lt_succ_self _),Nat.ne_of_gt hlS⟩
       have hlen:xs.length = items.size:=by have:=hi.length; simpa using this.symm
       have hval:∀ (i:Nat) (v:Value),items[i]? = some v -> ∃ x t,xs[i]? = some x /\ v = .str x t:=fun i v hv=>xh hi i v (by rw [Array.getElem?_toList]; exact hv)
       refine mh ((Walks.list hh3 _ l hneI items).toS) s.heap.objs.size hSf xs hlen hval hb (items.size - 0) 0 _ [] (by lia) (Nat.zero_le _)
         ⟨⟨_,Heap.get?_push_size _ rfl,rfl,rfl⟩,(hl1.push _)⟩ ?hS0 (by rw [List.take_zero]; exact .nil) ?hR
       case hS0 =>
         have hget:((s.heap.push { cls := .type "set",dict:=none,data := .set #[] 0 (.fresh 0 0 led) }).push { cls := .type "list_iterator",data := .fields #[.ref l,.int 0 0] }).get? s.heap.objs.size
             = some { cls := .type "set",dict:=none,data := .set #[] 0 (.fresh 0 0 led) }:=Heap.get?_push_of_some _ hS
         exact ⟨_,#[],0,_,hget,⟨rfl,rfl,rfl⟩,rfl,fun e he=>by simp at he,rfl,List.nodup_nil,by decide,by rfl,hled.symm,fun q=>absurd q (by simp)⟩
       case hR =>
         intro s' ss' hm hS' hd'
         obtain ⟨h',g',d',tk',os'⟩:=s'
         have eg:g' = s.gens:=hm.gens
         have ed:d' = s.drawn:=hm.drawn
         have eo:os' = s.os:=hm.os
         subst eg; subst ed; subst eo
         show wpAny _ _ _ _ _ _
         refine wpAny_pure ?_
         show wpAny _ _ (ret Value.none) _ _ _
         refine wpAny_pure ⟨rfl,h',tk',ss',rfl,hS',hd',fun b o hb e=>?_⟩
         have hb1:b ≠ s.heap.objs.size:=Nat.ne_of_lt hb
         have hb2:b ≠ (s.heap.push { cls := .type "set",dict:=none,data := .set #[] 0 (.fresh 0 0 led) }).objs.size:=by
           rw [Heap.size_push]; exact Nat.ne_of_lt (Nat.lt_succ_of_lt hb)
         exact hm.heap b o (by simp only [List.mem_cons,List.mem_singleton,List.not_mem_nil,or_false,not_or]; exact ⟨hb1,hb2⟩) (Heap.get?_push_of_some _ (Heap.get?_push_of_some _ e))
     . cases r₂ with
       | error e=>exact hr₂
       | ok fl₂ =>
         cases fl₂ with
         | ret r =>
           obtain ⟨rfl,h',tk,ss,rfl,hS',hd',hk'⟩:=hr₂
           repeat (any_goals (first | assumption | wp_step))
           exact h _ _ ss hS' hd' hk'
         | _=>exact hr₂.elim
   | _=>exact hr.elim
end
namespace SF
theorem entry_set_iter:entryFor table "set.__iter__" = some Builtin.«frozenset.__iter__» := entryFor_alias (id' := "frozenset.__iter__") (by kernel_rfl) rfl (by decide +kernel) (by kernel_rfl)
theorem slot_next:Slot "set_iterator" "__next__" "set_iterator.__next__" :=
 .of (owner := "set_iterator") (n := "__next__") (by rw [typeLookup_type,builtinLookup_eq_fast]; kernel_rfl) (by decide +kernel) (by decide +kernel) (by decide +kernel)
   (by first | exact .inl (by decide +kernel) | exact .inr (by decide +kernel)) (by rw [isSubtype_type]; kernel_rfl)
theorem entry_next:entryFor table "set_iterator.__next__" = some Builtin.«set_iterator.__next__» := entryFor_of_tree (by kernel_rfl)
theorem args_next (a:Value):argsOk "set_iterator.__next__" ⟨[a],[]⟩:=by unfold argsOk; kernel_rfl
theorem slot_self:Slot "set_iterator" "__iter__" "set_iterator.__iter__" :=
 .of (owner := "set_iterator") (n := "__iter__") (by rw [typeLookup_type,builtinLookup_eq_fast]; kernel_rfl) (by decide +kernel) (by decide +kernel) (by decide +kernel)
   (by first | exact .inl (by decide +kernel) | exact .inr (by decide +kernel)) (by rw [isSubtype_type]; kernel_rfl)
theorem entry_self:entryFor table "set_iterator.__iter__" = some Builtin.«dict_keyiterator.__iter__» :=
 entryFor_alias (id' := "dict_keyiterator.__iter__") (by kernel_rfl) rfl (by decide +kernel) (by kernel_rfl)
theorem args_self (a:Value):argsOk "set_iterator.__iter__" ⟨[a],[]⟩:=by unfold argsOk; kernel_rfl
theorem set_len:typeLookup (.type "set") "__len__" = pure (some (.builtin "set.__len__")):=by rw [typeLookup_type,builtinLookup_eq_fast]; kernel_rfl
theorem sub_set:isSubtype (.type "set") (.type "set") = pure true:=by rw [isSubtype_type]; kernel_rfl
end SF
open PySem PySem.Spec PyProof.Rows
theorem jp {α:Type}:∀ (l:List α) (i:Nat) (h:i < l.length),(l[i] :: l.eraseIdx i).Perm l
 | x :: r,0,_=>List.Perm.refl _
 | x :: r,i + 1,h=>by
   have h':i < r.length:=by simpa using h
   exact (List.Perm.swap x r[i] (r.eraseIdx i)).trans ((jp r i h').cons x)
theorem lc {α:Type} (next:Nat -> Nat):∀ (fuel k:Nat) (left:List α) (out:Array α),left.length = fuel -> (pickOrder.go next fuel k left out).toList.Perm (out.toList ++ left)
 | 0,k,left,out,h=>by
   have e:left = []:=List.eq_nil_of_length_eq_zero h
   subst e
   simp [pickOrder.go]
 | fuel + 1,k,left,out,h=>by
   have hlt:next k % left.length < left.length:=Nat.mod_lt _ (by lia)
   unfold pickOrder.go
   rw [List.getElem?_eq_getElem hlt]
   dsimp only
   refine (lc next fuel (k + 1) _ _ (by rw [List.length_eraseIdx_of_lt hlt]; lia)).trans ?_
   rw [Array.toList_push,List.append_assoc]
   refine List.Perm.append_left _ ?_
   rw [List.singleton_append]
   exact jp _ _ hlt
theorem qd {α:Type} (next:Nat -> Nat) (xs:Array α):(pickOrder next xs).toList.Perm xs.toList:=by
 have:=lc next xs.size 0 xs.toList #[] (by simp)
 simpa [pickOrder] using this
section
variable {P:Program} {w:World} {A:Around} {E:Value -> Shared -> Prop}
theorem yu {src:Source} {n:Nat} {s:Shared} {Q:Nat -> Shared -> Prop} (hn:n ≠ 0) (h:∀ i d,i < n -> Q i { s with drawn:=d }):wpAny (model P w) A (choose src n) Q E s:=by
 intro Γ p hΓ
 unfold choose
 rw [Sem.wp_choose]
 exact ⟨hn,h _ _ (Nat.mod_lt _ (Nat.pos_of_ne_zero hn))⟩
theorem jb {α:Type}:∀ (n:Nat) (xs:List α) (s:Shared) (Q:List α -> Shared -> Prop),xs.length = n -> (∀ ys d,ys.Perm xs -> Q ys { s with drawn:=d }) -> wpAny (model P w) A (drawOrder n xs) Q E s
 | 0,xs,s,Q,hl,h=>by
   have e:xs = []:=List.eq_nil_of_length_eq_zero hl
   subst e
   exact wpAny_pure (h [] s.drawn (List.Perm.refl _))
 | n + 1,[],s,Q,hl,h=>by simp at hl
 | n + 1,x :: r,s,Q,hl,h=>by
   unfold drawOrder
   refine wpAny_bind (yu (by rw [hl]; exact Nat.succ_ne_zero n) fun i d hi=>?_)
   rw [List.getElem?_eq_getElem hi]
   dsimp only
   refine wpAny_bind (jb n _ _ _ (by rw [List.length_eraseIdx_of_lt hi]; lia) fun ys d' hp=>?_)
   refine wpAny_pure (h _ d' ?_)
   exact (hp.cons _).trans (jp _ _ hi)
end
theorem pw {α:Type}:∀ l:List α,(List.range l.length).filterMap (fun i=>l[i]?) = l
 | []=>rfl
 | x :: r=>by
   rw [List.length_cons,List.range_succ_eq_map,List.filterMap_cons]
   simp only [List.getElem?_cons_zero]
   rw [List.filterMap_map]
   exact congrArg (x :: ·) (pw r)
noncomputable def re (first:Value) (i:Nat) (S:Addr) (n ep:Nat):Obj:={ cls := .type "set_iterator",dict:=none,data := .fields #[first,.int i 0,.ref S,.int n 0,.int ep 0],slots := #[] }
inductive Ord (w:World) (S:Addr) (es:Array (Int × Value)) (ep:Nat) (t:SetTable) (h:Heap):Value -> Nat -> List Value -> Prop
 | text (i:Nat):w.params.followText "set-order" = true -> Ord w S es ep t h (.int 0 0) i ((pickOrder (w.params.setOrder S ep) es).toList.map (·.2))
 | drawn (i:Nat) (T:Addr) (ps:List Nat):w.params.followText "set-order" = false -> IsTup h T (ps.map fun (p:Nat)=>Value.int p 0).toArray -> (∀ p ∈ ps,p < es.size) -> Ord w S es ep t h (.ref T) i (ps.filterMap fun p=>(es[p]?).map (·.2))
 | none (k i:Nat):w.params.followText "set-order" = false -> es.size = 0 -> Ord w S es ep t h (.int k 0) i []
 | one0 (e:Int × Value):w.params.followText "set-order" = false -> es = #[e] -> Ord w S es ep t h (.int 0 0) 0 [e.2]
 | one1 (e:Int × Value) (j:Nat):w.params.followText "set-order" = false -> es = #[e] -> t.place = #[j] -> Ord w S es ep t h (.int (j + 1:Nat) 0) 1 [e.2]
noncomputable def a54 (P:Program) (w:World) (S I T0:Addr) (es:Array (Int × Value)) (ep:Nat) (t:SetTable) (ord:List Value) (i:Nat) (h:Heap):Prop :=
 ∃ first o,h.get? I = some (re first i S es.size ep) /\ h.get? S = some o /\ o.data = .set es ep t /\ Ord w S es ep t h first i ord /\ ∀ T,first = .ref T -> T = T0
section
variable {P:Program} {w:World} {A:Around} {E:Value -> Shared -> Prop} {s:Shared}
theorem a7s (j:Nat):SetTable.below #[j] (j + 1) = 1:=by
 simp [SetTable.below,SetTable.below.go]
theorem a7x (j:Nat):SetTable.below #[j] 0 = 0:=by
 simp [SetTable.below,SetTable.below.go]
theorem jw {Q:Bool -> Shared -> Prop} (h:Q (w.params.followText "set-order") s):wpAny (model P w) A setsByText Q E s:=by
 unfold setsByText
 exact wpAny_bind (wpAny_askSetting (wpAny_pure h))
theorem mz {S:Addr} {es:Array (Int × Value)} {ep i k:Nat} {t:SetTable} {ord:List Value} {o:Obj} {Q:Option (Value × Nat) -> Shared -> Prop} (ho:s.heap.get? S = some o) (hd:o.data = .set es ep t) (hf:t.fits es.size = true)
   (hled:t.led = !w.params.followText "set-order") (od:Ord w S es ep t s.heap (.int (k:Int) 0) i ord)
   (h:∀ k':Nat,(∀ v,ord[i]? = some v -> Ord w S es ep t s.heap (.int (k':Int) 0) (i + 1) ord) -> Q ((ord[i]?).map fun v=>(v,k')) s):wpAny (model P w) A (setNext S k i ep) Q E s:=by
 unfold setNext
 refine wpAny_bind (wpAny_setState_of ho hd hf ?_)
 dsimp only
 refine wpAny_bind (jw ?_)
 generalize hk:(k:Int) = ki at od
 generalize hfst:Value.int ki 0 = first at od
 cases od with
 | text i ht =>
   cases hfst
   obtain rfl:k = 0:=by lia
   rw [ht]
   simp only [if_true,bne_self_eq_false,Bool.false_eq_true,if_false]
   unfold setWalk
   refine wpAny_bind ?_
   refine wpAny_bind (wpAny_setState_of ho hd hf ?_)
   dsimp only
   refine wpAny_bind (jw ?_)
   rw [ht]
   simp only [if_true]
   refine wpAny_bind (wpAny_askSetting (wpAny_pure ?_))
   refine wpAny_pure ?_
   have:=h 0 fun v _=>Ord.text (i + 1) ht
   rw [List.getElem?_map,Array.getElem?_toList] at this
   rw [Option.map_map] at this
   exact this
 | drawn=>cases hfst
 | none k' i ht h0 =>
   cases hfst
   rw [ht]
   have e0:es = #[]:=Array.eq_empty_of_size_eq_zero h0
   subst e0
   have hl:t.led = true:=by rw [hled,ht]; rfl
   rw [if_neg Bool.false_ne_true]
   split
   . rename_i hdr
     have hdr':(!t.plain && decide ((#[]:Array (Int × Value)).size > 1)) = true:=hdr
     simp at hdr'
   . refine wpAny_bind (show wpAny (model P w) A (if (!t.led && !(#[]:Array (Int × Value)).isEmpty) = true then unsupported "set:maker-not-led" else pure ()) _ _ _ from ?_)
     rw [hl]
     refine wpAny_pure (wpAny_pure ?_)
     have:=h k fun v e=>by simp at e
     simpa using this
 | one0 e ht he =>
   cases hfst
   obtain rfl:k = 0:=by lia
   rw [ht]
   subst he
   have hl:t.led = true:=by rw [hled,ht]; rfl
   have hpz:t.place.size = 1:=by
     simp only [SetTable.fits,Bool.and_eq_true,beq_iff_eq] at hf
     exact hf.1
   obtain ⟨j,hj⟩:∃ j,t.place = #[j]:=by
     generalize t.place = pl at hpz
     obtain ⟨l⟩:=pl
     obtain ⟨j,rfl⟩:=List.length_eq_one_iff.mp hpz
     exact ⟨j,rfl⟩
   rw [if_neg Bool.false_ne_true]
   split
   . rename_i hdr
     have hdr':(!t.plain && decide ((#[e]:Array (Int × Value)).size > 1)) = true:=hdr
     simp at hdr'
   . refine wpAny_bind (show wpAny (model P w) A (if (!t.led && !(#[e]:Array (Int × Value)).isEmpty) = true then unsupported "set:maker-not-led" else pure ()) _ _ _ from ?_)
     rw [hl]
     refine wpAny_pure (wpAny_pure ?_)
     rw [hj,a7x]
     exact h (j + 1) fun v _=>Ord.one1 e j ht rfl hj
 | one1 e j ht he hp =>
   cases hfst
   obtain rfl:k = j + 1:=by lia
   rw [ht]
   subst he
   have hl:t.led = true:=by rw [hled,ht]; rfl
   rw [if_neg Bool.false_ne_true]
   split
   . rename_i hdr
     have hdr':(!t.plain && decide ((#[e]:Array (Int × Value)).size > 1)) = true:=hdr
     simp at hdr'
   . refine wpAny_bind (show wpAny (model P w) A (if (!t.led && !(#[e]:Array (Int × Value)).isEmpty) = true then unsupported "set:maker-not-led" else pure ()) _ _ _ from ?_)
     rw [hl]
     refine wpAny_pure (wpAny_pure ?_)
     rw [hp,a7s]
     exact h 0 fun v e=>by simp at e
theorem Ord.keep {S:Addr} {es:Array (Int × Value)} {ep i:Nat} {t:SetTable} {ord:List Value} {first:Value} {h h':Heap} (od:Ord w S es ep t h first i ord) (k:∀ T o,first = .ref T -> h.get? T = some o -> h'.get? T = some o):Ord w S es ep t h' first i ord:=by
 cases od with
 | text i ht=>exact .text i ht
 | drawn i T ps ht hT hp =>
   obtain ⟨o,e,c⟩:=hT
   exact .drawn i T ps ht ⟨o,k T o rfl e,c⟩ hp
 | none kk i ht h0=>exact .none kk i ht h0
 | one0 e ht he=>exact .one0 e ht he
 | one1 e j ht he hp=>exact .one1 e j ht he hp
theorem Ord.kind {S:Addr} {es:Array (Int × Value)} {ep i:Nat} {t:SetTable} {ord:List Value} {first:Value} {h:Heap} (od:Ord w S es ep t h first i ord) :
   (∃ k:Nat,first = .int (k:Int) 0) \/ ∃ (T:Addr) (ps:List Nat),first = .ref T /\ w.params.followText "set-order" = false /\ IsTup h T (ps.map fun (p:Nat)=>Value.int p 0).toArray /\ (∀ p ∈ ps,p < es.size) /\ ord = ps.filterMap fun p=>(es[p]?).map (·.2):=by
 cases od with
 | text i ht=>exact .inl ⟨0,rfl⟩
 | drawn i T ps ht hT hp=>exact .inr ⟨T,ps,rfl,ht,hT,hp,rfl⟩
 | none k i ht h0=>exact .inl ⟨k,rfl⟩
 | one0 e ht he=>exact .inl ⟨0,rfl⟩
 | one1 e j ht he hp=>exact .inl ⟨j + 1,rfl⟩
theorem Ord.step {S:Addr} {es:Array (Int × Value)} {ep i:Nat} {t:SetTable} {ord:List Value} {T:Addr} {h:Heap} (od:Ord w S es ep t h (.ref T) i ord):Ord w S es ep t h (.ref T) (i + 1) ord:=by
 cases od with
 | drawn i T ps ht hT hp=>exact .drawn (i + 1) T ps ht hT hp
end
theorem uq {es:Array (Int × Value)}:∀ {ps:List Nat},(∀ p ∈ ps,p < es.size) -> ∀ (i:Nat),(ps.filterMap fun p=>(es[p]?).map (·.2))[i]? = (ps[i]?).bind fun p=>(es[p]?).map (·.2)
 | [],_,i=>by simp
 | p :: r,hp,i=>by
   have h1:p < es.size:=hp p (by simp)
   have e:es[p]? = some es[p]:=by simp [h1]
   rw [List.filterMap_cons,e]
   cases i with
   | zero=>simp [e]
   | succ i=>simpa using uq (fun q hq=>hp q (List.mem_cons_of_mem _ hq)) i
section
variable {P:Program} {w:World} {A:Around}
theorem a1r (hh:A.handled = none) {S I:Addr} {es:Array (Int × Value)} {ep:Nat} {t:SetTable} {ord:List Value} (fp:List Addr) (hI:I ∈ fp) (hS:S ∈ fp) (hne:S ≠ I) (hf:t.fits es.size = true) (hled:t.led = !w.params.followText "set-order")
   {T0:Addr} (hT:T0 ∈ fp) (hTI:T0 ≠ I) :
   Walks P w A I fp [I] ord.length (fun i v=>ord[i]? = some v) (a54 P w S I T0 es ep t ord) where
 sub:=fun b hb=>by rw [List.mem_singleton.mp hb]; exact hI
 frame:=fun i h h' st hk=>by
   obtain ⟨first,o,h1,h2,h3,h4,h5⟩:=st
   exact ⟨first,o,hk I hI _ h1,hk S hS _ h2,h3,h4.keep (fun T o e q=>hk T (by rw [h5 T e]; exact hT) o q),h5⟩
 item:=fun i s Q E hi st hQ=>by
   obtain ⟨first,o,h1,h2,h3,h4,h5⟩:=st
   have ty:s.TypeIs (.ref I) "set_iterator" := ⟨_,h1,rfl⟩
   unfold pyNext
   refine wpAny_bind (wpAny_attempt (wpAny_callSpecial?_slot (name:=Str.ofString "__next__") ty SF.slot_next (wpAny_call_entry SF.slot_next ty SF.entry_next ?_ (SF.args_next _))))
   show wpAny _ _ (fieldsOf (.ref I) >>= _) _ _ s
   refine wpAny_bind (wpAny_fieldsOf h1 rfl ?_)
   show wpAny _ _ (setEntries S >>= _) _ _ s
   refine wpAny_bind (wpAny_setEntries_of h2 h3 hf ?_)
   simp only [bne_self_eq_false,Bool.false_eq_true,if_false]
   have hv:ord[i]? = some ord[i]:=List.getElem?_eq_getElem hi
   rcases h4.kind with ⟨k,rfl⟩ | ⟨T,ps,rfl,ht,hTt,hps,hord⟩
   . show wpAny _ _ (setNext S (Int.toNat (k:Int)) (Int.toNat (i:Int)) (Int.toNat (ep:Int)) >>= _) _ _ s
     simp only [Int.toNat_natCast]
     refine wpAny_bind (mz h2 h3 hf hled h4 fun k' hk'=>?_)
     rw [hv]
     show wpAny _ _ (setField (.ref I) 0 (rawInt k') >>= _) _ _ s
     refine wpAny_bind (wpAny_setField_rec h1 (by simp) fun ha ha1 ha2=>?_)
     refine wpAny_bind (wpAny_setField_rec ha1 (by simp) fun hb hb1 hb2=>?_)
     refine wpAny_pure ⟨_,rfl,wpAny_pure (hQ _ hb s.toks hv ⟨.int (k':Int) 0,o,hb1,?_,h3,(hk' _ hv).keep (fun T o e=>by cases e),(fun T e=>by cases e)⟩ fun b o hb' e=>?_)⟩
     . rw [hb2.2 S hne,ha2.2 S hne]; exact h2
     . have:b ≠ I:=fun z=>hb' (by simp [z])
       rw [hb2.2 b this,ha2.2 b this]; exact e
   . have hTne:T ≠ I:=by rw [h5 T rfl]; exact hTI
     have hg:=uq hps i
     rw [<- hord,hv] at hg
     cases hpi:ps[i]? with
     | none=>rw [hpi] at hg; cases hg
     | some p =>
       rw [hpi] at hg
       have hp:p < es.size:=hps p (List.mem_of_getElem? hpi)
       have hep:es[p]? = some es[p]:=by simp [hp]
       have hg':some ord[i] = (es[p]?).map (·.2):=hg
       rw [hep] at hg'
       have hval:ord[i] = es[p].2:=Option.some.inj hg'
       show wpAny _ _ (seqItems? (.ref T) >>= _) _ _ s
       obtain ⟨oT,eT,cT,nT,dT⟩:=hTt
       refine wpAny_bind (wpAny_seqItems eT dT ?_)
       dsimp only
       have hpl:((ps.map fun (p:Nat)=>Value.int p 0).toArray)[Int.toNat (i:Int)]? = some (.int (p:Int) 0):=by
         rw [Int.toNat_natCast,List.getElem?_toArray,List.getElem?_map,hpi]; rfl
       rw [hpl]
       show wpAny _ _ (setNextDrawn S (Int.toNat (p:Int)) (Int.toNat (ep:Int)) >>= _) _ _ s
       simp only [Int.toNat_natCast]
       unfold setNextDrawn
       refine wpAny_bind (wpAny_bind (wpAny_setState_of h2 h3 hf ?_))
       simp only [bne_self_eq_false,Bool.false_eq_true,if_false]
       rw [hep]
       refine wpAny_pure ?_
       refine wpAny_bind (wpAny_setField_rec h1 (by simp) fun hb hb1 hb2=>?_)
       refine wpAny_pure ⟨_,rfl,wpAny_pure (hQ _ hb s.toks (by rw [hv,hval]; rfl) ⟨.ref T,o,hb1,?_,h3,h4.step.keep (fun T' o e q=>?_),h5⟩ fun b o hb' e=>?_)⟩
       . rw [hb2.2 S hne]; exact h2
       . cases e; rw [hb2.2 T hTne]; exact q
       . have:b ≠ I:=fun z=>hb' (by simp [z])
         rw [hb2.2 b this]; exact e
 done:=fun s Q E st hQ=>by
   obtain ⟨first,o,h1,h2,h3,h4,h5⟩:=st
   have ty:s.TypeIs (.ref I) "set_iterator" := ⟨_,h1,rfl⟩
   have hv:ord[ord.length]? = none:=List.getElem?_eq_none (Nat.le_refl _)
   have stop:∀ h':Heap,(∀ b o,b ≠ I -> s.heap.get? b = some o -> h'.get? b = some o) -> wpAny (model P w) A.in1 (do raiseNew (<- newExc (.type "StopIteration") []):Sem Fin) (fun _ _=>False)
       (fun x s'=>wpAny (model P w) A (do let b <- isInstance x (.type "StopIteration"); if b = true then pure Option.none else throw x) Q E s') { s with heap:=h' }:=by
     intro h' hk
     refine wpAny_bind ?_
     simp only [newExc,newTuple]
     refine wpAny_bind (wpAny_newObj_type ?_ (by size_fits))
     refine wpAny_bind (m:=firstArgMember _ _) (wpAny_of_eq (a:=Value.none) (by first | rfl | (simp only [firstArgMember]; rfl)) ?_)
     refine wpAny_newObj_type ?_ (by size_fits)
     simp only [raiseNew]
     refine wpAny_bind (wpAny_handled ?_)
     rw [show A.in1.handled = none from hh]
     refine wpAny_bind (wpAny_pure (wpAny_throw ?_))
     refine wpAny_bind (wpAny_isInstance (T := "StopIteration") (b:=true) ⟨_,Heap.get?_push_size _ rfl,rfl⟩ isSubtype_stop ?_)
     exact wpAny_pure (hQ _ _ fun b o hb e=>Heap.get?_push_of_some _ (Heap.get?_push_of_some _ (hk b o (fun z=>hb (by simp [z])) e)))
   unfold pyNext
   refine wpAny_bind (wpAny_attempt (wpAny_callSpecial?_slot (name:=Str.ofString "__next__") ty SF.slot_next (wpAny_call_entry SF.slot_next ty SF.entry_next ?_ (SF.args_next _))))
   show wpAny _ _ (fieldsOf (.ref I) >>= _) _ _ s
   refine wpAny_bind (wpAny_fieldsOf h1 rfl ?_)
   show wpAny _ _ (setEntries S >>= _) _ _ s
   refine wpAny_bind (wpAny_setEntries_of h2 h3 hf ?_)
   simp only [bne_self_eq_false,Bool.false_eq_true,if_false]
   rcases h4.kind with ⟨k,rfl⟩ | ⟨T,ps,rfl,ht,hTt,hps,hord⟩
   . show wpAny _ _ (setNext S (Int.toNat (k:Int)) (Int.toNat (ord.length:Int)) (Int.toNat (ep:Int)) >>= _) _ _ s
     simp only [Int.toNat_natCast]
     refine wpAny_bind (mz h2 h3 hf hled h4 fun k' hk'=>?_)
     rw [hv]
     show wpAny _ _ (setField (.ref I) 2 .none >>= _) _ _ s
     refine wpAny_bind (wpAny_setField_rec h1 (by simp) fun ha ha1 ha2=>?_)
     refine wpAny_mono (stop ha fun b o hb e=>by rw [ha2.2 b hb]; exact e) (fun _ _ z=>z.elim) fun x s' z=>?_
     exact z
   . have hpi:ps[ord.length]? = none:=by
       have hg:=uq hps ord.length
       rw [<- hord,hv] at hg
       cases hpi:ps[ord.length]? with
       | none=>rfl
       | some p =>
         rw [hpi] at hg
         have hp:p < es.size:=hps p (List.mem_of_getElem? hpi)
         have hep:es[p]? = some es[p]:=by simp [hp]
         have hg':(none:Option Value) = (es[p]?).map (·.2):=hg
         rw [hep] at hg'
         cases hg'
     show wpAny _ _ (seqItems? (.ref T) >>= _) _ _ s
     obtain ⟨oT,eT,cT,nT,dT⟩:=hTt
     refine wpAny_bind (wpAny_seqItems eT dT ?_)
     dsimp only
     have hpl:((ps.map fun (p:Nat)=>Value.int p 0).toArray)[Int.toNat (ord.length:Int)]? = none:=by
       rw [Int.toNat_natCast,List.getElem?_toArray,List.getElem?_map,hpi]; rfl
     rw [hpl]
     show wpAny _ _ (setField (.ref I) 0 (rawInt 0) >>= _) _ _ s
     refine wpAny_bind (wpAny_setField_rec h1 (by simp) fun ha ha1 ha2=>?_)
     refine wpAny_bind (wpAny_setField_rec ha1 (by simp) fun hb hb1 hb2=>?_)
     refine wpAny_mono (stop hb fun b o hb' e=>by rw [hb2.2 b hb',ha2.2 b hb']; exact e) (fun _ _ z=>z.elim) fun x s' z=>?_
     exact z
 self:=fun i s Q E st hQ=>by
   obtain ⟨first,o,h1,h2,h3,h4,h5⟩:=st
   have ty:s.TypeIs (.ref I) "set_iterator" := ⟨_,h1,rfl⟩
   refine wpAny_pyIter_slot ty SF.slot_self (wpAny_call_entry SF.slot_self ty SF.entry_self ?_ (SF.args_self _))
   show wpAny _ _ (ret (.ref I)) _ _ s
   exact wpAny_pure ⟨_,rfl, "set_iterator",_,ty,SF.slot_next.lookup,hQ⟩
theorem ve {E:Value -> Shared -> Prop} {s:Shared} {S:Addr} {ss:List Str} {Q:Value -> Shared -> Prop} (hS:SSet P w s.heap S ss)
   (h:∀ (h':Heap) (d':Drawn) (I:Addr) (fp:List Addr) (ord:List Value) (St:Nat -> Heap -> Prop),(∀ b o,s.heap.get? b = some o -> h'.get? b = some o) -> s.heap.objs.size <= I -> I ∈ fp -> (∀ b ∈ fp,b < h'.objs.size /\ (b = S \/ s.heap.objs.size <= b)) ->
     (∀ A':Around,A'.handled = none -> Walks P w A' I fp [I] ord.length (fun i v=>ord[i]? = some v) St) -> St 0 h' -> (∃ ys,StrsAre ord ys /\ ys.Perm ss) -> Q (.ref I) { s with heap:=h',drawn:=d' }) :
   wpAny (model P w) A (pyIter (.ref S)) Q E s:=by
 obtain ⟨o,es,ep,t,ho,hex,hd,hel,hss,hnd,hb,hf,hled,hpl⟩:=hS
 have ty:s.TypeIs (.ref S) "set" := ⟨o,ho,hex.1⟩
 have hlt:S < s.heap.objs.size:=Heap.lt_size ho
 have hstr:∀ l:List (Int × Value),(∀ e ∈ l,e ∈ es.toList) -> StrsAre (l.map (·.2)) (l.map fun e=>g8 e.2):=by
   intro l
   induction l with
   | nil=>intro _; exact .nil
   | cons e r ih =>
     intro hm
     obtain ⟨u,hu⟩:=qc hel (hm e (by simp))
     have:=StrsAre.cons (g8 e.2) u (ih fun x hx=>hm x (List.mem_cons_of_mem _ hx))
     rw [<- hu] at this
     exact this
 refine wpAny_pyIter_slot ty PySem.F.slot_set_iter (wpAny_call_entry PySem.F.slot_set_iter ty SF.entry_set_iter ?_ (PySem.F.args_set_iter_1 _))
 show wpAny _ _ (Builtin.Frozenset.sizeOf S >>= _) _ _ s
 unfold Builtin.Frozenset.sizeOf
 refine wpAny_bind (wpAny_bind (wpAny_setEntries_of ho hd hf (wpAny_pure ?_)))
 unfold setDrawn
 refine wpAny_bind (wpAny_bind (wpAny_setState_of ho hd hf ?_))
 dsimp only
 refine wpAny_bind (jw (wpAny_pure ?_))
 have make:∀ (first:Value) (T0:Addr) (ord:List Value) (h1:Heap) (d1:Drawn),(∀ b ob,s.heap.get? b = some ob -> h1.get? b = some ob) -> s.heap.objs.size <= h1.objs.size -> (∀ T,first = .ref T -> T = T0) -> T0 < h1.objs.size -> (T0 = S \/ s.heap.objs.size <= T0) -> Ord w S es ep t h1 first 0 ord -> (∃ ys,StrsAre ord ys /\ ys.Perm ss) ->
     Q (.ref h1.objs.size) { s with heap:=h1.push (re first 0 S es.size ep),drawn:=d1 }:=by
   intro first T0 ord h1 d1 hk hsz hT hT1 hT2 od hord
   have hne:S ≠ h1.objs.size:=Nat.ne_of_lt (Nat.lt_of_lt_of_le hlt hsz)
   have szp:(h1.push (re first 0 S es.size ep)).objs.size = h1.objs.size + 1:=Heap.size_push ..
   refine h _ d1 h1.objs.size [h1.objs.size,S,T0] ord (a54 P w S h1.objs.size T0 es ep t ord) (fun b ob e=>Heap.get?_push_of_some _ (hk b ob e)) hsz (by simp) (fun b hb=>?_) (fun A' hA=>?_) ⟨first,o,Heap.get?_push_size _ rfl,Heap.get?_push_of_some _ (hk S o ho),hd,od.keep (fun T ob _ e=>Heap.get?_push_of_some _ e),hT⟩ hord
   . rw [szp]
     have hb':b = h1.objs.size \/ b = S \/ b = T0:=by simpa using hb
     rcases hb' with rfl | rfl | rfl
     . exact ⟨Nat.lt_succ_self _,.inr hsz⟩
     . exact ⟨Nat.lt_succ_of_lt (Nat.lt_of_lt_of_le hlt hsz),.inl rfl⟩
     . exact ⟨Nat.lt_succ_of_lt hT1,hT2⟩
   . exact a1r hA _ (by simp) (by simp) hne hf hled (by simp) (Nat.ne_of_lt hT1)
 have plain0:∀ (ord:List Value),Ord w S es ep t s.heap (.int 0 0) 0 ord -> (∃ ys,StrsAre ord ys /\ ys.Perm ss) -> Q (.ref s.heap.objs.size) { s with heap:=s.heap.push (re (.int 0 0) 0 S es.size ep) }:=fun ord od hord =>
   make (.int 0 0) S ord s.heap s.drawn (fun _ _ e=>e) (Nat.le_refl _) (fun T e=>by cases e) hlt (.inl rfl) od hord
 cases hbt:w.params.followText "set-order" with
 | true =>
   simp only [Bool.not_true,Bool.false_and,Bool.false_eq_true,if_false]
   refine wpAny_bind (wpAny_pure (wpAny_bind (wpAny_setEpoch_of ho hd hf ?_)))
   refine wpAny_bind (wpAny_newObj_type (wpAny_pure ⟨_,rfl, "set_iterator",_,⟨_,Heap.get?_push_size _ rfl,rfl⟩,SF.slot_next.lookup,?_⟩))
   refine plain0 _ (.text 0 hbt) ⟨_,hstr _ (fun e he=>(qd _ es).mem_iff.mp he),?_⟩
   rw [<- hss]; exact (qd _ es).map _
 | false =>
   show wpAny _ _ (if (!false && (!t.plain && decide (es.size > 1))) = true then _ else _) _ _ s
   by_cases h2:es.size > 1
   . have hp0:t.plain = false:=hpl (by lia)
     rw [if_pos (by simp [hp0,h2])]
     refine wpAny_bind (jb es.size (List.range es.size) s _ (by simp) fun ps d hps=>?_)
     have hpsl:ps.length = es.size:=by rw [hps.length_eq,List.length_range]
     refine wpAny_bind (wpAny_newObj_type ?_ ?_)
     . refine (wpAny_bind (wpAny_setEpoch_of (s:={ s with heap:=s.heap.push _,drawn:=d }) (Heap.get?_push_of_some _ ho) hd hf ?_))
       refine wpAny_bind (wpAny_newObj_type (wpAny_pure ⟨_,rfl, "set_iterator",_,⟨_,Heap.get?_push_size _ rfl,rfl⟩,SF.slot_next.lookup,?_⟩))
       have hlp:∀ p ∈ ps,p < es.size:=fun p hp=>List.mem_range.mp (hps.mem_iff.mp hp)
       refine make (.ref s.heap.objs.size) s.heap.objs.size (ps.filterMap fun p=>(es[p]?).map (·.2)) (s.heap.push _) d (fun b ob e=>Heap.get?_push_of_some _ e) (by rw [Heap.size_push]; exact Nat.le_succ _) (fun T e=>by cases e; rfl) (by rw [Heap.size_push]; exact Nat.lt_succ_self _) (.inr (Nat.le_refl _))
         (.drawn 0 _ ps hbt ⟨_,Heap.get?_push_size _ rfl,rfl,_,rfl⟩ hlp) ?_
       have e1:(ps.filterMap fun p=>(es[p]?).map (·.2)) = (ps.filterMap fun p=>es[p]?).map (·.2):=by rw [List.map_filterMap]
       have hpm:(ps.filterMap fun p=>es[p]?).Perm es.toList:=by
         have:=hps.filterMap (fun p=>es[p]?)
         have e2:=pw es.toList
         simp only [Array.getElem?_toList,Array.length_toList] at e2
         rw [e2] at this
         exact this
       refine ⟨_,by rw [e1]; exact hstr _ (fun e he=>hpm.mem_iff.mp he),?_⟩
       rw [<- hss]; exact hpm.map _
     . have hz:ps.length <= sizeLine:=by rw [hpsl]; exact fits_of_scanBound hb
       show (ps.map _).toArray.size <= sizeLine
       rw [List.size_toArray,List.length_map]; exact hz
   . rw [if_neg (by simp [h2])]
     refine wpAny_bind (wpAny_pure (wpAny_bind (wpAny_setEpoch_of ho hd hf ?_)))
     refine wpAny_bind (wpAny_newObj_type (wpAny_pure ⟨_,rfl, "set_iterator",_,⟨_,Heap.get?_push_size _ rfl,rfl⟩,SF.slot_next.lookup,?_⟩))
     by_cases h1:es.size = 0
     . refine plain0 [] (.none 0 0 hbt h1) ⟨[],.nil,?_⟩
       rw [<- hss,Array.eq_empty_of_size_eq_zero h1]
       exact List.Perm.refl _
     . obtain ⟨e,he⟩:∃ e,es = #[e]:=by
         obtain ⟨l⟩:=es
         have hl:l.length = 1:=by
           have a1:¬ l.length > 1:=h2
           have a2:¬ l.length = 0:=h1
           lia
         obtain ⟨e,rfl⟩:=List.length_eq_one_iff.mp hl
         exact ⟨e,rfl⟩
       refine plain0 [e.2] (.one0 e hbt he) ⟨[g8 e.2],hstr [e] (fun x hx=>by rw [he]; exact hx),?_⟩
       rw [<- hss,he]
       exact List.Perm.refl _
theorem sh {E:Value -> Shared -> Prop} {s:Shared} {S:Addr} {ss:List Str} {Q:List Value -> Shared -> Prop} (hh:A.handled = none) (hS:SSet P w s.heap S ss) (hl:ss.length <= sizeLine)
   (h:∀ (h':Heap) (d':Drawn) (tk:Nat) (ord:List Value) (ys:List Str),(∀ b o,s.heap.get? b = some o -> h'.get? b = some o) -> s.heap.objs.size <= h'.objs.size -> StrsAre ord ys -> ys.Perm ss -> Q ord { s with heap:=h',drawn:=d',toks:=tk }) :
   wpAny (model P w) A (collect (.ref S)) Q E s:=by
 obtain ⟨o,es,ep,t,ho,hex,hd,hrest⟩:=id hS
 have hlt:S < s.heap.objs.size:=Heap.lt_size ho
 unfold collect
 refine wpAny_bind (wpAny_runValue (codeAny_builtin entry_proto_collect' ?_))
 rw [Around.under_plainId PySem.F.plain_proto_collect _]
 show wpAny _ A.in1 (newList [] >>= fun l=>again (.builtin "list.__iadd__" ⟨[l,.ref S],[]⟩)) _ _ s
 refine wpAny_bind (wpAny_newObj_type ?_)
 refine wpAny_pure ⟨plainId_quiet PySem.F.plain_list_iadd _,codeAny_builtin entry_list_iadd' ?_⟩
 rw [Around.under_plainId PySem.F.plain_list_iadd _]
 generalize hH:s.heap.push { cls := .type "list",data := .seq ([]:List Value).toArray } = H
 have hHs:H.objs.size = s.heap.objs.size + 1:=by rw [<- hH,Heap.size_push]
 have old:∀ b ob,s.heap.get? b = some ob -> H.get? b = some ob:=fun b ob e=>by rw [<- hH]; exact Heap.get?_push_of_some _ e
 have hS1:SSet P w H S ss:=hS.at fun o e=>old S o e
 have hD:H.get? s.heap.objs.size = some { cls := .type "list",data := .seq #[] }:=by rw [<- hH]; exact Heap.get?_push_size _ rfl
 show wpAny _ A.in1 (Builtin.List.listExtendWith (.ref s.heap.objs.size) (.ref S) (.ref s.heap.objs.size)) _ _ { s with heap:=H }
 unfold Builtin.List.listExtendWith
 refine wpAny_bind (wpAny_typeOf (T := "set") (v := .ref S) (show Shared.TypeIs { s with heap:=H } (.ref S) "set" from ⟨o,old S o ho,hex.1⟩) ?_)
 have h1:Builtin.List.listSameRef (.ref s.heap.objs.size) (.ref S) = false:=by simp [Builtin.List.listSameRef,Nat.ne_of_gt hlt]
 have h2:(Value.type "set" == Value.type "list") = false:=by decide
 have h3:(Value.type "set" == Value.type "tuple") = false:=by decide
 simp only [h1,h2,h3,Bool.or_false,Bool.false_eq_true,if_false]
 refine wpAny_bind (ve (s:={ s with heap:=H }) hS1 fun h' d' I fp ord St hk hI hIf hfp W st zq=>?_)
 obtain ⟨ys,hys,hp⟩:=zq
 have ty':Shared.TypeIs { s with heap:=h',drawn:=d' } (.ref S) "set" := ⟨o,hk S o (old S o ho),hex.1⟩
 refine wpAny_bind (wpAny_holding ?_)
 unfold Builtin.List.listLengthHint
 refine wpAny_bind (wpAny_specialOf (T := "set") (v := .ref S) ty' SF.set_len ?_)
 wp_delta
 refine wpAny_bind (wpAny_isInstance (T := "set") (v := .ref S) (b:=true) ty' SF.sub_set ?_)
 show wpAny _ A.in1 (typeOf (Value.ref S) >>= _) _ _ _
 refine wpAny_bind (wpAny_typeOf (T := "set") (v := .ref S) ty' ?_)
 refine wpAny_pure ?_
 have hDI:s.heap.objs.size ≠ I:=fun z=>by
   have:H.objs.size <= I:=hI
   rw [hHs] at this
   lia
 have hSf:s.heap.objs.size ∉ fp:=fun hb=>by
   rcases (hfp _ hb).2 with z | z
   . exact absurd z (Nat.ne_of_gt hlt)
   . have:H.objs.size <= s.heap.objs.size:=z
     rw [hHs] at this
     lia
 have hlen:ord.length = ss.length:=by
   have a1:ord.length = ys.length:=hys.length
   rw [a1,hp.length_eq]
 have key:∀ (h1:Heap) (c₁:Nat),St 0 h1 -> (∀ b ob,b ≠ s.heap.objs.size -> h'.get? b = some ob -> h1.get? b = some ob) -> h1.get? s.heap.objs.size = some { cls := .type "list",data := .seq #[] c₁ } ->
     codeAny (model P w) A (.builtin "list.extend.loop" ⟨[.ref s.heap.objs.size,.ref I,.ref s.heap.objs.size],[]⟩)
       (fun r s'=>r = .ok (.ret (.ref s.heap.objs.size)) /\ ∃ acc' c',s'.heap.get? s.heap.objs.size = some { cls := .type "list",data := .seq acc' c' } /\ Q acc'.toList s') { s with heap:=h1,drawn:=d' }:=by
   intro h1 c₁ st1 hk1 hD1
   refine codeAny_extend_loopS (W A.in1 hh).toS (by rw [hlen]; exact hl) _ hSf _ ord.length 0 _ #[] c₁ rfl (Nat.zero_le _) st1 hD1 (ItemsOf.nil _) fun s' acc' c' hm hS' hacc=>?_
   refine ⟨rfl,acc',c',hS',?_⟩
   have eacc:acc'.toList = ord:=by
     refine List.ext_getElem? fun i=>?_
     rw [Array.getElem?_toList]
     by_cases hi:i < acc'.size
     . have e:acc'[i]? = some acc'[i]:=by simp [hi]
       rw [e,hacc.2 i _ e]
     . have hi':ord.length <= i:=by have:=hacc.1; lia
       rw [List.getElem?_eq_none hi']
       simp; lia
   have heq:s' = { s with heap:=s'.heap,drawn:=d',toks:=s'.toks }:=Moved.eq_with hm
   rw [eacc,heq]
   refine h s'.heap d' s'.toks ord ys (fun b ob e=>?_) (Nat.le_of_lt (Heap.lt_size hS')) hys hp
   have hb1:b ≠ s.heap.objs.size:=Nat.ne_of_lt (Heap.lt_size e)
   have hb2:b ≠ I:=fun z=>by
     have hz:H.objs.size <= b:=by rw [z]; exact hI
     rw [hHs] at hz
     exact Nat.lt_irrefl _ (Nat.lt_of_lt_of_le (Nat.lt_succ_of_lt (Heap.lt_size e)) hz)
   exact hm.heap b ob (by simp [hb1,hb2]) (hk1 b ob hb1 (hk b ob (old b ob e)))
 have hD':h'.get? s.heap.objs.size = some { cls := .type "list",data := .seq #[] }:=hk _ _ hD
 have fin:∀ (h1:Heap) (c₁:Nat),St 0 h1 -> (∀ b ob,b ≠ s.heap.objs.size -> h'.get? b = some ob -> h1.get? b = some ob) -> h1.get? s.heap.objs.size = some { cls := .type "list",data := .seq #[] c₁ } -> ∀ (R:Result -> Shared -> Prop),
     (∀ s' acc' c',s'.heap.get? s.heap.objs.size = some { cls := .type "list",data := .seq acc' c' } -> Q acc'.toList s' -> R (.ok (.ret (.ref s.heap.objs.size))) s') ->
     codeAny (model P w) A (.builtin "list.extend.loop" ⟨[.ref s.heap.objs.size,.ref I,.ref s.heap.objs.size],[]⟩) R { s with heap:=h1,drawn:=d' }:=by
   intro h1 c₁ a1 a2 a3 R hR
   refine codeAny_mono (key h1 c₁ a1 a2 a3) fun r s' zq=>?_
   obtain ⟨e,acc',c',q1,q2⟩:=zq
   subst e
   exact hR s' acc' c' q1 q2
 have last:∀ (R:Result -> Shared -> Prop),R = R -> True:=fun _ _=>trivial
 refine wpAny_ite_split (fun _=>?_) (fun _=>wpAny_pure ⟨plainId_quiet PySem.F.plain_extend_loop _,fin h' 0 st (fun b ob _ e=>e) hD' _ fun s' acc' c' q1 q2=>?_⟩)
 . refine wpAny_bind (wpAny_rule ?_)
   refine wpAny_bind ?_
   show wpAny _ _ (updateSeq s.heap.objs.size (·.push .none) >>= fun _=>updateSeq s.heap.objs.size (·.pop)) _ _ _
   refine wpAny_bind (wpAny_updateSeq hD' rfl ?_)
   have hS₂:=Heap.get?_update_self (Obj.mapSeq (·.push Value.none)) hD' rfl
   refine wpAny_updateSeq (hz:=by seq_fits) hS₂ rfl ?_
   have hS₃:=Heap.get?_update_self (Obj.mapSeq (·.pop)) hS₂ rfl
   refine wpAny_pure ⟨plainId_quiet PySem.F.plain_extend_loop _,fin _ _ ?_ (fun b ob hb e=>?_) hS₃ _ fun s' acc' c' q1 q2=>?_⟩
   . refine (W A.in1 hh).frame 0 _ _ st fun b hb o e=>?_
     have hbS:b ≠ s.heap.objs.size:=fun z=>hSf (z ▸ hb)
     exact (Heap.get?_update_other _ _ (Ne.symm hbS)).trans ((Heap.get?_update_other _ _ (Ne.symm hbS)).trans e)
   . exact (Heap.get?_update_other _ _ (Ne.symm hb)).trans ((Heap.get?_update_other _ _ (Ne.symm hb)).trans e)
   . show wpAny _ A (load s.heap.objs.size >>= _) _ _ _
     exact wpAny_bind (wpAny_load q1 (wpAny_pure q2))
 . show wpAny _ A (load s.heap.objs.size >>= _) _ _ _
   exact wpAny_bind (wpAny_load q1 (wpAny_pure q2))
theorem v5 {E:Value -> Shared -> Prop} {s:Shared} {S:Addr} {ss:List Str} {Q:Value -> Shared -> Prop} (hh:A.handled = none) (hS:SSet P w s.heap S ss) (h64:ss.length < 64)
   (h:∀ (h':Heap) (d':Drawn) (tk:Nat) (l:Addr) (vs:List Value) (zs:List Str) (e:Nat),(∀ b o,s.heap.get? b = some o -> h'.get? b = some o) -> s.heap.objs.size <= l -> h'.get? l = some { cls := .type "list",data := .seq vs.toArray e } -> StrsAre vs zs -> zs.Perm ss -> sortedS zs = true ->
     Q (.ref l) { s with heap:=h',drawn:=d',toks:=tk }) :
   wpAny (model P w) A (call (.builtin "sorted") [.ref S]) Q E s:=by
 refine Calls.call_function_entry kind_sorted plain_sorted entry_sorted (args_sorted1 _) ?_
 unfold Builtin.«sorted»
 refine wpAny_bind (m:=checkCount "sorted" 1 1 _) (wpAny_pure ?_)
 refine wpAny_bind (sh (A:=A.in1) (show A.in1.handled = none from hh) hS (by rw [sizeLine_eq]; lia) fun h1 d1 tk1 ord ys hk1 hsz1 hys hp1=>?_)
 have hn:ord.length < 64:=by
   have:ord.length = ys.length:=hys.length
   rw [this,hp1.length_eq]; exact h64
 refine wpAny_bind (wpAny_newList ?_ (by rw [sizeLine_eq]; lia))
 have hoL:(h1.push (seqObj "list" ord.toArray 0)).get? h1.objs.size = some (seqObj "list" ord.toArray 0):=Heap.get?_push_size _ rfl
 show wpAny _ _ _ _ _ { s with heap:=h1.push (seqObj "list" ord.toArray 0),drawn:=d1,toks:=tk1 }
 refine wpAny_bind (wpAny_holding (wpAny_call_entry slot_list_sort ⟨_,hoL,rfl⟩ entry_list_sort (list_sort_treeK strKind_oneLt hoL hys.keysOf (fun v₁ v₂ rest e=>keyKind_strs (by rw [<- e]; exact hys)) hn fun st' a1 a2=>⟨_,rfl,?_⟩) (args_list_sort _)))
 obtain ⟨zs,q1,q2,q3⟩:=sorted_out_str hys a1 a2
 refine wpAny_pure ⟨_,rfl,?_⟩
 obtain ⟨e,he⟩:=sortedHeap_at (out:=(arrOf st').map (·.2)) hoL
 refine h _ d1 tk1 h1.objs.size ((arrOf st').map (·.2)).toList zs e (fun b o q=>?_) hsz1 he q1 (q2.trans hp1) q3
 have hb:=Heap.lt_size (hk1 b o q)
 rw [sortedHeap_old (Nat.ne_of_lt hb) (by rw [Heap.size_push]; exact Nat.lt_succ_of_lt hb)]
 exact Heap.get?_push_of_some _ (hk1 b o q)
end
section
variable {X:Cx}
noncomputable def SetO (P:Program) (w:World) (a:Addr) (ss:List Str):HO := .ext fun h=>SSet P w h a ss
theorem qe:∀ {xs:List Str} {us:List Value},Vals (xs.map V.str) us -> StrsAre us xs
 | [],_,h=>by cases h; exact .nil
 | x :: r,_,h=>by
   cases h with
   | cons h1 h2=>obtain ⟨t,rfl⟩:=h1; exact .cons x t (qe h2)
theorem qg:∀ {us:List Value} {xs:List Str},StrsAre us xs -> Vals (xs.map V.str) us
 | _,_,.nil => .nil
 | _,_,.cons x t r => .cons ⟨t,rfl⟩ (qg r)
theorem a3s (hc:X.calm = true):bx X (.type "set") (fun vs H Q => ∃ (a:Addr) (xs:List Str),vs = [.ref a] /\ SqL X.K H a (xs.map V.str) /\ xs.length + 1 < scanBound /\
   ∀ p ss,H p = none -> Dd xs ss -> Q (.ref p) (upd H p (SetO X.prog X.w p ss))):=by
 intro pins s σ H vs us Q I r h
 obtain ⟨a,xs,rfl,hq,hz,q⟩:=h
 obtain ⟨u,rfl,ru⟩:=r.one
 cases ru
 obtain ⟨its,rv,p,_⟩:=I.list hq
 have hs:=qe rv
 have hl:its.length = xs.length:=hs.length
 refine qw (I.ok.hd hc) p.isList (by simpa using hs) (by rw [List.size_toArray,hl]; exact hz) fun h' tk ss hS hd hk=>?_
 have fr:H s.heap.objs.size = none:=I.hok.fresh (Nat.le_refl _)
 refine ⟨.ref s.heap.objs.size,upd H s.heap.objs.size (SetO X.prog X.w s.heap.objs.size ss),I.laid (t':=tk) (fun b o e=>hk b o (Heap.lt_size e) e) (Nat.le_refl _) ⟨hS,?_,fun h1 h2 h3 k=>?_⟩,rfl,q _ ss fr hd⟩
 . obtain ⟨o,_,_,_,ho,_⟩:=hS; exact ⟨o,ho⟩
 . exact SSet.at h3 k
theorem mr (hc:X.calm = true):bx X (.builtin "sorted") (fun vs H Q => ∃ (a:Addr) (ss:List Str),vs = [.ref a] /\ H a = some (SetO X.prog X.w a ss) /\ ss.length < 64 /\
   ∀ p zs,H p = none -> zs.Perm ss -> sortedS zs = true -> Q (.ref p) (upd H p (.lst (zs.map V.str)))):=by
 intro pins s σ H vs us Q I r h
 obtain ⟨a,ss,rfl,hq,hz,q⟩:=h
 obtain ⟨u,rfl,ru⟩:=r.one
 cases ru
 have hS:SSet X.prog X.w s.heap a ss:=(I.hok a _ hq).1
 refine v5 (I.ok.hd hc) hS hz fun h' d' tk l ws zs e hk hl hget hs hp hso=>?_
 have fr:H l = none:=I.hok.fresh hl
 have hzl:zs.length < 64:=by rw [hp.length_eq]; exact hz
 have ok':HOk X.prog X.w (upd H l (.lst (zs.map V.str))) h':=I.hok.laid (a:=l) (o := .lst (zs.map V.str)) hk hl ⟨by rw [List.length_map]; exact Nat.le_of_lt (iw (by lia)),ws,e,qg hs,hget⟩
 have un:Un (frs X.stack) [] H (upd H l (.lst (zs.map V.str))) s.heap h':=Un.laid hk hl fr
 exact ⟨.ref l,_,I.call (g':=s.gens) (d':=d') (t':=tk) (ch:=[]) un ok' I.bare (fun b z=>absurd z (by simp)),rfl,q l zs fr hp hso⟩
end
section
variable {P:Program} {w:World} {K:PySem.W.Frag} {mg:Str -> Option Value} {base:Heap} {N:List Str} {qual:Str} {scope:Scope} {f:Addr} {cd:Value} {A:Around} {outer:List Env} {s₀:Shared} {H₀:Hp} {E:XK}
end
section
variable {P:Program} {w:World} {K:PySem.W.Frag} {mg:Str -> Option Value} {base:Heap} {N:List Str} {qual:Str} {scope:Scope} {f:Addr} {cd:Value} {A:Around} {outer:List Env} {s₀:Shared} {H₀:Hp} {E:XK}
end
section
variable {X:Cx} {E:XK} {x:Str} {C:Addr} {B newId initId:String} {bmB:List Value} {np cpos pos:Pos} {e:Expr} {es:List Expr} {t:TA}
end
section
variable {X:Cx} {pins₀:List (Addr × Obj)} {E:XK}
theorem Inv.track {Y:Cx} {pins:List (Addr × Obj)} {σ:St} {H:Hp} {s:Shared} {a:Addr} {o:HO} (I:Inv Y pins σ H s) (hn:H a = none) (h0:Y.s₀.heap.get? a = none) (hL:a ≠ Y.env.locals) (hc:∀ x c,Y.env.cells.lookup x = some c -> c ≠ a)
   (hp:∀ p ∈ Y.pn ++ pins,p.1 ≠ a) (ho:ObjOk Y.prog Y.w (upd H a o) s.heap a o):Inv Y pins σ (upd H a o) s:=by
 have keep:∀ b u,H b = some u -> upd H a o b = some u:=fun b u e=>by rw [ag (az e hn)]; exact e
 refine ⟨I.ok,I.os,I.bare,⟨I.base.keep,I.base.slot,fun b ob e n hx=>?_,I.base.there,fun b xs e=>keep b _ (I.base.tups b xs e),fun b ob xs e=>keep b _ (I.base.frzs b ob xs e),fun b ps e=>?_⟩,I.loc,I.cell,?_,fun x c e=>?_,fun p q=>?_,fun b u e=>?_,I.len⟩
 . have:b ≠ a:=fun z=>by rw [z,h0] at e; cases e
   rw [ag this]; exact I.base.free b ob e n hx
 . obtain ⟨m,e'⟩:=I.base.tbls b ps e
   exact ⟨m,keep b _ e'⟩
 . rw [ag (Ne.symm hL)]; exact I.free
 . rw [ag (hc x c e)]; exact I.freeC x c e
 . obtain ⟨p1,p2,p3⟩:=I.pin p q
   exact ⟨p1,by rw [ag (hp p q)]; exact p2,p3⟩
 . by_cases hb:b = a
   . subst hb; rw [aa] at e; cases e; exact ho
   . rw [ag hb] at e
     exact (I.hok b u e).stay (fun _ _ _ q=>q) (fun c q=>keep c _ q) fun c xs q=>keep c _ q
end
section
variable {X:Cx} {E:XK} {c n:Str} {C:Addr} {i:Nat} {body suite:List Stmt} {b₀:Stmt} {tb ts:TS} {np hpos pos:Pos}
end
open PySem.Builtin PySem.Builtin.ObjectAttr PySem.Builtin.Getset_descriptor
section
variable {prog:Program} {w:World} {A:Around} {E:Value -> Shared -> Prop} {h:Heap} {g:Array GenState} {d:Drawn} {t:Nat} {os:OsState} {K:PySem.W.Frag} {a C:Addr} {o:Obj}
end
section
variable {X:Cx}
end
mutual
inductive Dp (K:PySem.W.Frag) (H:Hp):V -> PyData -> Prop
 | non:Dp K H .non .none
 | bl (b:Bool):Dp K H (.bl b) (.bool b)
 | int (i:Int):Dp K H (.int i) (.int i)
 | str (x:Str):Dp K H (.str x) (.str x)
 | lst {a:Addr} {xs:List V} {ds:List PyData}:SqL K H a xs -> DpAll K H xs ds -> Dp K H (.ref a) (.list ds)
 | tup {a:Addr} {xs:List V} {ds:List PyData}:SqT K H a xs -> DpAll K H xs ds -> Dp K H (.ref a) (.tuple ds)
inductive DpAll (K:PySem.W.Frag) (H:Hp):List V -> List PyData -> Prop
 | nil:DpAll K H [] []
 | cons {v:V} {vs:List V} {d:PyData} {ds:List PyData}:Dp K H v d -> DpAll K H vs ds -> DpAll K H (v :: vs) (d :: ds)
end
section
variable {X:Cx} {pins:List (Addr × Obj)} {σ:St} {H:Hp} {s:Shared}
mutual
theorem Dp.reads (I:Inv X pins σ H s):∀ {v:V} {d:PyData},Dp X.K H v d -> ∀ {u:Value},RelV v u -> ∃ as,Reads s.heap u d as
 | _,_,.non,_,r=>by cases r; exact ⟨_,.none⟩
 | _,_,.bl b,_,r=>by cases r; exact ⟨_,.bool b⟩
 | _,_,.int i,_,r=>by obtain ⟨t,rfl⟩:=r; exact ⟨_,.int i t⟩
 | _,_,.str x,_,r=>by obtain ⟨t,rfl⟩:=r; exact ⟨_,.str x t⟩
 | _,_,.lst hs ha,_,r=>by
   cases r
   obtain ⟨its,rv,⟨o,n,e,hc,_,hd⟩,_⟩:=I.list hs
   obtain ⟨as,ra⟩:=DpAll.reads I ha rv
   exact ⟨_,.list e hc hd (by simpa using ra)⟩
 | _,_,.tup hs ha,_,r=>by
   cases r
   obtain ⟨its,rv,⟨o,e,hc,n,hd⟩,_⟩:=I.tuple hs
   obtain ⟨as,ra⟩:=DpAll.reads I ha rv
   exact ⟨_,.tuple e hc hd (by simpa using ra)⟩
theorem DpAll.reads (I:Inv X pins σ H s):∀ {vs:List V} {ds:List PyData},DpAll X.K H vs ds -> ∀ {us:List Value},Vals vs us -> ∃ as,ReadsAll s.heap us ds as
 | _,_,.nil,_,r=>by cases r; exact ⟨_,.nil⟩
 | _,_,.cons h1 h2,_,r=>by
   cases r with
   | cons r1 r2 =>
     obtain ⟨as,q1⟩:=Dp.reads I h1 r1
     obtain ⟨bs,q2⟩:=DpAll.reads I h2 r2
     exact ⟨_,.cons q1 q2⟩
end
end
noncomputable def EqOk (d:PyData):Prop:=d.canLay0 = true /\ d.depth <= 16
section
variable {X:Cx}
inductive rNeDS (K:PySem.W.Frag) (x y:V) (H:Hp) (Q:VK):Prop
 | mk (dx dy:PyData) (h0:Dp K H x dx) (h1:Dp K H y dy) (h2:EqOk dx) (h3:EqOk dy) (h4:Q (.bl (!PyData.eqv dx dy)) H):rNeDS K x y H Q
noncomputable def rNeD (K:PySem.W.Frag):R2:=fun x y H Q=>rNeDS K x y H Q
theorem a89 (hu:X.A.units + 32 < cLine):OpR X (compareOp .NotEq) (rNeD X.K):=by
 intro pins s σ H x y v u Q I rx ry h
 obtain ⟨dx,dy,h1,h2,o1,o2,q⟩:=h
 obtain ⟨as,ra⟩:=Dp.reads I h1 rx
 obtain ⟨bs,rb⟩:=Dp.reads I h2 ry
 exact SeqAt.compareNe_reads ra rb o1.1 o2.1 (by have:=o1.2; have:=Nat.min_le_left dx.depth dy.depth; lia) ⟨.bl _,H,I,rfl,q⟩
end
noncomputable def cn (r:List Str):List PyData:=r.map .str
noncomputable def dRow (r:List Str):PyData := .tuple (cn r)
noncomputable def RowAt (K:PySem.W.Frag) (H:Hp) (a:Addr) (r:List Str):Prop:=SqT K H a (r.map V.str)
inductive RowsAtS (K:PySem.W.Frag) (H:Hp) (a:Addr) (rs:List (List Str)):Prop
 | mk (as:List Addr) (h0:H a = some (.lst (as.map V.ref))) (h1:Paired (fun b r=>RowAt K H b r) as rs):RowsAtS K H a rs
noncomputable def RowsAt (K:PySem.W.Frag) (H:Hp) (a:Addr) (rs:List (List Str)):Prop:=RowsAtS K H a rs
inductive TellAtS (K:PySem.W.Frag) (H:Hp) (a:Addr) (rss:List (List (List Str))):Prop
 | mk (as:List Addr) (h0:SqT K H a (as.map V.ref)) (h1:Paired (fun b rs=>RowsAt K H b rs) as rss):TellAtS K H a rss
noncomputable def a09 (K:PySem.W.Frag) (H:Hp) (a:Addr) (rss:List (List (List Str))):Prop:=TellAtS K H a rss
theorem Same.seqT {K:PySem.W.Frag} {H H':Hp} {a:Addr} {xs:List V} (e:Same H H') (h:SqT K H a xs):SqT K H' a xs:=by
 rcases h with (h | ⟨o,h⟩) | h
 . exact .inl (.inl (e _ _ h))
 . exact .inl (.inr ⟨o,e _ _ h⟩)
 . exact .inr h
theorem RowAt.same {K:PySem.W.Frag} {H H':Hp} {a:Addr} {r:List Str} (h:RowAt K H a r) (e:Same H H'):RowAt K H' a r:=e.seqT h
theorem RowsAt.same {K:PySem.W.Frag} {H H':Hp} {a:Addr} {rs:List (List Str)} (h:RowsAt K H a rs) (e:Same H H'):RowsAt K H' a rs:=by
 obtain ⟨as,h1,h2⟩:=h
 exact ⟨as,e _ _ h1,Paired.mapP h2 fun b r z=>z.same e⟩
theorem ij {K:PySem.W.Frag} {H:Hp}:∀ r:List Str,DpAll K H (r.map V.str) (cn r)
 | [] => .nil
 | x :: r => .cons (.str x) (ij r)
theorem RowAt.dp {K:PySem.W.Frag} {H:Hp} {a:Addr} {r:List Str} (h:RowAt K H a r):Dp K H (.ref a) (dRow r) := .tup h (ij r)
theorem vt {K:PySem.W.Frag} {H:Hp}:∀ {as:List Addr} {rs:List (List Str)},Paired (fun b r=>RowAt K H b r) as rs -> DpAll K H (as.map V.ref) (rs.map dRow)
 | _,_,.nil => .nil
 | _,_,.cons h1 h2 => .cons h1.dp (vt h2)
theorem RowsAt.dp {K:PySem.W.Frag} {H:Hp} {a:Addr} {rs:List (List Str)} (h:RowsAt K H a rs):Dp K H (.ref a) (.list (rs.map dRow)):=by
 obtain ⟨as,h1,h2⟩:=h
 exact .lst (SqL.of h1) (vt h2)
theorem ae {H:Hp} {p:Addr} (h:H p = none) (o:HO):Same H (upd H p o):=fun b u q=>by rw [ag (az q h)]; exact q
section
variable {X:Cx} {o e:Expr} {to:TE} {t:TA} {apos cpos:Pos}
end
open PySem.Builtin.Str
noncomputable def cutS (z:Str) (lo hi:Option Int):Str:=⟨((z.cps.toList.drop (HT.sIx z.length 0 lo)).take (HT.sIx z.length z.length hi - HT.sIx z.length 0 lo)).toArray⟩
theorem o6 (n d:Nat) (hd:d <= n) (v:Option Int) (hv:∀ i,v = some i -> -(n:Int) <= i \/ 0 <= i \/ True):HT.sIx n d v <= n:=by
 cases v with
 | none=>exact hd
 | some i =>
   show (if i < 0 then (i + (n:Int)).toNat else min i.toNat n) <= n
   split <;> lia
theorem ur (n d:Nat) (hd:d <= n) (v:Option Int):(match v with | none=>(d:Int) | some i=>max 0 (min (if i < 0 then i + (n:Int) else i) (n:Int))) = ((HT.sIx n d v:Nat):Int):=by
 cases v with
 | none=>rfl
 | some i =>
   show max 0 (min (if i < 0 then i + (n:Int) else i) (n:Int)) = ((if i < 0 then (i + (n:Int)).toNat else min i.toNat n:Nat):Int)
   split <;> lia
theorem xb (lo hi:Option Int) (n:Nat):strSliceIndices lo hi 1 n = (List.range (HT.sIx n n hi - HT.sIx n 0 lo)).map (fun k=>HT.sIx n 0 lo + k):=by
 have e1:=ur n 0 (Nat.zero_le _) lo
 have e2:=ur n n (Nat.le_refl _) hi
 have key:strSliceIndices lo hi 1 n = sliceRange ((HT.sIx n 0 lo:Nat):Int) ((HT.sIx n n hi:Nat):Int) 1:=by
   rw [<- e1,<- e2]
   cases lo <;> cases hi <;> rfl
 rw [key]
 generalize HT.sIx n 0 lo = a
 generalize HT.sIx n n hi = b
 unfold sliceRange
 simp only [show ((1:Int) > 0) = True from by simp,if_true]
 by_cases h:(a:Int) < b
 . rw [if_pos h]
   have e3:(((b:Int) - a + 1 - 1) / 1).toNat = b - a:=by lia
   rw [e3]
   refine List.map_congr_left fun k _=>?_
   lia
 . rw [if_neg h]
   have e4:b - a = 0:=by lia
   rw [e4]
   rfl
theorem a0h (z:Str) (lo hi:Option Int):((strSliceIndices lo hi 1 z.length).filterMap (z.cps[·]?)) = (z.cps.toList.drop (HT.sIx z.length 0 lo)).take (HT.sIx z.length z.length hi - HT.sIx z.length 0 lo):=by
 rw [xb]
 have hz:z.length = z.cps.toList.length:=by simp [Str.length]
 have hb:HT.sIx z.length z.length hi <= z.length:=o6 _ _ (Nat.le_refl _) hi fun _ _ => .inr (.inr trivial)
 generalize HT.sIx z.length 0 lo = a at *
 generalize HT.sIx z.length z.length hi = b at *
 by_cases h:a <= b
 . have:=StrLaws.picks z.cps.toList (b - a) a (by lia)
   simpa using this
 . have e:b - a = 0:=by lia
   rw [e]
   simp
section
variable {X:Cx}
noncomputable def rSlS:V -> Option Int -> Option Int -> Hp -> VK -> Prop:=fun x lo hi H Q => ∃ z,x = .str z /\ z.length <= sizeLine /\ Q (.str (cutS z lo hi)) H
theorem a0f:SlR X rSlS:=by
 intro pins s σ H x v vl vu lo hi sl Q I rx hs pl pu h
 obtain ⟨z,rfl,hz,q⟩:=h
 obtain ⟨t,rfl⟩:=rx
 refine ⟨"str",_,PySem.F.slot_str_getitem.lookup,typeIs_str s z t,?_⟩
 obtain ⟨l,hl,el⟩:∃ l:Option (Int × Tok),partValue l = vl /\ l.map (·.1) = lo:=by
   cases pl with
   | none=>exact ⟨none,rfl,rfl⟩
   | int i t=>exact ⟨some (i,t),rfl,rfl⟩
 obtain ⟨u,hu,eu⟩:∃ u:Option (Int × Tok),partValue u = vu /\ u.map (·.1) = hi:=by
   cases pu with
   | none=>exact ⟨none,rfl,rfl⟩
   | int i t=>exact ⟨some (i,t),rfl,rfl⟩
 have hS:s.heap.IsSlice sl l u none:=by
   obtain ⟨o,ho,hc,hd⟩:=hs
   exact ⟨o,ho,hc,by rw [hd,hl,hu]; rfl⟩
 refine getItem_meets (typeIs_str s z t) (by decide) PySem.F.slot_str_getitem PySem.F.entry_str_getitem (PySem.F.args_str_getitem_2 _ _) (meets_str_getitem_slice z t sl l u none (by decide)) ⟨hS,?_⟩
 have epick:slicePicked z l u none = strSliceIndices lo hi 1 z.length:=by
   unfold slicePicked
   rw [el,eu]
   rfl
 have ecut:((slicePicked z l u none).filterMap (z.cps[·]?)) = (z.cps.toList.drop (HT.sIx z.length 0 lo)).take (HT.sIx z.length z.length hi - HT.sIx z.length 0 lo):=by rw [epick]; exact a0h z lo hi
 unfold sliceMade
 split
 . rename_i hw
   have hlen:(slicePicked z l u none).length = z.length:=by simpa using hw
   have eq:cutS z lo hi = z:=by
     have e1:((z.cps.toList.drop (HT.sIx z.length 0 lo)).take (HT.sIx z.length z.length hi - HT.sIx z.length 0 lo)) = z.cps.toList:=by
       rw [epick,xb,List.length_map,List.length_range] at hlen
       have hb:HT.sIx z.length z.length hi <= z.length:=o6 _ _ (Nat.le_refl _) hi fun _ _ => .inr (.inr trivial)
       rcases Nat.eq_zero_or_pos z.length with h0 | h0
       . have:z.cps.toList = []:=by
           have:z.cps.toList.length = 0:=by simpa [Str.length] using h0
           exact List.eq_nil_of_length_eq_zero this
         rw [this]; simp
       . have ea:HT.sIx z.length 0 lo = 0:=by lia
         have eb:HT.sIx z.length z.length hi = z.length:=by lia
         rw [ea,eb,List.drop_zero,Nat.sub_zero]
         exact List.take_of_length_le (by simp [Str.length])
     unfold cutS
     rw [e1]
   rw [eq] at q
   exact ⟨.str z,H,I,⟨t,rfl⟩,q⟩
 . show (Made.str _).post _ s
   rw [ecut]
   refine ⟨?_,.str (cutS z lo hi),H,I.tok _,⟨_,rfl⟩,q⟩
   refine Nat.le_trans ?_ hz
   show ((z.cps.toList.drop (HT.sIx z.length 0 lo)).take (HT.sIx z.length z.length hi - HT.sIx z.length 0 lo)).toArray.size <= z.cps.size
   rw [List.size_toArray,List.length_take,List.length_drop,Array.length_toList]
   lia
end
noncomputable def Glob (mg:Str -> Option Value) (x:Str) (v:V):Prop := ∃ u,mg x = some u /\ RelV v u
theorem pe_g {X:Cx} {x:Str} {v:V} {pos:Pos} (h:Glob X.mg x v) (hg:autoParam (Gl X x) L2.a2_) (hd:autoParam ((x == ("__debug__" : Str)) = false) L2.a1_):PE X (.Name x pos) (tC v):=by
 obtain ⟨u,hm,r⟩:=h
 exact a5v hg hm r hd
theorem rn {sc:Scope} {env:Env} (hfree:∀ y ∈ sc.names,y.2 ≠ .free) (hcell:∀ y ∈ sc.names,y.2 ≠ .cell) (y:Str) (h:(relabel sc env).names.lookup y = some .cell \/ (relabel sc env).names.lookup y = some .free):False:=by
 have key:∀ k,(relabel sc env).names.lookup y = some k -> ∃ z ∈ sc.names,z.2 = k \/ z.2 = .free:=fun k e=>by
   have hm:=PySem.mem_of_lookup e
   obtain ⟨z,hz,ez⟩:=List.mem_map.mp hm
   refine ⟨z,hz,?_⟩
   obtain ⟨n,kk⟩:=z
   dsimp only at ez
   split at ez
   . rename_i hc
     simp only [Bool.and_eq_true,beq_iff_eq] at hc
     exact .inr hc.1.1
   . exact .inl (congrArg Prod.snd ez)
 rcases h with h | h
 . obtain ⟨z,hz,q | q⟩:=key _ h
   . exact hcell z hz q
   . exact hfree z hz q
 . obtain ⟨z,hz,q | q⟩:=key _ h
   . exact hfree z hz q
   . exact hfree z hz q
theorem uu {X:Cx} {elt iter:Expr} {x:Str} {px pos:Pos} {ifs:List Expr} {sc:Scope} {wi:TI} {tc:TT} {te:TE} (hi:PI X (.Name x px) iter wi) (hif:∀ s H C ex,PTs (blk X [x] s H sc [] C ex) ifs tc) (he:∀ s H C ex,PE (blk X [x] s H sc [] C ex) elt te)
   (hc:autoParam (X.calm = true) L2.a2_) (hkind:autoParam (sc.kind = .function) L2.a2_) (hx:autoParam (sc.names.lookup x = some .local) L2.a5_) (hfree:autoParam (∀ y ∈ sc.names,y.2 ≠ .free) L2.a5_) (hcell:autoParam (∀ y ∈ sc.names,y.2 ≠ .cell) L2.a5_)
   (hnames:autoParam (∀ y ∈ sc.names,y.2 = .local -> sc.names.lookup y.1 = some .local) L2.a5_) (hs:autoParam (∀ x,foldedSetIterable iter X.env x = pure x) L2.a3_) :
   PE X (.ListComp elt [⟨.Name x px,iter,ifs,0⟩] sc pos) (jn [] wi tc te) :=
 we [x] hc hi hif he hkind rfl (by simp) hx (PySem.closureFor_none hfree) hcell hnames (fun y c e=>by simp at e) (fun y h=>(rn hfree hcell y h).elim) (fun j hj=>by simp at hj) hs
structure JSeq (J:It) (I0:Hp -> Prop) (xs:List V):Prop where
 go:∀ i H,I0 H -> i < xs.length -> J.go i H
 stop:∀ i H,I0 H -> xs.length <= i -> J.stop i H
 yld:∀ i H x H',i < xs.length -> I0 H -> J.yld i H x H' -> H' = H /\ xs[i]? = some x
 stay:∀ H H',I0 H -> Same H H' -> I0 H'
theorem u1 {K:PySem.W.Frag} {a:Addr} {xs:List V}:JSeq (Itt K a) (fun H=>SqT K H a xs) xs where
 go:=fun i H h hi=>⟨xs,xs[i],h,by simp [hi]⟩
 stop:=fun i H h hi=>⟨xs,h,hi⟩
 yld:=fun i H x H' _ h y=>⟨y.1,y.2 xs h⟩
 stay:=fun H H' h e=>e.seqT h
theorem gc {K:PySem.W.Frag} {a:Addr} {xs:List V}:JSeq (Itl K a) (fun H=>SqL K H a xs) xs where
 go:=fun i H h hi=>⟨xs,xs[i],h,by simp [hi]⟩
 stop:=fun i H h hi=>⟨xs,h,hi⟩
 yld:=fun i H x H' _ h y=>⟨y.1,y.2 xs h⟩
 stay:=fun H H' h e=>e.seq h
noncomputable def nums (lo:Int) (n:Nat):List V:=(List.range n).map fun i=>V.int (lo + (i:Nat))
theorem lh {lo:Int} {n:Nat}:JSeq (Itr lo n) (fun _=>True) (nums lo n) where
 go:=fun i H _ hi=>by simpa [nums,Itr] using hi
 stop:=fun i H _ hi=>by simpa [nums,Itr] using hi
 yld:=fun i H x H' hi _ y=>by
   refine ⟨y.1,?_⟩
   have hi':i < n:=by simpa [nums] using hi
   have e:x = .int (lo + i):=y.2
   unfold nums
   rw [List.getElem?_map,List.getElem?_range hi',e]; rfl
 stay:=fun _ _ _ _=>trivial
theorem Paired.snocP {α β:Type} {F:α -> β -> Prop} {x:α} {y:β}:∀ {l₁:List α} {l₂:List β},Paired F l₁ l₂ -> F x y -> Paired F (l₁ ++ [x]) (l₂ ++ [y])
 | _,_,.nil,h => .cons h .nil
 | _,_,.cons h₁ t,h => .cons h₁ (Paired.snocP t h)
noncomputable def yd (D:Addr) (H H':Hp):Prop := ∀ b u,H b = some u -> b ≠ D -> H' b = some u
theorem Same.x {H H':Hp} (e:Same H H') (D:Addr):yd D H H':=fun b u q _=>e b u q
theorem a3h {J:It} {H1:Hp} {σ:St} {ix:List Nat} {tc:TT} {te:TE} {Q:VK} {I0:Hp -> Prop} (xs:List V) (p:V -> Bool) (R:Addr -> V -> V -> Hp -> Prop) (hJ:JSeq J I0 xs) (h0:I0 H1) (hz:xs.length <= sizeLine) (hR:∀ D x y H H',R D x y H -> yd D H H' -> R D x y H')
   (hc:∀ x ∈ xs,∀ H2,Same H1 H2 -> ∀ Q':Bool -> Hp -> Prop,(∀ H3,Same H2 H3 -> Q' (p x) H3) -> tc (some x :: cq σ ix) H2 Q')
   (he:∀ D,∀ x ∈ xs,p x = true -> ∀ H2,Same H1 H2 -> H2 D ≠ none -> ∀ Q':VK,(∀ y H3,Same H2 H3 -> R D x y H3 -> Q' y H3) -> te (some x :: cq σ ix) H2 Q')
   (hQ:∀ D H' ys,H1 D = none -> Same H1 H' -> H' D = some (.lst ys) -> Paired (fun x y=>R D x y H') (xs.filter p) ys -> Q (.ref D) H') :
   ik J H1 σ ix tc te Q:=by
 intro D hD
 have put:∀ H ys,Same H1 H -> Same H1 (upd H D (.lst ys)):=fun H ys e b u q=>by rw [ag (az q hD)]; exact e b u q
 refine ⟨fun i m H=>i <= xs.length /\ m = xs.length - i /\ Same H1 H /\ ∃ ys,H D = some (.lst ys) /\ Paired (fun x y=>R D x y H) ((xs.take i).filter p) ys,⟨xs.length,Nat.zero_le _,rfl,put _ _ (Same.refl _),[],aa,by simpa using Paired.nil⟩,?_⟩
 rintro i m H ⟨hi,rfl,e,ys,hy,hp⟩
 have hI:=hJ.stay _ _ h0 e
 by_cases hlt:i < xs.length
 . refine .inr ⟨hJ.go i H hI hlt,fun x H' hy'=>?_⟩
   obtain ⟨rfl,hx⟩:=hJ.yld i H x H' hlt hI hy'
   have hm:x ∈ xs:=List.mem_of_getElem? hx
   have ht:xs.take (i + 1) = xs.take i ++ [x]:=by rw [List.take_add_one,hx]; rfl
   have hlen:ys.length <= i:=by
     have h1:=Paired.length hp
     have h2:=List.length_filter_le p (xs.take i)
     rw [List.length_take] at h2
     lia
   refine hc x hm _ e _ fun H3 e3=>?_
   cases hpx:p x with
   | false =>
     rw [if_neg Bool.false_ne_true]
     refine ⟨xs.length - (i + 1),by lia,hlt,rfl,e.trans e3,ys,e3 _ _ hy,?_⟩
     rw [ht,List.filter_append]
     simp only [List.filter_cons,hpx,List.filter_nil,List.append_nil,Bool.false_eq_true,if_false]
     exact Paired.mapP hp fun x y z=>hR _ _ _ _ _ z (e3.x D)
   | true =>
     rw [if_pos rfl]
     refine he D x hm hpx _ (e.trans e3) (by rw [e3 _ _ hy]; simp) _ fun y H4 e4 hr=>?_
     have e5:yd D H4 (upd H4 D (.lst (ys ++ [y]))):=fun b u q hb=>by rw [ag hb]; exact q
     refine ⟨ys,e4 _ _ (e3 _ _ hy),by lia,xs.length - (i + 1),by lia,hlt,rfl,put _ _ (e.trans (e3.trans e4)),ys ++ [y],aa,?_⟩
     rw [ht,List.filter_append]
     simp only [List.filter_cons,hpx,List.filter_nil,if_true]
     exact Paired.snocP (Paired.mapP hp fun x y z=>hR _ _ _ _ _ (hR _ _ _ _ _ z ((e3.trans e4).x D)) e5) (hR _ _ _ _ _ hr e5)
 . have hi':i = xs.length:=by lia
   subst hi'
   refine .inl ⟨hJ.stop _ H hI (Nat.le_refl _),?_⟩
   rw [List.take_length] at hp
   exact hQ D H ys hD e hy hp
theorem o0 {α β:Type} {f:α -> β}:∀ {l:List α} {l':List β},Paired (fun x y=>y = f x) l l' -> l' = l.map f
 | _,_,.nil=>rfl
 | _,_,.cons h t=>by rw [h,o0 t]; rfl
theorem lz {J:It} {H1:Hp} {σ:St} {ix:List Nat} {tc:TT} {te:TE} {Q:VK} {I0:Hp -> Prop} (xs:List V) (p:V -> Bool) (f:V -> V) (hJ:JSeq J I0 xs) (h0:I0 H1) (hz:xs.length <= sizeLine)
   (hc:∀ x ∈ xs,∀ H2,Same H1 H2 -> ∀ Q':Bool -> Hp -> Prop,(∀ H3,Same H2 H3 -> Q' (p x) H3) -> tc (some x :: cq σ ix) H2 Q')
   (he:∀ x ∈ xs,p x = true -> ∀ H2,Same H1 H2 -> ∀ Q':VK,(∀ H3,Same H2 H3 -> Q' (f x) H3) -> te (some x :: cq σ ix) H2 Q')
   (hQ:∀ D H',H1 D = none -> Same H1 H' -> H' D = some (.lst ((xs.filter p).map f)) -> Q (.ref D) H') :
   ik J H1 σ ix tc te Q :=
 a3h xs p (fun _ x y _=>y = f x) hJ h0 hz (fun _ _ _ _ _ h _=>h) hc (fun _ x hx hp H2 e _ Q' q=>he x hx hp H2 e Q' fun H3 e3=>q _ H3 e3 rfl) fun D H' ys hD e hy hp=>hQ D H' hD e (by rw [hy,o0 hp])
theorem a5r {J:It} {H1:Hp} {σ:St} {ix:List Nat} {te:TE} {Q:VK} {I0:Hp -> Prop} (xs:List V) (ws:List V) (hJ:JSeq J I0 xs) (h0:I0 H1) (hz:xs.length <= sizeLine) (hl:ws.length = xs.length)
   (he:∀ (i:Nat) (x y:V),xs[i]? = some x -> ws[i]? = some y -> ∀ H2,Same H1 H2 -> ∀ Q':VK,(∀ H3,Same H2 H3 -> Q' y H3) -> te (some x :: cq σ ix) H2 Q')
   (hQ:∀ D H',H1 D = none -> Same H1 H' -> H' D = some (.lst ws) -> Q (.ref D) H'):ik J H1 σ ix tYes te Q:=by
 intro D hD
 have put:∀ H ys,Same H1 H -> Same H1 (upd H D (.lst ys)):=fun H ys e b u q=>by rw [ag (az q hD)]; exact e b u q
 refine ⟨fun i m H=>i <= xs.length /\ m = xs.length - i /\ Same H1 H /\ H D = some (.lst (ws.take i)),⟨xs.length,Nat.zero_le _,rfl,put _ _ (Same.refl _),by rw [aa,List.take_zero]⟩,?_⟩
 rintro i m H ⟨hi,rfl,e,hy⟩
 have hI:=hJ.stay _ _ h0 e
 by_cases hlt:i < xs.length
 . refine .inr ⟨hJ.go i H hI hlt,fun x H' hy'=>?_⟩
   obtain ⟨rfl,hx⟩:=hJ.yld i H x H' hlt hI hy'
   have hw:ws[i]? = some ws[i]:=List.getElem?_eq_getElem (by lia)
   unfold tYes
   dsimp only
   rw [if_pos rfl]
   refine he i x ws[i] hx hw _ e _ fun H3 e3=>?_
   refine ⟨ws.take i,e3 _ _ hy,by rw [List.length_take]; lia,xs.length - (i + 1),by lia,hlt,rfl,put _ _ (e.trans e3),?_⟩
   rw [aa,List.take_add_one,hw]; rfl
 . have hi':i = xs.length:=by lia
   subst hi'
   refine .inl ⟨hJ.stop _ H hI (Nat.le_refl _),hQ D H hD e ?_⟩
   rw [hy,List.take_of_length_le (by lia)]
section
variable {X:Cx}
end
section
variable {X:Cx} {es es1:List Expr} {t t1:TA} {te:TE} {x:Str} {j:Nat} {pos pos2:Pos}
theorem a84 {j} (hr:PA X es t):PA X (.Constant (.str x) j pos :: es) (de (tC (.str x)) t):=dq a1k hr rfl
theorem a7n {i:Int} {j} (hr:PA X es t):PA X (.Constant (.int i) j pos :: es) (de (tC (.int i)) t):=dq jx hr rfl
theorem a8v (h:PE X (.Name x pos) te) (hr:PA X es t):PA X (.Name x pos :: es) (de te t):=dq h hr rfl
theorem a8h {x1} (h:PA X es1 t1) (hr:PA X es t):PA X (.Tuple es1 x1 pos :: es) (de (tTup t1) t):=dq (a03 h) hr rfl
theorem a8l (h:PA X es1 t1) (hr:PA X es t):PA X (.List es1 pos :: es) (de (tLst t1) t):=dq (tj h) hr rfl
theorem a7a {a b:Expr} (h:PE X (.Subscript a b pos) te) (hr:PA X es t):PA X (.Subscript a b pos :: es) (de te t):=dq h hr rfl
theorem a5k {f:Expr} {as:List Expr} {ks:List Keyword} (h:PE X (.Call f as ks pos) te) (hr:PA X es t):PA X (.Call f as ks pos :: es) (de te t):=dq h hr rfl
theorem a7p {a b:Expr} {op:Operator} (h:PE X (.BinOp a op b pos) te) (hr:PA X es t):PA X (.BinOp a op b pos :: es) (de te t):=dq h hr rfl
end
structure QE (X:Cx) (e:Expr) (t:TE):Prop where
 run:PE X e t
structure QT (X:Cx) (e:Expr) (t:TT):Prop where
 run:PT X e t
structure QW (X:Cx) (e:Expr) (t:TT):Prop where
 run:PW X e t
structure QA (X:Cx) (es:List Expr) (t:TA):Prop where
 run:PA X es t
structure QS (X:Cx) (st:Stmt) (t:TS):Prop where
 run:PS X st t
structure QB (X:Cx) (st:List Stmt) (t:TS):Prop where
 run:PSs X st t
structure QI (X:Cx) (tg iter:Expr) (wi:TI):Prop where
 run:PI X tg iter wi
structure QG (X:Cx) (target:Expr) (t:TG):Prop where
 run:PG X target t
structure QO (X:Cx) (e:Option Expr) (t:TO):Prop where
 run:PO X e t
structure QTs (X:Cx) (ifs:List Expr) (t:TT):Prop where
 run:PTs X ifs t
theorem QW.qt {X:Cx} {e:Expr} {t:TT} (h:QW X e t):QT X e t:=⟨PW.pt h.run⟩
section
variable {st:Stmt} {id:String} {lo hi:Option Expr}
set_option autoImplicit true
set_option relaxedAutoImplicit true
theorem bc  : QB X [] a51:=⟨a6n ⟩
theorem ac {rest:List Stmt} (h1:QS X st t) (h2:QB X rest u):QB X (st :: rest) (tSeq t u):=⟨ml h1.run h2.run⟩
theorem ah (h1:QS X st t):QB X [st] t:=⟨oh h1.run⟩
theorem bf {c:Expr} {a b:List Stmt} {tc:TT} (hc:QT X c tc) (ha:QB X a t) (hb:QB X b u):QS X (.If c a b pos) (tIfS tc t u):=⟨a8d hc.run ha.run hb.run⟩
theorem ak {i:Nat} {x:Str} {e:Expr} {te:TE} {pos':Pos} (hN:X.N.Nodup) (hi:X.N[i]? = some x) (hx:Loc X.env.scope x) (he:QE X e te) (hs:autoParam (swapsWith e (some (.Name x pos')) pos.line X.env = pure false) L2.a2_) (hf:autoParam (X.fn x = true \/ X.env.scope.names.lookup x = some .local) L2.a0_) :     QS X (.Assign [.Name x pos'] e pos) (tAsg te (bh i)):=⟨a0y hN hi hx he.run hs hf⟩
theorem aw (he:QE X e te):QS X (.Return (some e) pos) (tRet te):=⟨zy he.run⟩
theorem bq (he:QE X e te) (hs:autoParam (swapsWith e none pos.line X.env = pure false) L2.a2_):QS X (.Expr e pos) (a4p te):=⟨xg he.run hs⟩
theorem bg {iter:Expr} {body:List Stmt} {wi:TI} {g:TG} {tb:TS} {pos:Pos} (hp:PassesOwn (model X.prog X.w) X.A X.env X.xe) (hc:X.calm = true) (hi:QI X tg iter wi) (hg:QG X tg g) (hb:QB X body tb) (hs:autoParam (∀ x,foldedSetIterable iter X.env x = pure x) L2.a3_):QS X (.For tg iter body [] pos) (tFor wi g tb):=⟨a1y hp hc hi.run hg.run hb.run hs⟩
theorem kb {tg e:Expr} {te:TE} {g:TG} (he:QE X e te) (hg:QG X tg g) (hs:autoParam (swapsWithSole [tg] e pos.line X.env = pure false) L2.a2_) (hw:autoParam (swappedStores [tg] e X.env = pure none) L2.a2_) (h1:autoParam ((assignEach [tg] X.env).map (·.2) = [assign tg X.env]) L2.a2_):QS X (.Assign [tg] e pos) (tAsg te g):=⟨a7k he.run hg.run hs hw h1⟩
theorem mo {c:Expr} {body:List Stmt} {tc:TT} {tb:TS} (hp:PassesOwn (model X.prog X.w) X.A X.env X.xe) (hc:QT X c tc) (hb:QB X body tb):QS X (.While c body [] pos) (sg tc tb):=⟨a3g hp hc.run hb.run⟩
theorem a3m  : QS X (.Break pos) a0x:=⟨a3y ⟩
theorem vb  : QS X (.Continue pos) a4l:=⟨v9 ⟩
theorem ad {i j pos}:QE X (.Constant (.int i) j pos) (tC (.int i)):=⟨jx ⟩
theorem dg {b j pos}:QE X (.Constant (.bool b) j pos) (tC (.bl b)):=⟨a8s ⟩
theorem i3 {j pos}:QE X (.Constant .none j pos) (tC .non):=⟨a7o ⟩
theorem bt {x j pos}:QE X (.Constant (.str x) j pos) (tC (.str x)):=⟨a1k ⟩
theorem qv (i:Nat) {x:Str} {pos:Pos} (hN:autoParam (X.N[i]? = some x) L2.a2_) (hv:autoParam (Vis X.env.scope x) L2.a4_) (hd:autoParam ((x == ("__debug__" : Str)) = false) L2.a1_) (hcd:autoParam ((x == ("__classdict__" : Str)) = false) L2.a1_):QE X (.Name x pos) (tVar i):=⟨pv i hN hv hd hcd⟩
theorem aj {op:Operator} {r:R2} (ho:OpR X (binaryOp op) r) (ha:QE X a ta) (hb:QE X b tb):QE X (.BinOp a op b pos) (tOp r ta tb):=⟨a4n ho ha.run hb.run⟩
theorem dl {op:CmpOp} {r:R2} (ho:OpR X (compareOp op) r) (ha:QE X a ta) (hb:QE X b tb) (hm:behindInMarks op b = false):QE X (.Compare a [op] [b] pos) (tOp r ta tb):=⟨a61 ho ha.run hb.run hm⟩
theorem ar {op:CmpOp} {r:R2} (ho:OpR X (compareOp op) r) (ha:QE X a ta) (hb:QE X b tb) (hm:behindInMarks op b = false):QT X (.Compare a [op] [b] pos) (a4v (tOp r ta tb)):=⟨wq ho ha.run hb.run hm⟩
theorem db {e:Expr} {t:TE} (h:QE X e t) (he:autoParam (∀ whole,isTrue e X.env whole = (do let v <- whole; standAt e.pos; holding [v] (truthy v))) L2.a3_):QT X e (tB t):=⟨a6t h.run he⟩
theorem fz (ha:QT X a tA):QT X (.UnaryOp .Not a pos) (tNot tA):=⟨a6z ha.run⟩
theorem gm (ha:QT X a tA):QW X (.BoolOp .And [a] pos) tA:=⟨a56 ha.run⟩
theorem ft (ha:QT X a tA):QW X (.BoolOp .Or [a] pos) tA:=⟨a6u ha.run⟩
theorem gy {rest:List Expr} (ha:QT X a tA) (hb:QW X (.BoolOp .And (b :: rest) pos) tB'):QW X (.BoolOp .And (a :: b :: rest) pos) (tAnd tA tB'):=⟨a82 ha.run hb.run⟩
theorem fg {rest:List Expr} (ha:QT X a tA) (hb:QW X (.BoolOp .Or (b :: rest) pos) tB'):QW X (.BoolOp .Or (a :: b :: rest) pos) (tOr tA tB'):=⟨a8x ha.run hb.run⟩
theorem km {op} {t:TE} (h:QE X a t):QE X (.BoolOp op [a] pos) t:=⟨a6y h.run⟩
theorem ue {rest:List Expr} (ha:QE X a ta) (hb:QE X (.BoolOp .And (b :: rest) pos) tb):QE X (.BoolOp .And (a :: b :: rest) pos) (a4o ta tb):=⟨a7v ha.run hb.run⟩
theorem a4k {rest:List Expr} (ha:QE X a ta) (hb:QE X (.BoolOp .Or (b :: rest) pos) tb):QE X (.BoolOp .Or (a :: b :: rest) pos) (tOrV ta tb):=⟨a8u ha.run hb.run⟩
theorem a7i (ha:QE X a ta):QE X (.UnaryOp .Not a pos) (a50 ta):=⟨a78 ha.run⟩
theorem a3q {c:Expr} (hc:QT X c tA) (ha:QE X a ta) (hb:QE X b tb):QE X (.IfExp c a b pos) (tIf tA ta tb):=⟨a4d hc.run ha.run hb.run⟩
theorem ai {r:R2} (hr:IxR X r) (ha:QE X a ta) (hb:QE X b tb) (hs:vv b):QE X (.Subscript a b pos) (tOp r ta tb):=⟨zd hr ha.run hb.run hs⟩
theorem ei {r:V -> Option Int -> Option Int -> Hp -> VK -> Prop} (hr:SlR X r) (he:QE X e te) (hl:QO X lo tl) (hu:QO X hi th):QE X (.Subscript e (.Slice lo hi none p2) pos) (tSl r te tl th):=⟨ub hr he.run hl.run hu.run⟩
theorem ge  : QO X none vg:=⟨vk ⟩
theorem dk (h:QE X e te):QO X (some e) (a4q te):=⟨ww h.run⟩
theorem br {x1} (h:QA X es t):QE X (.Tuple es x1 pos) (tTup t):=⟨a03 h.run⟩
theorem bp (h:QA X es t):QE X (.List es pos) (tLst t):=⟨tj h.run⟩
theorem ax (F:FnOk X.prog X.w X.K X.mg X.base CX k f fd ps sp) (hr:Room k X.A) (hg:Gl X x) (hm:X.mg x = some (.ref f)) (hk:PySem.W.keepIn X.K (.ref f) = true) (hb:Binds X.K fd ps ds) (hd:Vals dvs ds) (hx:fh CX X E) (ha:QA X (e :: es) t) (hdb:autoParam ((x == ("__debug__" : Str)) = false) L2.a1_) (he:autoParam (starEach (e :: es) X.env = (false,eval e X.env) :: starEach es X.env) L2.a2_) (hpl:autoParam ((backTo pos (starEach es X.env)).any (·.1) = false) L2.a2_) :     QE X (.Call (.Name x p) (e :: es) [] pos) (a4z sp dvs E t):=⟨a5b F hr hg hm hk hb hd hx ha.run hdb he hpl⟩
theorem b0 (hc:bx X (.builtin id) r) (hg:Gl X x) (hm:X.mg x = none) (hv:bootBuiltins x = some (.builtin id)) (ha:QA X (e :: es) t) (hn:autoParam (x ≠ "__name__") L2.a1_) (hdb:autoParam ((x == ("__debug__" : Str)) = false) L2.a1_) (he:autoParam (starEach (e :: es) X.env = (false,eval e X.env) :: starEach es X.env) L2.a2_) (hpl:autoParam ((backTo pos (starEach es X.env)).any (·.1) = false) L2.a2_):QE X (.Call (.Name x p) (e :: es) [] pos) (tCB r t):=⟨sq hc hg hm hv ha.run hn hdb he hpl⟩
theorem cf (hc:bx X (.type T) r) (hg:Gl X x) (hm:X.mg x = none) (hv:bootBuiltins x = some (.type T)) (ha:QA X (e :: es) t) (hn:autoParam (x ≠ "__name__") L2.a1_) (hdb:autoParam ((x == ("__debug__" : Str)) = false) L2.a1_) (he:autoParam (starEach (e :: es) X.env = (false,eval e X.env) :: starEach es X.env) L2.a2_) (hpl:autoParam ((backTo pos (starEach es X.env)).any (·.1) = false) L2.a2_):QE X (.Call (.Name x p) (e :: es) [] pos) (tCB r t):=⟨pk hc hg hm hv ha.run hn hdb he hpl⟩
theorem a72 (pa:PlainAttrs T) (slot:Slot T name id) (hty:typeOf (.builtin id) = pure (.type "method_descriptor")) (hm:MtR X id r) (ho:QE X o to) (hbase:autoParam (attributeBase o name X.env (eval o X.env) = eval o X.env) L2.a2_) (hline:autoParam ((apos.endLine == cpos.line) = true) L2.a2_):QE X (.Call (.Attribute o name apos) [] [] cpos) (tBM0 X.K T r to):=⟨a7d pa slot hty hm ho.run hbase hline⟩
theorem tq {X:Cx} {elt iter:Expr} {x:Str} {px pos:Pos} {ifs:List Expr} {sc:Scope} {wi:TI} {tc:TT} {te:TE} (hi:QI X (.Name x px) iter wi) (hif:∀ s H C ex,QTs (blk X [x] s H sc [] C ex) ifs tc) (he:∀ s H C ex,QE (blk X [x] s H sc [] C ex) elt te) (hc:autoParam (X.calm = true) L2.a2_) (hkind:autoParam (sc.kind = .function) L2.a2_) (hx:autoParam (sc.names.lookup x = some .local) L2.a5_) (hfree:autoParam (∀ y ∈ sc.names,y.2 ≠ .free) L2.a5_) (hcell:autoParam (∀ y ∈ sc.names,y.2 ≠ .cell) L2.a5_) (hnames:autoParam (∀ y ∈ sc.names,y.2 = .local -> sc.names.lookup y.1 = some .local) L2.a5_) (hs:autoParam (∀ x,foldedSetIterable iter X.env x = pure x) L2.a3_) :     QE X (.ListComp elt [⟨.Name x px,iter,ifs,0⟩] sc pos) (jn [] wi tc te):=⟨uu hi.run (fun z0 z1 z2 z3=>(hif z0 z1 z2 z3).run) (fun z0 z1 z2 z3=>(he z0 z1 z2 z3).run) hc hkind hx hfree hcell hnames hs⟩
theorem a67 {l:Expr} {tl:TE} (hl:QE X l tl):QI X tg l (yk X.K tl):=⟨xk hl.run⟩
theorem a74 {l:Expr} {tl:TE} (hl:QE X l tl):QI X tg l (iTup X.K tl):=⟨a1z hl.run⟩
theorem a76 {l:Expr} {tl:TE} (hl:QE X l tl):QI X tg l (iStr tl):=⟨a7t hl.run⟩
theorem cw {a:Expr} {ta:TA} {p pos:Pos} (hg:Gl X "range") (hm:X.mg "range" = none) (ha:QA X [a] ta) (hs:autoParam (starEach [a] X.env = [(false,eval a X.env)]) L2.a2_):QI X tg (.Call (.Name "range" p) [a] [] pos) (a4j ta):=⟨a1b hg hm ha.run hs⟩
theorem au {i:Nat} {x:Str} (hN:X.N.Nodup) (hi:X.N[i]? = some x) (hx:Loc X.env.scope x) (hf:autoParam (X.fn x = true \/ X.env.scope.names.lookup x = some .local) L2.a0_):QG X (.Name x pos) (bh i):=⟨wy hN hi hx hf⟩
theorem ab  : QA X [] tNil:=⟨jz ⟩
theorem gn (ha:QE X e te) (hr:QA X es t) (hs:autoParam (starEach (e :: es) X.env = (false,eval e X.env) :: starEach es X.env) L2.a2_):QA X (e :: es) (de te t):=⟨dq ha.run hr.run hs⟩
theorem bd {j} (hr:QA X es t):QA X (.Constant (.str x) j pos :: es) (de (tC (.str x)) t):=⟨a84 hr.run⟩
theorem gg {i:Int} {j} (hr:QA X es t):QA X (.Constant (.int i) j pos :: es) (de (tC (.int i)) t):=⟨a7n hr.run⟩
theorem af (h:QE X (.Name x pos) te) (hr:QA X es t):QA X (.Name x pos :: es) (de te t):=⟨a8v h.run hr.run⟩
theorem gw {x1} (h:QA X es1 t1) (hr:QA X es t):QA X (.Tuple es1 x1 pos :: es) (de (tTup t1) t):=⟨a8h h.run hr.run⟩
theorem a8p (h:QA X es1 t1) (hr:QA X es t):QA X (.List es1 pos :: es) (de (tLst t1) t):=⟨a8l h.run hr.run⟩
theorem ay {a b:Expr} (h:QE X (.Subscript a b pos) te) (hr:QA X es t):QA X (.Subscript a b pos :: es) (de te t):=⟨a7a h.run hr.run⟩
theorem bv {f:Expr} {as:List Expr} {ks:List Keyword} (h:QE X (.Call f as ks pos) te) (hr:QA X es t):QA X (.Call f as ks pos :: es) (de te t):=⟨a5k h.run hr.run⟩
theorem dt {a b:Expr} {op:Operator} (h:QE X (.BinOp a op b pos) te) (hr:QA X es t):QA X (.BinOp a op b pos :: es) (de te t):=⟨a7p h.run hr.run⟩
theorem a6q {X:Cx}:QTs X [] tYes:=⟨a5z ⟩
theorem fe {X:Cx} {c:Expr} {t:TT} (h:QT X c t):QTs X [c] t:=⟨wf h.run⟩
end
theorem a80 {X:Cx} {o i:Expr} {to ti:TE} {t:TSet} {pos:Pos} (ho:QE X o to) (hi:QE X i ti) (hs:PSet X t)
   (ha:autoParam (∀ v,assign (.Subscript o i pos) X.env v = (do
     let ov <- holding [v] (eval o X.env)
     let iv <- holding [v,ov] (eval i X.env)
     standAt pos
     holding [v,ov,iv] (setItem ov iv v)
     release [v,ov,iv] [])) L2.a3_):QG X (.Subscript o i pos) (gSub to ti t):=⟨a73 ho.run hi.run hs ha⟩
theorem Fun.okQ {P:Program} {w:World} {K:PySem.W.Frag} {mg:Str -> Option Value} {base:Heap} {x qual:Str} {st:Stmt} {f:Addr} {fd:FuncData} {N ps:List Str} {k:Nat} {sp:Sp} (F:Fun K x qual st f fd) (S:FnScope N ps (ao st)) (len:∀ vs H Q E,sp vs H Q E -> vs.length = ps.length)
   (hbody:∀ (cdv:Value) (A:Around) (outer:List Env) (s:Shared) (H:Hp) (vs:List V) (Q:VK) (E:XK),Room k (A.deeper (envOfC qual (ao st) s.heap.objs.size f cdv)) -> sp vs H Q E ->
     ∃ t,QB (cxOf CX0 P w K mg base N qual (ao st) f cdv A outer s H E).nox (dr st) t /\ t { nx:=fun _ H'=>Q .non H',rt:=Q } (start N vs) H):FnOk P w K mg base CX0 (k + 1) f fd ps sp :=
 F.ok S len fun cdv A outer s H vs Q E hr h=>by
   obtain ⟨t,h1,h2⟩:=hbody cdv A outer s H vs Q E hr h
   exact ⟨t,h1.run,h2⟩
section
variable {X:Cx} {st:Stmt} {t:TS} {e:Expr} {te:TE}
noncomputable def a7e (K:PySem.W.Frag) (ta:TE):TT:=fun σ H Q=>ta σ H fun x H' => ∃ k,TruV K x H' k /\ Q k H'
theorem a3l {K:PySem.W.Frag} (ha:QE X e te) (hK:autoParam (X.K = K) L2.a2_) (he:autoParam (∀ whole,isTrue e X.env whole = (do let v <- whole; standAt e.pos; holding [v] (truthy v))) L2.a3_):QT X e (a7e K te):=by
 subst hK
 exact ⟨a49 ha.run he⟩
end
section
variable {id:String}
set_option autoImplicit true
set_option relaxedAutoImplicit true
theorem gh {K:PySem.W.Frag} (hK:X.K = K) (pa:PlainAttrs T) (slot:Slot T name id) (hty:typeOf (.builtin id) = pure (.type "method_descriptor")) (hm:MtR X id r) (ho:QE X o to) (ha:QA X (e :: es) t) (hbase:autoParam (attributeBase o name X.env (eval o X.env) = eval o X.env) L2.a2_) (hfew:autoParam (((backTo cpos (starEach (e :: es) X.env)).all (fun x => !x.1) && (backToKw cpos (keywordEach [] X.env)).all (fun x=>x.1.isSome)       && decide ((e :: es).length + ([]:List Keyword).length + (if ([]:List Keyword).isEmpty then 0 else 1) < 30)) = true) L2.a2_) (hline:autoParam ((apos.endLine == cpos.line) = true) L2.a2_) (hs:autoParam (starEach (e :: es) X.env = (false,eval e X.env) :: starEach es X.env) L2.a2_) (hplain:autoParam ((backTo cpos (starEach es X.env)).any (·.1) = false) L2.a2_):QE X (.Call (.Attribute o name apos) (e :: es) [] cpos) (tBM K T r to t):=by
 subst hK
 exact ⟨a4m pa slot hty hm ho.run ha.run hbase hfew hline hs hplain⟩
end
section
variable {X:Cx} {pins:List (Addr × Obj)} {σ:St} {H:Hp} {s:Shared} {h':Heap}
theorem Inv.turnedL {t':Nat} {ch:List Addr} (I:Inv X pins σ H s) (k:∀ b o,b ∉ ch -> s.heap.get? b = some o -> h'.get? b = some o) (hc:∀ b ∈ ch,FpOk X pins H b):Inv X pins σ H { s with heap:=h',toks:=t' }:=by
 have nit:∀ b u,H b = some u -> b ∉ ch:=fun b u e z=>by rw [(hc b z).1] at e; cases e
 refine I.step (g':=s.gens) (d':=s.drawn) (ch:=ch) (fun b hb=>⟨(hc b hb).2.2.2.1,(hc b hb).2.1,(hc b hb).2.2.2.2.1,(hc b hb).2.2.2.2.2⟩) (fun b o _ _ hn e _=>k b o hn e) (fun b o _ _ hn e _=>⟨o.slots,k b o hn e⟩) (fun _ _ _ _ n=>n)
   (fun b o hn e=>⟨o,k b o hn e⟩) (fun _ _ e=>e) (fun _ _ _ e=>e) (fun b ps e=>⟨#[],by rw [e]; simp⟩) (fun m hm=>?_) (fun b u e=>?_) I.bare
 . obtain ⟨o,es,ep,ho,r⟩:=hm
   exact ⟨o,es,ep,k _ o (fun z=>(hc _ z).2.1 rfl) ho,r⟩
 . refine (I.hok b u e).stay (fun c v hcv q=>k c v ?_ q) (fun _ q=>q) fun _ _ q=>q
   rcases hcv with z | z
   . rw [z]; exact nit b u e
   . exact nit c _ z
end
noncomputable def cv (n:Addr):List Addr:=[n + 4,n + 2,n + 3,n,n + 1]
theorem lg {n l1 l2:Nat} (h1:l1 ∉ cv n) (h2:l2 ∉ cv n):ZipApart (n + 4) (n + 2) (n + 3) n (n + 1) l1 l2:=by
 unfold cv at h1 h2
 simp only [List.mem_cons,List.not_mem_nil,or_false,not_or] at h1 h2
 have nn:∀ a b:Nat,a ≠ b -> n + a ≠ n + b:=fun a b h=>by lia
 have n0:∀ a:Nat,a ≠ 0 -> n ≠ n + a:=fun a h=>by lia
 exact ⟨nn 2 4 (by decide),nn 3 4 (by decide),n0 4 (by decide),nn 1 4 (by decide),nn 2 3 (by decide),(n0 2 (by decide)).symm,nn 2 1 (by decide),(n0 3 (by decide)).symm,nn 3 1 (by decide),n0 1 (by decide),h1.1,h1.2.2.1,h1.2.2.2.1,h1.2.2.2.2,h2.1,h2.2.2.1,h2.2.2.2.1,h2.2.2.2.2⟩
section
variable {X:Cx}
end
section
variable {X:Cx}
theorem zb {elt iter:Expr} {x yv:Str} {px pos py pos2:Pos} {iy:Nat} {ifs:List Expr} {sc:Scope} {cl:List (Str × Addr)} {ix:List Nat} {wi:TI} {tc:TT} {te:TE} (N:List Str) (hNd:X.N.Nodup) (hiy:X.N[iy]? = some yv) (hyv:Loc X.env.scope yv) (hsw:swapsWith (.ListComp elt [⟨.Name x px,iter,ifs,0⟩] sc pos) (some (.Name yv py)) pos2.line X.env = pure true) (hfy:X.fn yv = true \/ X.env.scope.names.lookup yv = some .local)
   (hc:X.calm = true) (hi:PI X (.Name x px) iter wi) (hif:∀ s H C ex,PTs (blk X N s H sc cl C ex) ifs tc) (he:∀ s H C ex,PE (blk X N s H sc cl C ex) elt te)
   (hkind:sc.kind = .function) (hN:N = x :: ix.map fun j=>(X.N[j]?).getD "") (hnd:N.Nodup) (hx:sc.names.lookup x = some .local)
   (hcl:closureFor sc X.env = pure cl) (hcell:∀ y ∈ sc.names,y.2 ≠ .cell) (hnames:∀ y ∈ sc.names,y.2 = .local -> sc.names.lookup y.1 = some .local)
   (hsub:∀ y c,cl.lookup y = some c -> X.env.cells.lookup y = some c) (hhas:∀ y,((relabel sc X.env).names.lookup y = some .cell \/ (relabel sc X.env).names.lookup y = some .free) -> ∃ c,cl.lookup y = some c)
   (hix:∀ j ∈ ix,∃ y,X.N[j]? = some y /\ X.env.kindOf y = some .cell /\ (relabel sc X.env).names.lookup y = some .cell)
   (hs:autoParam (∀ x,foldedSetIterable iter X.env x = pure x) L2.a3_) :
   PS X (.Assign [.Name yv py] (.ListComp elt [⟨.Name x px,iter,ifs,0⟩] sc pos) pos2) (tAsg (jn ix wi tc te) (bh iy)):=by
 intro pins s σ H D0 I h
 rw [exec_Assign_Name_used _ _ _ _ hsw]
 refine wpAny_bind (wpAny_standAt (wpAny_bind ?_))
 show wpAny _ _ (comprehension _ _ _ _ _ _ _ _ >>= _) _ _ _
 refine wpAny_bind (wpAny_mono (Q:=fun _ s'=>SP X pins D0 .next s') (qo N hc hi hif he hkind hN hnd hx hcl hcell hnames hsub hhas hix hs (use:=some (assign (.Name yv py) X.env)) I h fun D C s6 H5 mm I7 hm hCn hCl hCc hsz hpin qn=>?_) (fun _ s' q=>wpAny_pure (wpAny_pure q)) fun _ _ y=>y)
 refine wpAny_assign_Name (qb I7 hNd hiy hyv (show RelV (V.ref D) (Value.ref D) from rfl) (fun s8 I8 hsb=>?_) hfy)
 obtain ⟨a8,sb8,ha8⟩:=hsb
 have hna:C ≠ a8:=by
   rcases ha8 with z | z
   . rw [z]; exact hCl
   . exact Ne.symm (hCc _ _ z)
 obtain ⟨oC,esC,epC,hoC,rC⟩:=hm
 refine ⟨mm,⟨oC,esC,epC,sb8.extBut _ _ hna hoC,rC⟩,fun h9 sb9=>?_⟩
 exact ⟨_,H5,I8.turned (t':=s8.toks) (it:=C) (fun b o hb e=>sb9.extBut b o hb e) hCn hCl (.inr hsz) hCc hpin,qn⟩
end
section
variable {prog:Program} {w:World} {A:Around} {E:Value -> Shared -> Prop} {u:Shared}
theorem a4h {j q:Addr} {k:Nat} {vals:Array Value} {v:Value} {R:Value -> Shared -> Prop} (a1:u.heap.IsTupleIter j q k) (a2:u.heap.IsTuple q vals) (a3:vals[k]? = some v)
   (hR:∀ g,g.IsTupleIter j q (k + 1) -> Heap.SameBut j u.heap g -> R v { u with heap:=g }):wpAny (model prog w) A (Builtin.SmallTypes.nextOf (.ref j)) R E u:=by
 obtain ⟨o,b1,b2,b3⟩:=id a1
 obtain ⟨p,c1,c0,m,c2⟩:=a2
 have ty:=a1.typeIs
 unfold Builtin.SmallTypes.nextOf
 refine wpAny_bind (wpAny_callSpecial?_slot ty F.slot_tuple_iterator_next (wpAny_call_entry F.slot_tuple_iterator_next ty F.entry_tuple_iterator_next ?_ (F.args_tuple_iterator_next_1 _)))
 show wpAny (model prog w) _ (field (.ref j) 0 >>= _) _ _ u
 refine wpAny_bind (wpAny_field b1 b3 (x := .ref q) rfl ?_)
 have nn:¬ (Value.ref q == Value.none) = true:=Bool.false_ne_true
 show wpAny (model prog w) _ (if (Value.ref q == Value.none) = true then _ else _) _ _ u
 rw [if_neg nn]
 show wpAny (model prog w) _ (field (.ref j) 1 >>= _) _ _ u
 refine wpAny_bind (wpAny_field b1 b3 (x := .int k 0) rfl ?_)
 show wpAny (model prog w) _ (seqItems? (.ref q) >>= _) _ _ u
 refine wpAny_bind (wpAny_seqItems c1 c2 ?_)
 simp only [Int.toNat_natCast,a3]
 have kept:∀ f:Array Value -> Array Value,(u.heap.update j (Obj.mapFields f)).get? j = some (Obj.mapFields f o):=fun f=>Heap.get?_update_self _ b1 (Obj.isFreed_of_fields (Obj.data_mapFields b3 _))
 refine wpAny_bind (wpAny_setField b1 b3 (by simp) (wpAny_pure ⟨v,rfl,wpAny_pure (hR _ ⟨_,kept _,?_,?_⟩ (Heap.SameBut.update ..))⟩))
 . rw [Obj.cls_mapFields]; exact b2
 . rw [Obj.data_mapFields b3]; simp [rawInt]
theorem zk {j q:Addr} {k:Nat} {vals:Array Value} {R:Value -> Shared -> Prop} (hh:A.handled = none) (a1:u.heap.IsTupleIter j q k) (a2:u.heap.IsTuple q vals) (a3:vals[k]? = none)
   (hE:∀ g e,Heap.ExtBut j u.heap g -> (∃ o,g.get? e = some o /\ o.cls = .type "StopIteration") -> E (.ref e) { u with heap:=g }):wpAny (model prog w) A (Builtin.SmallTypes.nextOf (.ref j)) R E u:=by
 obtain ⟨o,b1,b2,b3⟩:=id a1
 obtain ⟨p,c1,c0,m,c2⟩:=a2
 have ty:=a1.typeIs
 unfold Builtin.SmallTypes.nextOf
 refine wpAny_bind (wpAny_callSpecial?_slot ty F.slot_tuple_iterator_next (wpAny_call_entry F.slot_tuple_iterator_next ty F.entry_tuple_iterator_next ?_ (F.args_tuple_iterator_next_1 _)))
 show wpAny (model prog w) _ (field (.ref j) 0 >>= _) _ _ u
 refine wpAny_bind (wpAny_field b1 b3 (x := .ref q) rfl ?_)
 have nn:¬ (Value.ref q == Value.none) = true:=Bool.false_ne_true
 show wpAny (model prog w) _ (if (Value.ref q == Value.none) = true then _ else _) _ _ u
 rw [if_neg nn]
 show wpAny (model prog w) _ (field (.ref j) 1 >>= _) _ _ u
 refine wpAny_bind (wpAny_field b1 b3 (x := .int k 0) rfl ?_)
 show wpAny (model prog w) _ (seqItems? (.ref q) >>= _) _ _ u
 refine wpAny_bind (wpAny_seqItems c1 c2 ?_)
 simp only [Int.toNat_natCast,a3]
 refine wpAny_bind (wpAny_rule (wpAny_bind (wpAny_setField b1 b3 (by simp) ?_)))
 show wpAny (model prog w) _ (newExc (.type "StopIteration") [] >>= _) _ _ _
 refine wpAny_bind ?_
 unfold newExc newTuple
 refine wpAny_bind (wpAny_newObj_type ?_ (by size_fits))
 refine wpAny_bind (m:=firstArgMember _ _) (wpAny_of_eq (a:=Value.none) (by simp only [firstArgMember]; rfl) (wpAny_newObj_type ?_ (by size_fits)))
 refine wpAny_raiseNew_none ?_ ?_
 . exact hh
 . exact hE _ _ (((Heap.SameBut.update ..).extBut.push _).push _) ⟨_,Heap.get?_push_size _ rfl,rfl⟩
theorem a1s {z ti to j1 j2 q1 q2:Addr} {k1 k2:Nat} {xs ys:Array Value} {x y a b:Value} {R:Option Value -> Shared -> Prop} (D:ZipApart z ti to j1 j2 q1 q2) (g1:IsZip u.heap z ti to .none) (g2:IsPair u.heap ti (.ref j1) (.ref j2)) (g3:IsPair u.heap to a b)
   (t1:u.heap.IsTupleIter j1 q1 k1) (t2:u.heap.IsTupleIter j2 q2 k2) (v1:u.heap.IsTuple q1 xs) (v2:u.heap.IsTuple q2 ys) (hx:xs[k1]? = some x) (hy:ys[k2]? = some y)
   (hR:∀ g,IsZip g z ti to (rawInt u.heap.objs.size) -> IsPair g to x y -> g.IsTupleIter j1 q1 (k1 + 1) -> g.IsTupleIter j2 q2 (k2 + 1) -> IsPair g u.heap.objs.size x y ->
     (∀ c o,c ≠ z -> c ≠ to -> c ≠ j1 -> c ≠ j2 -> u.heap.get? c = some o -> g.get? c = some o) -> R (some (.ref u.heap.objs.size)) { u with heap:=g }):wpAny (model prog w) A (pyNext (.ref z)) R E u:=by
 have ty:u.TypeIs (.ref z) "zip" := ⟨_,g1,rfl⟩
 unfold pyNext
 refine wpAny_bind (wpAny_attempt (wpAny_callSpecial?_slot ty F.slot_zip_next (wpAny_call_entry F.slot_zip_next ty F.entry_zip_next ?_ (F.args_zip_next_1 _))))
 show wpAny (model prog w) _ (field (.ref z) 2 >>= _) _ _ u
 refine wpAny_bind (wpAny_field g1 rfl (x := .bool false) rfl ?_)
 show wpAny (model prog w) _ (field (.ref z) 3 >>= _) _ _ u
 refine wpAny_bind (wpAny_field g1 rfl (x := .ref ti) rfl (wpAny_bind (wpAny_seqItems g2 rfl ?_)))
 show wpAny (model prog w) _ (Builtin.SmallTypes.ownedTupleIsFree (.ref z) >>= _) _ _ u
 refine wpAny_bind ?_
 unfold Builtin.SmallTypes.ownedTupleIsFree
 refine wpAny_bind (wpAny_field g1 rfl (x := .none) rfl (wpAny_pure ?_))
 simp only [if_true]
 refine wpAny_bind (wpAny_rule (wpAny_bind (wpAny_field g1 rfl (x := .ref to) rfl (wpAny_bind (wpAny_setField_rec g1 (by simp) fun m1 y1 d1=>?_)))))
 have z1:IsZip m1 z ti to .ellipsis:=y1
 refine wpAny_bind ?_
 simp only [List.zipIdx_cons,List.zipIdx_nil,List.forIn_cons,List.forIn_nil]
 refine wpAny_bind (wpAny_bind (wpAny_onRaise ?_))
 show wpAny (model prog w) _ (Builtin.SmallTypes.nextOf (.ref j1) >>= _) _ _ _
 refine wpAny_bind (a4h (t1.extBut d1.extBut D.i1z) (v1.extBut d1.extBut D.l1z) hx fun m2 y2 d2=>wpAny_pure ?_)
 have o2:IsPair m2 to a b:=d2.extBut _ _ D.TOi1 (d1.extBut _ _ D.TOz g3)
 refine wpAny_bind (wpAny_seqItems o2 rfl (wpAny_bind (wpAny_updateSeq_pair o2 fun m3 y3 d3=>wpAny_bind (wpAny_letGo (wpAny_pure ?_)))))
 have o3:IsPair m3 to x b:=y3
 refine wpAny_bind (wpAny_bind (wpAny_onRaise ?_))
 show wpAny (model prog w) _ (Builtin.SmallTypes.nextOf (.ref j2) >>= _) _ _ _
 have w2:=((t2.extBut d1.extBut D.i2z).extBut d2.extBut D.i12.symm).extBut d3.extBut D.TOi2.symm
 have x2:=((v2.extBut d1.extBut D.l2z).extBut d2.extBut D.l2i1).extBut d3.extBut D.l2TO
 refine wpAny_bind (a4h w2 x2 hy fun m4 y4 d4=>wpAny_pure ?_)
 have o4:IsPair m4 to x b:=d4.extBut _ _ D.TOi2 o3
 refine wpAny_bind (wpAny_seqItems o4 rfl (wpAny_bind (wpAny_updateSeq_pair o4 fun m5 y5 d5=>wpAny_bind (wpAny_letGo (wpAny_pure (wpAny_pure ?_))))))
 have o5:IsPair m5 to x y:=y5
 refine wpAny_bind (wpAny_seqItems o5 rfl (wpAny_bind (wpAny_newTuple ?_)))
 have sz:m5.objs.size = u.heap.objs.size:=by rw [d5.1,d4.1,d3.1,d2.1,d1.1]
 have z5:IsZip m5 z ti to .ellipsis:=d5.extBut _ _ D.TOz.symm (d4.extBut _ _ D.i2z.symm (d3.extBut _ _ D.TOz.symm (d2.extBut _ _ D.i1z.symm z1)))
 have kp:∀ c o,c ≠ z -> c ≠ to -> c ≠ j1 -> c ≠ j2 -> u.heap.get? c = some o -> m5.get? c = some o:=fun c o n1 n2 n3 n4 e=>d5.extBut _ _ n2 (d4.extBut _ _ n4 (d3.extBut _ _ n2 (d2.extBut _ _ n3 (d1.extBut _ _ n1 e))))
 have p1:m5.IsTupleIter j1 q1 (k1 + 1):=((y2.extBut d3.extBut D.TOi1.symm).extBut d4.extBut D.i12).extBut d5.extBut D.TOi1.symm
 have p2:m5.IsTupleIter j2 q2 (k2 + 1):=y4.extBut d5.extBut D.TOi2.symm
 show wpAny (model prog w) _ (Builtin.SmallTypes.ownedTupleHandOut (.ref z) (.ref m5.objs.size) >>= _) _ _ _
 refine wpAny_bind ?_
 unfold Builtin.SmallTypes.ownedTupleHandOut
 have z6:IsZip (m5.push { cls := .type "tuple",data := .seq #[x,y] }) z ti to .ellipsis:=Heap.get?_push_of_some _ z5
 refine wpAny_bind (wpAny_setField_rec z6 (by simp) fun m7 y7 d7=>?_)
 have z7:IsZip m7 z ti to (rawInt m5.objs.size):=y7
 refine wpAny_setField_rec z7 (by simp) fun m8 y8 d8=>?_
 have z8:IsZip m8 z ti to (rawInt m5.objs.size):=y8
 have lift:∀ c o,c ≠ z -> m5.get? c = some o -> m8.get? c = some o:=fun c o n1 e=>d8.extBut _ _ n1 (d7.extBut _ _ n1 (Heap.get?_push_of_some _ e))
 have nz:m5.objs.size ≠ z:=Nat.ne_of_gt (Heap.lt_size z5)
 have np:IsPair m8 m5.objs.size x y:=d8.extBut _ _ nz (d7.extBut _ _ nz (Heap.get?_push_size _ rfl))
 rw [sz] at z8 np
 refine wpAny_pure ⟨_,rfl,wpAny_pure ?_⟩
 show R (some (.ref m5.objs.size)) _
 rw [sz]
 exact hR m8 z8 (lift _ _ D.TOz o5) (p1.at fun o e=>lift _ o D.i1z e) (p2.at fun o e=>lift _ o D.i2z e) np fun c o n1 n2 n3 n4 e=>lift c o n1 (kp c o n1 n2 n3 n4 e)
theorem a41 {z ti to j1 j2 q1 q2:Addr} {k1:Nat} {xs:Array Value} {R:Option Value -> Shared -> Prop} (hh:A.handled = none) (D:ZipApart z ti to j1 j2 q1 q2) (g1:IsZip u.heap z ti to .none) (g2:IsPair u.heap ti (.ref j1) (.ref j2))
   (t1:u.heap.IsTupleIter j1 q1 k1) (v1:u.heap.IsTuple q1 xs) (hx:xs[k1]? = none) (hR:∀ g,(∀ c o,c ≠ z -> c ≠ j1 -> u.heap.get? c = some o -> g.get? c = some o) -> R none { u with heap:=g }):wpAny (model prog w) A (pyNext (.ref z)) R E u:=by
 have ty:u.TypeIs (.ref z) "zip" := ⟨_,g1,rfl⟩
 unfold pyNext
 refine wpAny_bind (wpAny_attempt (wpAny_callSpecial?_slot ty F.slot_zip_next (wpAny_call_entry F.slot_zip_next ty F.entry_zip_next ?_ (F.args_zip_next_1 _))))
 show wpAny (model prog w) _ (field (.ref z) 2 >>= _) _ _ u
 refine wpAny_bind (wpAny_field g1 rfl (x := .bool false) rfl ?_)
 show wpAny (model prog w) _ (field (.ref z) 3 >>= _) _ _ u
 refine wpAny_bind (wpAny_field g1 rfl (x := .ref ti) rfl (wpAny_bind (wpAny_seqItems g2 rfl ?_)))
 show wpAny (model prog w) _ (Builtin.SmallTypes.ownedTupleIsFree (.ref z) >>= _) _ _ u
 refine wpAny_bind ?_
 unfold Builtin.SmallTypes.ownedTupleIsFree
 refine wpAny_bind (wpAny_field g1 rfl (x := .none) rfl (wpAny_pure ?_))
 simp only [if_true]
 refine wpAny_bind (wpAny_rule (wpAny_bind (wpAny_field g1 rfl (x := .ref to) rfl (wpAny_bind (wpAny_setField_rec g1 (by simp) fun m1 y1 d1=>?_)))))
 have z1:IsZip m1 z ti to .ellipsis:=y1
 refine wpAny_bind ?_
 simp only [List.zipIdx_cons,List.zipIdx_nil,List.forIn_cons,List.forIn_nil]
 refine wpAny_bind (wpAny_bind (wpAny_onRaise ?_))
 show wpAny (model prog w) _ (Builtin.SmallTypes.nextOf (.ref j1) >>= _) _ _ _
 refine wpAny_bind (zk hh (t1.extBut d1.extBut D.i1z) (v1.extBut d1.extBut D.l1z) hx fun m2 e d2 he=>?_)
 obtain ⟨oe,e1,e2⟩:=he
 have z2:IsZip m2 z ti to .ellipsis:=d2 _ _ D.i1z.symm z1
 have ne:e ≠ z:=fun q=>by
   subst q
   rw [z2] at e1
   cases e1
   simp at e2
 refine wpAny_setField_rec z2 (by simp) fun m3 _ d3=>?_
 refine wpAny_bind (wpAny_isInstance (T := "StopIteration") (b:=true) ⟨oe,d3.extBut _ _ ne e1,e2⟩ isSubtype_stop ?_)
 exact wpAny_pure (hR m3 fun c o n1 n3 q=>d3.extBut _ _ n1 (d2 _ _ n3 (d1.extBut _ _ n1 q)))
end
noncomputable def Ity (K:PySem.W.Frag) (l1 l2:Addr):It where
 go:=fun i H => ∃ xs ys x y,SqT K H l1 xs /\ SqT K H l2 ys /\ xs[i]? = some x /\ ys[i]? = some y
 yld:=fun i H v H' => ∃ x y p,(∀ xs,SqT K H l1 xs -> xs[i]? = some x) /\ (∀ ys,SqT K H l2 ys -> ys[i]? = some y) /\ H p = none /\ H' = upd H p (.tup [x,y]) /\ v = .ref p
 stop:=fun i H => ∃ xs ys,SqT K H l1 xs /\ SqT K H l2 ys /\ xs.length <= i
theorem r8 {X:Cx} {pins:List (Addr × Obj)} {σ:St} {H:Hp} {s:Shared} {l:Addr} {xs:List V} (I:Inv X pins σ H s) (h:SqT X.K H l xs) (f:FpOk X pins H l):False:=by
 rcases h with (q | ⟨o,q⟩) | ⟨o,its,n,q,_⟩
 . rw [f.1] at q; cases q
 . rw [f.1] at q; cases q
 . have e:=I.ok.mod.kin _ _ q
   rcases f.2.2.2.1 with z | z
   . exact I.ok.noex l o e z
   . exact absurd (Nat.lt_of_lt_of_le (Heap.lt_size e) (Nat.le_trans I.ok.bsz z)) (Nat.lt_irrefl _)
noncomputable def a4u (n l1 l2:Addr) (i:Nat) (h:Heap):Prop:=IsZip h (n + 4) (n + 2) (n + 3) .none /\ IsPair h (n + 2) (.ref n) (.ref (n + 1)) /\ (∃ a b,IsPair h (n + 3) a b) /\ h.IsTupleIter n l1 i /\ h.IsTupleIter (n + 1) l2 i
theorem a0l {P:Program} {w:World} {K:PySem.W.Frag} {elts:List Expr} {x1} {pos:Pos} (n l1 l2:Addr):Turn P w K (.Tuple elts x1 pos) (Ity K l1 l2) (cv n) (n + 4) (a4u n l1 l2) where
 mem:=by simp [cv]
 obj:=fun i h st b hb=>by
   obtain ⟨hz,hTI,⟨a,c,hTO⟩,⟨o1,e1,c1,d1⟩,⟨o2,e2,c2,d2⟩⟩:=st
   unfold cv at hb
   simp only [List.mem_cons,List.not_mem_nil,or_false] at hb
   rcases hb with rfl | rfl | rfl | rfl | rfl
   . exact ⟨_,hz,fun v z=>by cases z⟩
   . exact ⟨_,hTI,fun v z=>by cases z⟩
   . exact ⟨_,hTO,fun v z=>by cases z⟩
   . exact ⟨o1,e1,fun v z=>by rw [d1] at z; cases z⟩
   . exact ⟨o2,e2,fun v z=>by rw [d2] at z; cases z⟩
 keep:=fun i h h' st k=>by
   obtain ⟨hz,hTI,⟨a,c,hTO⟩,h1,h2⟩:=st
   exact ⟨k _ (by simp [cv]) _ hz,k _ (by simp [cv]) _ hTI,⟨a,c,k _ (by simp [cv]) _ hTO⟩,h1.at fun o e=>k _ (by simp [cv]) o e,h2.at fun o e=>k _ (by simp [cv]) o e⟩
 item:=by
   intro X hP hw hK hc i pins s σ H E I hf st hg
   subst hP hw hK
   obtain ⟨hz,hTI,⟨a,c,hTO⟩,h1,h2⟩:=st
   obtain ⟨xs,ys,x,y,q1,q2,hx,hy⟩:=hg
   obtain ⟨its1,r1,L1,_⟩:=I.tuple q1
   obtain ⟨its2,r2,L2,_⟩:=I.tuple q2
   obtain ⟨u,hu,ru⟩:=r1.get hx
   obtain ⟨v,hv,rv⟩:=r2.get hy
   have D:ZipApart (n + 4) (n + 2) (n + 3) n (n + 1) l1 l2:=lg (fun z=>r8 I q1 (hf _ z)) (fun z=>r8 I q2 (hf _ z))
   refine a1s D hz hTI hTO h1 h2 (show s.heap.IsTuple l1 its1.toArray from L1) (show s.heap.IsTuple l2 its2.toArray from L2) (x:=u) (y:=v) (by simpa using hu) (by simpa using hv) fun h' a1 a2 a3 a4 a5 hk=>?_
   have I1:Inv X pins σ H { s with heap:=h' }:=I.turnedL (ch:=cv n) (t':=s.toks) (fun b o hb e=>by
     unfold cv at hb
     simp only [List.mem_cons,List.not_mem_nil,or_false,not_or] at hb
     exact hk b o hb.1 hb.2.2.1 hb.2.2.2.1 hb.2.2.2.2 e) hf
   refine ⟨.ref s.heap.objs.size,rfl,wpAny_letOwnedTupleGo_zip a1 fun h2' hz' hs'=>?_⟩
   have I2:Inv X pins σ H { s with heap:=h2' }:=I1.turnedL (s:={ s with heap:=h' }) (ch:=cv n) (t':=s.toks) (fun b o hb e=>by
     unfold cv at hb
     simp only [List.mem_cons,List.not_mem_nil,or_false,not_or] at hb
     exact hs'.extBut _ _ hb.1 e) hf
   have fresh:H s.heap.objs.size = none:=I.hok.fresh (Nat.le_refl _)
   have pz:s.heap.objs.size ≠ n + 4:=Nat.ne_of_gt (Heap.lt_size hz)
   have I3:Inv X pins σ (upd H s.heap.objs.size (.tup [x,y])) { s with heap:=h2' }:=by
     refine I2.track fresh ?_ (Nat.ne_of_gt I.lt) (fun z c' e e2'=>?_) (fun p hp e2'=>?_) ?_
     . cases q:X.s₀.heap.get? s.heap.objs.size with
       | none=>rfl
       | some o=>exact absurd (Nat.lt_of_lt_of_le (Heap.lt_size q) I.sz) (Nat.lt_irrefl _)
     . obtain ⟨v',q⟩:=I.cell z c' e
       exact absurd (e2' ▸ q.lt) (Nat.lt_irrefl _)
     . exact absurd (e2' ▸ Heap.lt_size (I.pin p hp).1) (Nat.lt_irrefl _)
     . exact ⟨by show 2 <= sizeLine; decide,[u,v],.cons ru (.cons rv .nil),⟨_,hs'.extBut _ _ pz a5,rfl,_,rfl⟩⟩
   have hpn:∀ b ∈ cv n,b ≠ s.heap.objs.size:=fun b hb e=>by
     have q3:∃ o,s.heap.get? b = some o:=by
       unfold cv at hb
       simp only [List.mem_cons,List.not_mem_nil,or_false] at hb
       obtain ⟨o1,g1,_⟩:=h1
       obtain ⟨o2,g2,_⟩:=h2
       rcases hb with rfl | rfl | rfl | rfl | rfl
       . exact ⟨_,hz⟩
       . exact ⟨_,hTI⟩
       . exact ⟨_,hTO⟩
       . exact ⟨_,g1⟩
       . exact ⟨_,g2⟩
     obtain ⟨o,q3⟩:=q3
     exact absurd (e ▸ Heap.lt_size q3) (Nat.lt_irrefl _)
   have hTI':IsPair h' (n + 2) (.ref n) (.ref (n + 1)):=hk _ _ D.TIz D.TITO D.TIi1 D.TIi2 hTI
   refine ⟨.ref s.heap.objs.size,_,I3,rfl,⟨x,y,_,fun zs hz2=>by rw [I.tuple_inj hz2 q1]; exact hx,fun zs hz2=>by rw [I.tuple_inj hz2 q2]; exact hy,fresh,rfl,rfl⟩,⟨hz',hs'.extBut _ _ D.TIz hTI',⟨_,_,hs'.extBut _ _ D.TOz a2⟩,a3.extBut hs'.extBut D.i1z,a4.extBut hs'.extBut D.i2z⟩,fun b hb=>?_⟩
   rw [ag (hpn b hb)]; exact (hf b hb).1
 done:=by
   intro X hP hw hK hc i pins s σ H E I hf st hg
   subst hP hw hK
   obtain ⟨hz,hTI,⟨a,c,hTO⟩,h1,h2⟩:=st
   obtain ⟨xs,ys,q1,q2,hl⟩:=hg
   obtain ⟨its1,r1,L1,_⟩:=I.tuple q1
   have hlen:=r1.length
   have D:ZipApart (n + 4) (n + 2) (n + 3) n (n + 1) l1 l2:=lg (fun z=>r8 I q1 (hf _ z)) (fun z=>r8 I q2 (hf _ z))
   refine a41 (I.ok.hd hc) D hz hTI h1 (show s.heap.IsTuple l1 its1.toArray from L1) (by rw [List.getElem?_toArray,List.getElem?_eq_none (by lia)]) fun h' hk=>⟨rfl,I.turnedL (ch:=cv n) (t':=s.toks) (fun b o hb e=>?_) hf⟩
   unfold cv at hb
   simp only [List.mem_cons,List.not_mem_nil,or_false,not_or] at hb
   exact hk b o hb.1 hb.2.2.2.1 e
 self:=fun _ _ _ _ _ st h=>wpAny_pyIter_zip st.1 h
theorem a07 (l1 l2:Addr) (xs ys:Array Value):Meets (Builtin.«zip.__new__» ⟨[.type "zip",.ref l1,.ref l2],[]⟩) (fun _ R s=>s.heap.IsTuple l1 xs /\ s.heap.IsTuple l2 ys /\
   R (.ok (.ret (.ref (s.heap.objs.size + 4)))) { s with heap:=((((s.heap.push { cls := .type "tuple_iterator",data := .fields #[.ref l1,.int 0 0] }).push { cls := .type "tuple_iterator",data := .fields #[.ref l2,.int 0 0] }).push { cls := .type "tuple",data := .seq #[.ref s.heap.objs.size,.ref (s.heap.objs.size + 1)] }).push { cls := .type "tuple",data := .seq #[.none,.none] }).push { cls := .type "zip",data := .fields #[.none,.bool false,.bool false,.ref (s.heap.objs.size + 2),.ref (s.heap.objs.size + 3)] } }) :=
 .of_wp fun prog w A R s h=>by
   obtain ⟨m,g,d,tk,os⟩:=s
   obtain ⟨a1,a2,h⟩:=h
   have sub:=sub_zip
   have b1:Heap.IsTuple (Shared.heap ⟨m,g,d,tk,os⟩) l1 xs:=a1
   have b2:Heap.IsTuple (Shared.heap ⟨m.push { cls := .type "tuple_iterator",data := .fields #[.ref l1,.int 0 0] },g,d,tk,os⟩) l2 ys:=by
     obtain ⟨o,e,r⟩:=a2
     exact ⟨o,Heap.get?_push_of_some _ e,r⟩
   have z1:(m.push { cls := .type "tuple_iterator",data := .fields #[.ref l1,.int 0 0] }).objs.size = m.objs.size + 1:=Heap.size_push ..
   wp_walk using wpAny_pyIter_tuple b1,wpAny_pyIter_tuple b2
   refine ⟨_,rfl,?_⟩
   simp only [Heap.size_push]
   exact h
section
variable {X:Cx}
noncomputable def zj (K:PySem.W.Frag) (ta:TA):TI:=fun σ H R=>ta σ H fun vs H1 => ∃ l1 l2 xs ys,vs = [.ref l1,.ref l2] /\ SqT K H1 l1 xs /\ SqT K H1 l2 ys /\ R (Ity K l1 l2) H1
theorem a5m {a b:Expr} {ta:TA} {p pos tpos:Pos} {elts:List Expr} {x1} (hg:Gl X "zip") (hm:X.mg "zip" = none) (ha:PA X [a,b] ta) (hs:starEach [a,b] X.env = [(false,eval a X.env),(false,eval b X.env)]) (hs2:starEach [b] X.env = [(false,eval b X.env)]) :
   PI X (.Tuple elts x1 tpos) (.Call (.Name "zip" p) [a,b] [] pos) (zj X.K ta):=by
 intro pins s σ H R I h
 refine Call_ (kj I hg hm boot_zip (PyProof.Rows.callWith_type1 (thn (ha pos pins s σ H _ I h) fun us s1 ⟨vs,H1,I1,r1,q1⟩=>?_) (by rw [hs,hs2]) (by rw [hs2]; rfl)))
 obtain ⟨l1,l2,xs,ys,e,q1,q2,q⟩:=q1
 subst e
 cases r1 with
 | cons r rr =>
   cases rr with
   | cons r' rr =>
     cases rr
     cases r
     cases r'
     obtain ⟨its1,v1,e1,_⟩:=I1.tuple q1
     obtain ⟨its2,v2,e2,_⟩:=I1.tuple q2
     have T1:s1.heap.IsTuple l1 its1.toArray:=e1
     have T2:s1.heap.IsTuple l2 its2.toArray:=e2
     refine callType_new F.called_zip (by decide) (F.typeCall_zip_2 _ _) (F.newCall_zip_2 _ _) (fun obj=>F.args_object_init_3 obj _ _) F.entry_zip_new (a07 l1 l2 its1.toArray its2.toArray) ⟨T1,T2,?_⟩
     have z1:∀ (m:Heap) (o:Obj),(m.push o).objs.size = m.objs.size + 1:=fun m o=>Heap.size_push ..
     have hk:∀ b o,s1.heap.get? b = some o -> ∀ o1 o2 o3 o4 o5,(((((s1.heap.push o1).push o2).push o3).push o4).push o5).get? b = some o:=fun b o e o1 o2 o3 o4 o5=>Heap.get?_push_of_some _ (Heap.get?_push_of_some _ (Heap.get?_push_of_some _ (Heap.get?_push_of_some _ (Heap.get?_push_of_some _ e))))
     have at0:∀ o1 o2 o3 o4 o5:Obj,o1.isFreed = false -> (((((s1.heap.push o1).push o2).push o3).push o4).push o5).get? s1.heap.objs.size = some o1:=fun o1 o2 o3 o4 o5 f=>Heap.get?_push_of_some _ (Heap.get?_push_of_some _ (Heap.get?_push_of_some _ (Heap.get?_push_of_some _ (Heap.get?_push_size _ f))))
     have at1:∀ o1 o2 o3 o4 o5:Obj,o2.isFreed = false -> (((((s1.heap.push o1).push o2).push o3).push o4).push o5).get? (s1.heap.objs.size + 1) = some o2:=fun o1 o2 o3 o4 o5 f=>by rw [<- z1 s1.heap o1]; exact Heap.get?_push_of_some _ (Heap.get?_push_of_some _ (Heap.get?_push_of_some _ (Heap.get?_push_size _ f)))
     have at2:∀ o1 o2 o3 o4 o5:Obj,o3.isFreed = false -> (((((s1.heap.push o1).push o2).push o3).push o4).push o5).get? (s1.heap.objs.size + 2) = some o3:=fun o1 o2 o3 o4 o5 f=>by
       have e:s1.heap.objs.size + 2 = ((s1.heap.push o1).push o2).objs.size:=by rw [z1,z1]
       rw [e]; exact Heap.get?_push_of_some _ (Heap.get?_push_of_some _ (Heap.get?_push_size _ f))
     have at3:∀ o1 o2 o3 o4 o5:Obj,o4.isFreed = false -> (((((s1.heap.push o1).push o2).push o3).push o4).push o5).get? (s1.heap.objs.size + 3) = some o4:=fun o1 o2 o3 o4 o5 f=>by
       have e:s1.heap.objs.size + 3 = (((s1.heap.push o1).push o2).push o3).objs.size:=by rw [z1,z1,z1]
       rw [e]; exact Heap.get?_push_of_some _ (Heap.get?_push_size _ f)
     have at4:∀ o1 o2 o3 o4 o5:Obj,o5.isFreed = false -> (((((s1.heap.push o1).push o2).push o3).push o4).push o5).get? (s1.heap.objs.size + 4) = some o5:=fun o1 o2 o3 o4 o5 f=>by
       have e:s1.heap.objs.size + 4 = ((((s1.heap.push o1).push o2).push o3).push o4).objs.size:=by rw [z1,z1,z1,z1]
       rw [e]; exact Heap.get?_push_size _ f
     have g1:=at4 { cls := .type "tuple_iterator",data := .fields #[.ref l1,.int 0 0] } { cls := .type "tuple_iterator",data := .fields #[.ref l2,.int 0 0] } { cls := .type "tuple",data := .seq #[.ref s1.heap.objs.size,.ref (s1.heap.objs.size + 1)] } { cls := .type "tuple",data := .seq #[.none,.none] } { cls := .type "zip",data := .fields #[.none,.bool false,.bool false,.ref (s1.heap.objs.size + 2),.ref (s1.heap.objs.size + 3)] } rfl
     refine ⟨⟨_,g1,rfl⟩,?_⟩
     refine wpAny_pyIter_zip (s:={ s1 with heap:=_ }) g1 ?_
     refine ⟨s1.heap.objs.size + 4,cv s1.heap.objs.size,a4u s1.heap.objs.size l1 l2,Ity X.K l1 l2,H1,rfl,I1.kept (t':=s1.toks) fun b o e=>hk b o e _ _ _ _ _,a0l _ _ _,⟨g1,at2 _ _ _ _ _ rfl,⟨_,_,at3 _ _ _ _ _ rfl⟩,⟨_,at0 _ _ _ _ _ rfl,rfl,rfl⟩,⟨_,at1 _ _ _ _ _ rfl,rfl,rfl⟩⟩,fun b hb=>?_,q⟩
     have hge:s1.heap.objs.size <= b:=by
       unfold cv at hb
       simp only [List.mem_cons,List.not_mem_nil,or_false] at hb
       rcases hb with rfl | rfl | rfl | rfl | rfl
       . exact Nat.le_add_right _ 4
       . exact Nat.le_add_right _ 2
       . exact Nat.le_add_right _ 3
       . exact Nat.le_refl _
       . exact Nat.le_add_right _ 1
     exact I1.fpOk (H':=H1) hge (I1.hok.fresh hge)
theorem a6p {a b:Expr} {ta:TA} {p pos tpos:Pos} {elts:List Expr} {x1} (hg:Gl X "zip") (hm:X.mg "zip" = none) (ha:QA X [a,b] ta) (hs:autoParam (starEach [a,b] X.env = [(false,eval a X.env),(false,eval b X.env)]) L2.a2_) (hs2:autoParam (starEach [b] X.env = [(false,eval b X.env)]) L2.a2_) :
   QI X (.Tuple elts x1 tpos) (.Call (.Name "zip" p) [a,b] [] pos) (zj X.K ta):=⟨a5m hg hm ha.run hs hs2⟩
end
theorem a2h {K:PySem.W.Frag} {l1 l2:Addr} {xs ys:List V} {g:TG} {tb:TS} {D:Ends} {σ:St} {H:Hp} (Pv:Nat -> St -> Hp -> Prop) (h0:Pv 0 σ H) (hl:∀ i σ H,Pv i σ H -> SqT K H l1 xs /\ SqT K H l2 ys) (hxy:xs.length = ys.length)
   (hs:∀ i x y σ H p,xs[i]? = some x -> ys[i]? = some y -> Pv i σ H -> H p = none -> g (.ref p) σ (upd H p (.tup [x,y])) fun σ2 H2=>tb { D with nx:=Pv (i + 1),ct:=Pv (i + 1),bk:=D.nx } σ2 H2) (hd:∀ σ H,Pv xs.length σ H -> D.nx σ H) :
   ∃ W:Nat -> Nat -> St -> Hp -> Prop,(∃ m,W 0 m σ H) /\ ∀ i m σ H,W i m σ H ->
     ((Ity K l1 l2).stop i H /\ D.nx σ H) \/ ((Ity K l1 l2).go i H /\ ∃ N:St -> Hp -> Prop,(∀ σ' H',N σ' H' -> ∃ m',m' < m /\ W (i + 1) m' σ' H') /\ ∀ x H',(Ity K l1 l2).yld i H x H' -> g x σ H' fun σ2 H2=>tb { D with nx:=N,ct:=N,bk:=D.nx } σ2 H2):=by
 refine ⟨fun i m σ H=>m = xs.length - i /\ i <= xs.length /\ Pv i σ H,⟨xs.length,by simp,Nat.zero_le _,h0⟩,?_⟩
 rintro i m σ H ⟨rfl,hi,p⟩
 obtain ⟨q1,q2⟩:=hl i σ H p
 by_cases hlt:i < xs.length
 . refine .inr ⟨⟨xs,ys,xs[i],ys[i],q1,q2,by simp [hlt],by simp [show i < ys.length by lia]⟩,Pv (i + 1),fun σ' H' p'=>⟨xs.length - (i + 1),by lia,rfl,hlt,p'⟩,fun x H' y=>?_⟩
   obtain ⟨x',y',p',g1,g2,hn,rfl,rfl⟩:=y
   exact hs i x' y' σ H p' (g1 _ q1) (g2 _ q2) p hn
 . have e:i = xs.length:=by lia
   subst e
   exact .inl ⟨⟨xs,ys,q1,q2,Nat.le_refl _⟩,hd σ H p⟩
section
variable {κ:Type} [DecidableEq κ]
noncomputable def valV (kvs:List (κ × V)) (k:κ):Option V:=(kvs.find? fun kv=>decide (kv.1 = k)).map (·.2)
noncomputable def putK (kvs:List (κ × V)) (k:κ) (v:V):List (κ × V) :=
 if (kvs.any fun kv=>decide (kv.1 = k)) = true then kvs.map (fun kv=>if kv.1 = k then (kv.1,v) else kv) else kvs ++ [(k,v)]
noncomputable def dj (kvs:List (κ × V)) (k:κ):List (κ × V):=kvs.filter fun kv=>decide (kv.1 ≠ k)
theorem bz {p:κ × V} {r:List (κ × V)} {k:κ} (e:p.1 = k):valV (p :: r) k = some p.2:=by simp [valV,List.find?_cons,e]
theorem c5 {p:κ × V} {r:List (κ × V)} {k:κ} (e:¬ p.1 = k):valV (p :: r) k = valV r k:=by simp [valV,List.find?_cons,e]
theorem ef (k:κ):∀ kvs:List (κ × V),(kvs.any fun kv=>decide (kv.1 = k)) = (valV kvs k).isSome
 | []=>rfl
 | p :: r=>by
   rw [List.any_cons]
   by_cases e:p.1 = k
   . simp only [bz e,decide_eq_true e,Bool.true_or,Option.isSome_some]
   . rw [c5 e,decide_eq_false e,Bool.false_or]; exact ef k r
theorem se (k j:κ) (y:V):∀ kvs:List (κ × V),valV (kvs.map fun kv=>if kv.1 = k then (kv.1,y) else kv) j = (valV kvs j).map fun x=>if j = k then y else x
 | []=>rfl
 | p :: r=>by
   have ih:=se k j y r
   rw [List.map_cons]
   by_cases h:p.1 = k
   . rw [if_pos h]
     by_cases e:p.1 = j
     . rw [bz (p:=(p.1,y)) e,bz e,Option.map_some,if_pos (e.symm.trans h)]
     . rw [c5 (p:=(p.1,y)) e,c5 e,ih]
   . rw [if_neg h]
     by_cases e:p.1 = j
     . rw [bz (p:=p) e,bz e,Option.map_some,if_neg (fun z=>h (e.trans z))]
     . rw [c5 (p:=p) e,c5 e,ih]
theorem q0 (k j:κ) (y:V):∀ kvs:List (κ × V),valV kvs k = none -> valV (kvs ++ [(k,y)]) j = if j = k then some y else valV kvs j
 | [],_=>by
   by_cases e:k = j
   . rw [if_pos e.symm]; exact bz (p:=(k,y)) e
   . rw [if_neg (fun z=>e z.symm)]; exact c5 (p:=(k,y)) e
 | p :: r,hn=>by
   rw [List.cons_append]
   have hk:¬ p.1 = k:=fun z=>by rw [bz z] at hn; cases hn
   rw [c5 hk] at hn
   have ih:=q0 k j y r hn
   by_cases e:p.1 = j
   . rw [bz e,bz e,if_neg (fun z=>hk (e.trans z))]
   . rw [c5 e,c5 e,ih]
theorem cx (kvs:List (κ × V)) (k j:κ) (y:V):valV (putK kvs k y) j = if j = k then some y else valV kvs j:=by
 unfold putK
 by_cases a:(kvs.any fun kv=>decide (kv.1 = k)) = true
 . rw [if_pos a,se]
   rw [ef] at a
   by_cases e:j = k
   . obtain ⟨x,hx⟩:=Option.isSome_iff_exists.mp a
     rw [if_pos e,e,hx,Option.map_some,if_pos rfl]
   . rw [if_neg e]
     cases valV kvs j with
     | none=>rfl
     | some x=>rw [Option.map_some,if_neg e]
 . rw [if_neg a]
   refine q0 k j y kvs ?_
   rw [ef] at a
   cases q:valV kvs k with
   | none=>rfl
   | some x=>rw [q] at a; exact (a rfl).elim
theorem ck (kvs:List (κ × V)) (k:κ) (v:V):(putK kvs k v).length <= kvs.length + 1:=by
 unfold putK
 split
 . rw [List.length_map]; lia
 . rw [List.length_append,List.length_cons,List.length_nil]; lia
theorem gq {kvs:List (κ × V)} {k:κ} (v:V) (h:valV kvs k = none):putK kvs k v = kvs ++ [(k,v)]:=by
 unfold putK
 rw [ef,h]
 exact if_neg (by decide)
theorem RelO.isSome_eq {o:Option V} {u:Option Value} (r:RelO o u):o.isSome = u.isSome:=by
 cases o with
 | none=>cases u with
   | none=>rfl
   | some _=>exact (show False from r).elim
 | some _=>cases u with
   | none=>exact (show False from r).elim
   | some _=>rfl
theorem RelO.getD {o:Option V} {u:Option Value} {d:V} {d':Value} (r:RelO o u) (rd:RelV d d'):RelV (o.getD d) (u.getD d'):=by
 cases o with
 | none=>cases u with
   | none=>exact rd
   | some _=>exact (show False from r).elim
 | some _=>cases u with
   | none=>exact (show False from r).elim
   | some _=>exact r
theorem KV.val {kvs:List (κ × V)} {vs:List (κ × Value)} (r:KV kvs vs) (k:κ):RelO (valV kvs k) (valueAt vs k):=by
 unfold KV at r
 induction r with
 | nil=>exact True.intro
 | @cons p q ps qs h t ih =>
   obtain ⟨h1,h2⟩:=h
   by_cases e:p.1 = k
   . have e':q.1 = k:=h1.symm.trans e
     have b:valueAt (q :: qs) k = some q.2:=by simp [valueAt,List.find?_cons,e']
     rw [bz e,b]; exact h2
   . have e':¬ q.1 = k:=fun z=>e (h1.trans z)
     have b:valueAt (q :: qs) k = valueAt qs k:=by simp [valueAt,List.find?_cons,e']
     rw [c5 e,b]; exact ih
theorem KV.any {kvs:List (κ × V)} {vs:List (κ × Value)} (r:KV kvs vs) (k:κ):(kvs.any fun kv=>decide (kv.1 = k)) = vs.any fun kv=>decide (kv.1 = k):=by
 unfold KV at r
 induction r with
 | nil=>rfl
 | cons h t ih=>rw [List.any_cons,List.any_cons,ih,h.1]
theorem KV.repl {kvs:List (κ × V)} {vs:List (κ × Value)} (r:KV kvs vs) (k:κ) {y:V} {u:Value} (ry:RelV y u) :
   KV (kvs.map fun kv=>if kv.1 = k then (kv.1,y) else kv) (vs.map fun kv=>if kv.1 = k then (kv.1,u) else kv):=by
 unfold KV at r |-
 induction r with
 | nil=>exact .nil
 | @cons p q ps qs h t ih =>
   rw [List.map_cons,List.map_cons]
   refine .cons ?_ ih
   obtain ⟨h1,h2⟩:=h
   by_cases e:p.1 = k
   . rw [if_pos e,if_pos (h1.symm.trans e)]; exact ⟨h1,ry⟩
   . rw [if_neg e,if_neg (fun z=>e (h1.trans z))]; exact ⟨h1,h2⟩
theorem KV.put {kvs:List (κ × V)} {vs:List (κ × Value)} (r:KV kvs vs) (k:κ) {y:V} {u:Value} (ry:RelV y u):KV (putK kvs k y) (stored vs k u):=by
 unfold putK stored
 rw [r.any k]
 by_cases e:(vs.any fun kv=>decide (kv.1 = k)) = true
 . rw [if_pos e,if_pos e]; exact r.repl k ry
 . rw [if_neg e,if_neg e]; exact Paired.snoc r ⟨rfl,ry⟩
theorem KV.drop {kvs:List (κ × V)} {vs:List (κ × Value)} (r:KV kvs vs) (k:κ):KV (dj kvs k) (without vs k):=by
 unfold KV at r |-
 unfold dj without
 induction r with
 | nil=>exact .nil
 | @cons p q ps qs h t ih =>
   obtain ⟨h1,h2⟩:=h
   rw [List.filter_cons,List.filter_cons]
   by_cases e:p.1 = k
   . have a:¬ decide (p.1 ≠ k) = true:=by simp [e]
     have b:¬ decide (q.1 ≠ k) = true:=by simp [h1.symm.trans e]
     rw [if_neg a,if_neg b]; exact ih
   . have e':¬ q.1 = k:=fun z=>e (h1.trans z)
     have a:decide (p.1 ≠ k) = true:=by simp [e]
     have b:decide (q.1 ≠ k) = true:=by simp [e']
     rw [if_pos a,if_pos b]; exact .cons ⟨h1,h2⟩ ih
theorem KV.keys {kvs:List (κ × V)} {vs:List (κ × Value)} (r:KV kvs vs):kvs.map (·.1) = vs.map (·.1):=by
 unfold KV at r
 induction r with
 | nil=>rfl
 | cons h t ih=>rw [List.map_cons,List.map_cons,ih,h.1]
theorem KV.length {kvs:List (κ × V)} {vs:List (κ × Value)} (r:KV kvs vs):kvs.length = vs.length:=Paired.length r
theorem u6 (kvs:List (κ × V)) (k:κ):(dj kvs k).length <= kvs.length:=List.length_filter_le _ _
end
theorem i6 {P:Program} {w:World} {k:Key} {u:Value} (r:RelV (kV k) u):(bn P w).is k u = true:=by
 cases k with
 | inl i=>obtain ⟨t,e⟩:=(show ∃ t,u = Value.int i t from r); subst e; exact v6 P w i t
 | inr x=>obtain ⟨t,e⟩:=(show ∃ t,u = Value.str x t from r); subst e; exact vf P w x t
theorem qf {P:Program} {w:World}:∀ {ks:List Key} {us:List Value},Vals (ks.map kV) us -> ItemsAre (bn P w) ks us
 | [],_,r=>by rw [List.map_nil] at r; cases r; exact .nil
 | k :: ks,_,r=>by
   rw [List.map_cons] at r
   cases r with
   | cons h t=>exact .cons (i6 h) (qf t)
abbrev KT (H:Hp):List (List Key × V) -> List (List Key × Addr × Value) -> Prop:=Paired fun p q=>p.1 = q.1 /\ H q.2.1 = some (.tup (p.1.map kV)) /\ RelV p.2 q.2.2
theorem KT.val {H:Hp} {kvs:List (List Key × V)} {xs:List (List Key × Addr × Value)} (r:KT H kvs xs) (k:List Key):RelO (valV kvs k) ((atKey xs k).map (·.2)):=by
 induction r with
 | nil=>exact True.intro
 | @cons p q ps qs h t ih =>
   obtain ⟨h1,_,h2⟩:=h
   by_cases e:p.1 = k
   . have e':q.1 = k:=h1.symm.trans e
     have b:atKey (q :: qs) k = some q.2:=by simp [atKey,List.find?_cons,e']
     rw [bz e,b]; exact h2
   . have e':¬ q.1 = k:=fun z=>e (h1.trans z)
     have b:atKey (q :: qs) k = atKey qs k:=by simp [atKey,List.find?_cons,e']
     rw [c5 e,b]; exact ih
theorem KT.repl {H:Hp} {kvs:List (List Key × V)} {xs:List (List Key × Addr × Value)} (r:KT H kvs xs) (k:List Key) {y:V} {u:Value} (ry:RelV y u) :
   KT H (kvs.map fun kv=>if kv.1 = k then (kv.1,y) else kv) (xs.map (putAt k u)):=by
 induction r with
 | nil=>exact .nil
 | @cons p q ps qs h t ih =>
   rw [List.map_cons,List.map_cons]
   refine .cons ?_ ih
   obtain ⟨h1,h2,h3⟩:=h
   unfold putAt
   by_cases e:p.1 = k
   . rw [if_pos e,if_pos (h1.symm.trans e)]; exact ⟨h1,h2,ry⟩
   . rw [if_neg e,if_neg (fun z=>e (h1.trans z))]; exact ⟨h1,h2,h3⟩
theorem KT.put {H:Hp} {kvs:List (List Key × V)} {xs:List (List Key × Addr × Value)} (r:KT H kvs xs) (k:List Key) {b:Addr} {y:V} {u:Value} (hb:H b = some (.tup (k.map kV))) (ry:RelV y u) :
   KT H (putK kvs k y) (storedH xs k b u):=by
 have e:(kvs.any fun kv=>decide (kv.1 = k)) = (atKey xs k).isSome:=by
   rw [ef,(r.val k).isSome_eq,Option.isSome_map]
 unfold putK storedH
 rw [e]
 by_cases q:(atKey xs k).isSome = true
 . rw [if_pos q,if_pos q]; exact r.repl k ry
 . rw [if_neg q,if_neg q]; exact Paired.snoc r ⟨rfl,hb,ry⟩
theorem KT.keeps {H H':Hp} {kvs:List (List Key × V)} {xs:List (List Key × Addr × Value)} (r:KT H kvs xs) (ht:∀ b ys,H b = some (.tup ys) -> H' b = some (.tup ys)):KT H' kvs xs :=
 Paired.mapP r fun _ _ z=>⟨z.1,ht _ _ z.2.1,z.2.2⟩
section
variable {P:Program} {w:World} {H:Hp} {h:Heap} {a:Addr}
theorem a4t {u:HO} (ok:HOk P w H h) (e:Rd H a u):ObjOk P w H h a u:=e.ok ok
theorem gu {kvs:List (Key × V)} (ok:HOk P w H h) (e:Rd H a (.dK kvs)):kvs.length <= sizeLine /\ (a == sysModules) = false /\ ∃ vs,KV kvs vs /\ h.DictOf (bn P w) a vs :=
 show ObjOk P w H h a (.dK kvs) from a4t ok e
theorem j4 {kvs:List (Key × V)} (ok:HOk P w H h) (e:H a = some (.dK kvs)):kvs.length <= sizeLine /\ (a == sysModules) = false /\ ∃ vs,KV kvs vs /\ h.DictOf (bn P w) a vs:=gu ok (.inl e)
theorem jc {ks:List Key} (ok:HOk P w H h) (e:H a = some (.tup (ks.map kV))):(tupleKind (bn P w)).is h ks a:=by
 obtain ⟨_,its,r,o,h1,h2,n,h3⟩:=(show ObjOk P w H h a (.tup (ks.map kV)) from ok a _ e)
 exact ⟨o,its.toArray,n,h1,h2,h3,by simpa using qf r⟩
theorem jj {kvs:List (List Key × V)} (ok:HOk P w H h) (e:Rd H a (.dT kvs)):kvs.length <= sizeLine /\ (a == sysModules) = false /\
   ∃ xs,KT H kvs xs /\ h.DictOfH (tupleKind (bn P w)) a xs:=by
 obtain ⟨z,y,xs,r,o,es,ep,h1,h2,h3,h4,h5⟩:=(show ObjOk P w H h a (.dT kvs) from a4t ok e)
 refine ⟨z,y,xs,r,o,es,ep,h1,h2,h3,h4,fun x hx=>?_,h5⟩
 have all:∀ {l:List (List Key × V)} {m:List (List Key × Addr × Value)},KT H l m -> ∀ x ∈ m,(tupleKind (bn P w)).is h x.1 x.2.1:=by
   intro l m q
   induction q with
   | nil=>intro x hx; exact nomatch hx
   | @cons p q ps qs hq t ih =>
     intro x hx
     rcases List.mem_cons.mp hx with e | hx
     . subst e
       exact jc ok (by rw [<- hq.1]; exact hq.2.1)
     . exact ih x hx
 exact all r x hx
theorem a8n {kvs:List (List Key × V)} (ok:HOk P w H h) (e:H a = some (.dT kvs)):kvs.length <= sizeLine /\ (a == sysModules) = false /\
   ∃ xs,KT H kvs xs /\ h.DictOfH (tupleKind (bn P w)) a xs:=jj ok (.inl e)
end
noncomputable def DGet (H:Hp) (a:Addr) (y:V) (r:Option V):Prop :=
 (∃ kvs k,Rd H a (.dK kvs) /\ y = kV k /\ r = valV kvs k) \/ ∃ kvs k b,Rd H a (.dT kvs) /\ y = .ref b /\ H b = some (.tup (k.map kV)) /\ r = valV kvs k
noncomputable def DPut (H:Hp) (a:Addr) (y v:V) (H':Hp):Prop :=
 (∃ kvs k,H a = some (.dK kvs) /\ y = kV k /\ kvs.length < sizeLine /\ H' = upd H a (.dK (putK kvs k v))) \/
 ∃ kvs k b,H a = some (.dT kvs) /\ y = .ref b /\ H b = some (.tup (k.map kV)) /\ kvs.length < sizeLine /\ H' = upd H a (.dT (putK kvs k v))
theorem DGet.k {H:Hp} {a:Addr} {kvs:List (Key × V)} {k:Key} (e:H a = some (.dK kvs)):DGet H a (kV k) (valV kvs k) := .inl ⟨kvs,k,.inl e,rfl,rfl⟩
theorem DGet.t {H:Hp} {a b:Addr} {kvs:List (List Key × V)} {k:List Key} (e:H a = some (.dT kvs)) (eb:H b = some (.tup (k.map kV))):DGet H a (.ref b) (valV kvs k) := .inr ⟨kvs,k,b,.inl e,rfl,eb,rfl⟩
theorem DPut.k {H:Hp} {a:Addr} {kvs:List (Key × V)} {k:Key} {v:V} (e:H a = some (.dK kvs)) (hl:kvs.length < sizeLine):DPut H a (kV k) v (upd H a (.dK (putK kvs k v))) := .inl ⟨kvs,k,e,rfl,hl,rfl⟩
theorem DPut.t {H:Hp} {a b:Addr} {kvs:List (List Key × V)} {k:List Key} {v:V} (e:H a = some (.dT kvs)) (eb:H b = some (.tup (k.map kV))) (hl:kvs.length < sizeLine) :
   DPut H a (.ref b) v (upd H a (.dT (putK kvs k v))) := .inr ⟨kvs,k,b,e,rfl,eb,hl,rfl⟩
section
variable {X:Cx} {pins:List (Addr × Obj)} {σ:St} {H:Hp} {s:Shared} {a:Addr} {y v:V} {u r:Value} {o:Option V} {A:Around} {E:Value -> Shared -> Prop}
theorem Inv.big (I:Inv X pins σ H s):sysModules < s.heap.objs.size:=by
 have h:mainGlobals < s.heap.objs.size:=(I.mod.glob.keeps I.bk).lt
 exact Nat.lt_trans (by decide) h
theorem a0w {Q:Value -> Shared -> Prop} (hu:A.units + 1 < cLine) (I:Inv X pins σ H s) (g:DGet H a y (some v)) (ry:RelV y u) (h:∀ w' s',Inv X pins σ H s' -> RelV v w' -> Q w' s') :
   wpAny (model X.prog X.w) A (getItem (.ref a) u) Q E s:=by
 rcases g with ⟨kvs,k,e,ey,l⟩ | ⟨kvs,k,b,e,ey,eb,l⟩
 . subst ey
   obtain ⟨z,hd,vs,rel,dd⟩:=gu I.hok e
   obtain ⟨w',hw,rw'⟩:=RelO.some_of (v:=v) (o:=valueAt vs k) (by rw [l]; exact rel.val k)
   exact wpAny_getItem_of (i6 ry) dd.mapOf hw (h w' _ (I.tok _) rw')
 . subst ey
   cases (show u = Value.ref b from ry)
   obtain ⟨z,hd,xs,rel,dd⟩:=jj I.hok e
   obtain ⟨w',hw,rw'⟩:=RelO.some_of (v:=v) (o:=(atKey xs k).map (·.2)) (by rw [l]; exact rel.val k)
   obtain ⟨p,hp,hp2⟩:=Option.map_eq_some_iff.mp hw
   refine wpAny_getItem_heap (tupleKind_room_in1 hu) (jc I.hok eb) dd hp ?_
   rw [hp2]
   exact h w' _ (I.tok _) rw'
theorem d_in {Q:Value -> Shared -> Prop} (hu:A.units + 1 < cLine) (I:Inv X pins σ H s) (g:DGet H a y o) (ry:RelV y u) (h:∀ s',Inv X pins σ H s' -> Q (.bool o.isSome) s') :
   wpAny (model X.prog X.w) A (compareOp .In u (.ref a)) Q E s:=by
 rcases g with ⟨kvs,k,e,ey,l⟩ | ⟨kvs,k,b,e,ey,eb,l⟩
 . subst ey
   obtain ⟨z,hd,vs,rel,dd⟩:=gu I.hok e
   refine wpAny_in_of (i6 ry) hd dd.mapOf ?_
   rw [<- (rel.val k).isSome_eq,<- l]
   exact h _ (I.tok _)
 . subst ey
   cases (show u = Value.ref b from ry)
   obtain ⟨z,hd,xs,rel,dd⟩:=jj I.hok e
   refine wpAny_in_heap (tupleKind_room_in1 hu) (jc I.hok eb) hd dd ?_
   have q:=(rel.val k).isSome_eq
   rw [Option.isSome_map] at q
   rw [<- q,<- l]
   exact h _ (I.tok _)
theorem a6o {Q:Value -> Shared -> Prop} (hu:A.units + 1 < cLine) (I:Inv X pins σ H s) (g:DGet H a y o) (ry:RelV y u) (h:∀ s',Inv X pins σ H s' -> Q (.bool (!o.isSome)) s') :
   wpAny (model X.prog X.w) A (compareOp .NotIn u (.ref a)) Q E s:=by
 rcases g with ⟨kvs,k,e,ey,l⟩ | ⟨kvs,k,b,e,ey,eb,l⟩
 . subst ey
   obtain ⟨z,hd,vs,rel,dd⟩:=gu I.hok e
   refine wpAny_notIn_of (i6 ry) hd dd.mapOf ?_
   rw [<- (rel.val k).isSome_eq,<- l]
   exact h _ (I.tok _)
 . subst ey
   cases (show u = Value.ref b from ry)
   obtain ⟨z,hd,xs,rel,dd⟩:=jj I.hok e
   refine wpAny_notIn_heap (tupleKind_room_in1 hu) (jc I.hok eb) hd dd ?_
   have q:=(rel.val k).isSome_eq
   rw [Option.isSome_map] at q
   rw [<- q,<- l]
   exact h _ (I.tok _)
theorem gp {h':Heap} {t':Nat} {ob:HO} (I:Inv X pins σ H s) (mu:Mut (H a)) (hs:Heap.SameBut a s.heap h') (he:∃ q,h'.get? a = some q) (new:ObjOk X.prog X.w (upd H a ob) h' a ob) :
   Inv X pins σ (upd H a ob) { s with heap:=h',toks:=t' } :=
 I.write (x:=a) (e:=a) mu (.inl rfl) (fun b q hb z=>(hs.2 b hb).trans z) he new
theorem im {P:Program} {w:World} {H':Hp} {h':Heap} {kvs:List (Key × V)} {vs:List (Key × Value)} (z:kvs.length <= sizeLine) (hd:(a == sysModules) = false) (rel:KV kvs vs) (dd:h'.DictOf (bn P w) a vs) :
   ObjOk P w H' h' a (.dK kvs):=⟨z,hd,vs,rel,dd⟩
theorem a0o {H':Hp} {Q:Unit -> Shared -> Prop} (hu:A.units + 1 < cLine) (I:Inv X pins σ H s) (g:DPut H a y v H') (ry:RelV y u) (rv:RelV v r) (h:∀ s',Inv X pins σ H' s' -> Q () s') :
   wpAny (model X.prog X.w) A (setItem (.ref a) u r) Q E s:=by
 rcases g with ⟨kvs,k,e,ey,l,eH⟩ | ⟨kvs,k,b,e,ey,eb,l,eH⟩
 . subst ey eH
   obtain ⟨z,hd,vs,rel,dd⟩:=j4 I.hok e
   have hz:vs.length <= sizeLine:=by rw [<- rel.length]; exact z
   have hl:(putK kvs k v).length <= sizeLine:=by have:=ck kvs k v; lia
   refine wpAny_setItem_pairs (hsz:=hz) (i6 ry) dd fun h' dd' hs=>h _ ?_
   have he:∃ q,h'.get? a = some q:=let ⟨q,_,_,hq,_⟩:=dd'; ⟨q,hq⟩
   exact gp I (by rw [e]; exact True.intro) hs he (im hl hd (rel.put k rv) dd')
 . subst ey eH
   cases (show u = Value.ref b from ry)
   obtain ⟨z,hd,xs,rel,dd⟩:=a8n I.hok e
   have hz:xs.length <= sizeLine:=by rw [<- Paired.length rel]; exact z
   have hl:(putK kvs k v).length <= sizeLine:=by have:=ck kvs k v; lia
   refine wpAny_setItem_heap (hsz:=hz) (tupleKind_room_in1 hu) (jc I.hok eb) dd fun h' dd' hs=>h _ ?_
   obtain ⟨q,es,ep,hq,h2,h3,h4,_,h5⟩:=dd'
   refine gp I (by rw [e]; exact True.intro) hs ⟨q,hq⟩ ⟨hl,hd,_,(rel.put k eb rv).keeps fun c ys ec=>?_,q,es,ep,hq,h2,h3,h4,h5⟩
   rw [ag (i9 ec e (fun z=>nomatch z))]
   exact ec
end
section
variable {X:Cx} {pins:List (Addr × Obj)} {σ:St} {H:Hp} {s:Shared} {a:Addr} {kvs:List (Key × V)} {k:Key} {u:Value} {A:Around} {E:Value -> Shared -> Prop}
theorem a8e {v:V} {more:List Value} {Q:Value -> Shared -> Prop} (I:Inv X pins σ H s) (e:H a = some (.dK kvs)) (ry:RelV (kV k) u) (l:valV kvs k = some v) (hm:more = [] \/ ∃ x,more = [x])
   (h:∀ w' s',Inv X pins σ (upd H a (.dK (dj kvs k))) s' -> RelV v w' -> Q w' s'):wpAny (model X.prog X.w) A (call (.builtin "dict.pop") (.ref a :: u :: more)) Q E s:=by
 obtain ⟨z,hd,vs,rel,dd⟩:=j4 I.hok e
 obtain ⟨w',hw,rw'⟩:=RelO.some_of (v:=v) (o:=valueAt vs k) (by rw [<- l]; exact rel.val k)
 have hp:(keyPart u).isSome = true:=by
   cases k with
   | inl i=>obtain ⟨t,q⟩:=(show ∃ t,u = Value.int i t from ry); subst q; rfl
   | inr x=>obtain ⟨t,q⟩:=(show ∃ t,u = Value.str x t from ry); subst q; rfl
 have ha:argsOk "dict.pop" ⟨.ref a :: u :: more,[]⟩:=by
   rcases hm with q | ⟨x,q⟩
   . subst q; exact PySem.F.args_dict_pop_2 _ _
   . subst q; exact PySem.F.args_dict_pop_3 _ _ _
 refine call_meetsIn PySem.F.slot_dict_pop dd.typeIs PySem.F.entry_dict_pop ha (meets_dict_pop_there (bn X.prog X.w) a (i6 ry) more hm hp)
   ⟨vs,w',dd,by rw [<- rel.length]; exact z,hw,fun h' dd' hs=>h w' _ ?_ rw'⟩
 have he:∃ q,h'.get? a = some q:=let ⟨q,_,_,hq,_⟩:=dd'; ⟨q,hq⟩
 exact gp I (by rw [e]; exact True.intro) hs he (im (Nat.le_trans (u6 kvs k) z) hd (rel.drop k) dd')
theorem a5u {Q:Value -> Shared -> Prop} (I:Inv X pins σ H s) (e:H a = some (.dK kvs)) (h:∀ s',Inv X pins σ (upd H a (.dK [])) s' -> Q .none s'):wpAny (model X.prog X.w) A (call (.builtin "dict.clear") [.ref a]) Q E s:=by
 obtain ⟨z,hd,vs,rel,dd⟩:=j4 I.hok e
 refine call_meetsIn PySem.F.slot_dict_clear dd.typeIs PySem.F.entry_dict_clear (PySem.F.args_dict_clear_1 _) (meets_dict_clear (bn X.prog X.w) a) ⟨vs,dd,by rw [<- rel.length]; exact z,fun h' dd' hs=>h _ ?_⟩
 have he:∃ q,h'.get? a = some q:=let ⟨q,_,_,hq,_⟩:=dd'; ⟨q,hq⟩
 exact gp (t':=s.toks) I (by rw [e]; exact True.intro) hs he (im (Nat.zero_le _) hd .nil dd')
theorem a8i {Q:Value -> Shared -> Prop} (I:Inv X pins σ H s) (e:Rd H a (.dK kvs)) (h:∀ t s',Inv X pins σ H s' -> Q (.int kvs.length t) s'):wpAny (model X.prog X.w) A (call (.builtin "len") [.ref a]) Q E s:=by
 obtain ⟨z,hd,vs,rel,dd⟩:=gu I.hok e
 refine call_len_dict hd dd (by rw [<- rel.length]; rw [sizeLine_eq] at z; lia) ?_
 rw [<- rel.length]
 exact h _ _ (I.tok _)
end
noncomputable def NoSl (i:Expr):Prop := ∀ ov iv,subscripted i false ov iv = operate [ov,iv] (getItem ov iv)
theorem a6g {prog:Program} {w:World} {A:Around} {E:Value -> Shared -> Prop} {s:Shared} {env:Env} {value slice:Expr} {pos:Pos} {T id:String} {Q:Value -> Shared -> Prop}
   (hl:typeLookup (.type T) "__getitem__" = pure (some (.builtin id))) (hs:NoSl slice)
   (h:wpAny (model prog w) A (eval value env) (fun o s₁=>wpAny (model prog w) A (eval slice env) (fun i s₂=>s₂.TypeIs o T /\ wpAny (model prog w) A (getItem o i) Q E s₂) E s₁) E s) :
   wpAny (model prog w) A (eval (.Subscript value slice pos) env) Q E s:=by
 refine Subscript_ (wpAny_mono h (fun o s₁ h₁=>wpAny_mono h₁ (fun i s₂ h₂=>?_) fun _ _ x=>x) fun _ _ x=>x)
 obtain ⟨hT,h₂⟩:=h₂
 unfold subscriptTail
 refine wpAny_bind ?_
 rw [getitemInPython_of_ne hT.not_modules]
 refine wpAny_bind (wpAny_specialOf hT hl ?_)
 have fin:wpAny (model prog w) A (subscripted slice false o i) (fun r s₃=>wpAny (model prog w) A (letTemporaryGo value o r >>= fun _=>pure r) Q E s₃) E s₂:=by
   rw [hs o i]
   exact wpAny_operating (wpAny_mono h₂ (fun r s₃ h₃=>wpAny_bind (wpAny_letTemporaryGo (wpAny_pure h₃))) fun _ _ x=>x)
 first
   | exact wpAny_pure (wpAny_bind fin)
   | exact wpAny_bind (wpAny_pure (wpAny_bind fin))
   | exact wpAny_bind fin
theorem vd {X:Cx} {pins:List (Addr × Obj)} {σ:St} {H:Hp} {s:Shared} {a:Addr} {y:V} {o:Option V} (I:Inv X pins σ H s) (g:DGet H a y o):s.TypeIs (.ref a) "dict" := by
 rcases g with ⟨kvs,k,e,_,_⟩ | ⟨kvs,k,b,e,_,_,_⟩
 . obtain ⟨_,_,vs,_,dd⟩:=gu I.hok e
   exact dd.typeIs
 . obtain ⟨_,_,xs,_,dd⟩:=jj I.hok e
   exact dd.typeIs
inductive tDGetS (x y:V) (H2:Hp) (Q:VK):Prop
 | mk (a:Addr) (v:V) (h0:x = .ref a) (h1:DGet H2 a y (some v)) (h2:Q v H2):tDGetS x y H2 Q
noncomputable def a4r (td ty:TE):TE:=fun σ H Q=>td σ H fun x H1=>ty σ H1 fun y H2=>tDGetS x y H2 Q
inductive tDInS (x y:V) (H2:Hp) (Q:VK):Prop
 | mk (a:Addr) (o:Option V) (h0:x = .ref a) (h1:DGet H2 a y o) (h2:Q (.bl o.isSome) H2):tDInS x y H2 Q
noncomputable def tDIn (ty td:TE):TE:=fun σ H Q=>ty σ H fun y H1=>td σ H1 fun x H2=>tDInS x y H2 Q
noncomputable def vz (ty td:TE):TE:=fun σ H Q=>ty σ H fun y H1=>td σ H1 fun x H2 => ∃ a o,x = .ref a /\ DGet H2 a y o /\ Q (.bl (!o.isSome)) H2
inductive sDPutS (D:Ends) (σ:St) (v x y:V) (H3:Hp):Prop
 | mk (a:Addr) (H4:Hp) (h0:x = .ref a) (h1:DPut H3 a y v H4) (h2:D.nx σ H4):sDPutS D σ v x y H3
noncomputable def a4g (td ty tv:TE):TS:=fun D σ H=>tv σ H fun v H1=>td σ H1 fun x H2=>ty σ H2 fun y H3=>sDPutS D σ v x y H3
section
variable {X:Cx} {o i e value:Expr} {pos pos' tpos:Pos} {td ty tv:TE}
theorem a6b (hu:X.A.units + 1 < cLine) (ho:PE X o td) (hi:PE X i ty) (hs:NoSl i):PE X (.Subscript o i pos) (a4r td ty):=by
 intro pins s σ H Q I h
 refine a6g PySem.F.slot_dict_getitem.lookup hs (thn (ho pins s σ H _ I h) fun u s1 ⟨x,H1,I1,rx,q1⟩=>thn (hi pins s1 σ H1 _ I1 q1) fun iv s2 zq=>?_)
 obtain ⟨y,H2,I2,ry,a,v,ex,g,q2⟩:=zq
 subst ex
 obtain rfl:u = Value.ref a:=rx
 exact ⟨vd I2 g,a0w hu I2 g ry fun w' s3 I3 rw'=>⟨v,H2,I3,rw',q2⟩⟩
theorem a04 (hu:X.A.units + 1 < cLine) (hi:PE X i ty) (ho:PE X o td):PC X .In i o (tDIn ty td):=by
 intro pins s σ H Q I h
 refine thn (hi pins s σ H _ I h) fun iv s1 ⟨y,H1,I1,ry,q1⟩=>thn (ho pins s1 σ H1 _ I1 q1) fun u s2 zq=>?_
 obtain ⟨x,H2,I2,rx,a,ov,ex,g,q2⟩:=zq
 subst ex
 obtain rfl:u = Value.ref a:=rx
 exact d_in hu I2 g ry fun s3 I3=>⟨.bl ov.isSome,H2,I3,rfl,q2⟩
theorem zm (hu:X.A.units + 1 < cLine) (hi:PE X i ty) (ho:PE X o td):PC X .NotIn i o (vz ty td):=by
 intro pins s σ H Q I h
 refine thn (hi pins s σ H _ I h) fun iv s1 ⟨y,H1,I1,ry,q1⟩=>thn (ho pins s1 σ H1 _ I1 q1) fun u s2 zq=>?_
 obtain ⟨x,H2,I2,rx,a,ov,ex,g,q2⟩:=zq
 subst ex
 obtain rfl:u = Value.ref a:=rx
 exact a6o hu I2 g ry fun s3 I3=>⟨.bl (!ov.isSome),H2,I3,rfl,q2⟩
theorem a58 (hu:X.A.units + 1 < cLine) (ho:PE X o td) (hi:PE X i ty) (hv:PE X value tv) (hs:swapsWith value (some (.Subscript o i pos')) pos.line X.env = pure false) :
   PS X (.Assign [.Subscript o i pos'] value pos) (a4g td ty tv):=by
 intro pins s σ H D I h
 refine wpAny_Assign_Subscript (thn (hv pins s σ H _ I h) fun r s1 ⟨v,H1,I1,rv,q1⟩=>thn (ho pins s1 σ H1 _ I1 q1) fun u s2 ⟨x,H2,I2,rx,q2⟩=>thn (hi pins s2 σ H2 _ I2 q2) fun iv s3 ⟨y,H3,I3,ry,a,H4,ex,g,q3⟩=>?_) hs
 subst ex
 obtain rfl:u = Value.ref a:=rx
 exact a0o hu I3 g ry rv fun s4 I4=>⟨σ,H4,I4,q3⟩
end
theorem sy {P:Program} {w:World} {H:Hp} (h:Heap) (hb:sysModules < h.objs.size):ObjOk P w H (h.push { cls := .type "dict",data := .dict #[] }) h.objs.size (.dK []) :=
 ⟨Nat.zero_le _,beq_eq_false_iff_ne.mpr (Ne.symm (Nat.ne_of_lt hb)),[],.nil,Heap.DictOf.new h⟩
theorem a2n {P:Program} {w:World} {H:Hp} (h:Heap) (hb:sysModules < h.objs.size):ObjOk P w H (h.push { cls := .type "dict",data := .dict #[] }) h.objs.size (.dT []) :=
 ⟨Nat.zero_le _,beq_eq_false_iff_ne.mpr (Ne.symm (Nat.ne_of_lt hb)),[],.nil,_,#[],0,Heap.get?_push_size _ rfl,⟨rfl,rfl,rfl⟩,rfl,rfl,List.nodup_nil⟩
noncomputable def a1c:TE:=fun _ H Q => ∀ p,H p = none -> Q (.ref p) (upd H p (.dK []))
noncomputable def a1d:TE:=fun _ H Q => ∀ p,H p = none -> Q (.ref p) (upd H p (.dT []))
section
variable {X:Cx} {pos:Pos}
theorem a3p:PE X (.Dict [] [] pos) a1c:=fun pins s σ H Q I h =>
 wpAny_Dict_empty ⟨.ref s.heap.objs.size,_,I.laid (a:=s.heap.objs.size) (o := .dK []) (t':=s.toks) (fun _ _ q=>Heap.get?_push_of_some _ q) (Nat.le_refl _) (sy s.heap I.big),rfl,h _ (I.hok.fresh (Nat.le_refl _))⟩
theorem a3e:PE X (.Dict [] [] pos) a1d:=fun pins s σ H Q I h =>
 wpAny_Dict_empty ⟨.ref s.heap.objs.size,_,I.laid (a:=s.heap.objs.size) (o := .dT []) (t':=s.toks) (fun _ _ q=>Heap.get?_push_of_some _ q) (Nat.le_refl _) (a2n s.heap I.big),rfl,h _ (I.hok.fresh (Nat.le_refl _))⟩
end
noncomputable def v3:List (TE × TE) -> St -> Hp -> (List (V × V) -> Hp -> Prop) -> Prop
 | [],_,H,Q=>Q [] H
 | (tk,tv) :: r,σ,H,Q=>tk σ H fun x H1=>tv σ H1 fun y H2=>v3 r σ H2 fun ps H3=>Q ((x,y) :: ps) H3
abbrev VV:List (V × V) -> List (Value × Value) -> Prop:=Paired fun p q=>RelV p.1 q.1 /\ RelV p.2 q.2
noncomputable def PPs (X:Cx) (pos:Pos) (keys:List (Option Expr)) (values:List Expr) (trs:List (TE × TE)):Prop :=
 ∀ (pins:List (Addr × Obj)) (s:Shared) (σ:St) (H:Hp) (Q:List (V × V) -> Hp -> Prop),Inv X pins σ H s -> v3 trs σ H Q ->
   wpAny (model X.prog X.w) X.A (evalPairs (pairTrees keys values X.env pos)) (fun vs s' => ∃ ps H',Inv X pins σ H' s' /\ VV ps vs /\ Q ps H') X.xe s
theorem oa {X:Cx} {pos:Pos}:PPs X pos [] [] []:=fun pins s σ H Q I h=>pairTrees_nil_walk ⟨[],H,I,.nil,h⟩
theorem gs {X:Cx} {pos:Pos} {k v:Expr} {ks:List (Option Expr)} {vs:List Expr} {tk tv:TE} {trs:List (TE × TE)} (hk:PE X k tk) (hv:PE X v tv) (hr:PPs X pos ks vs trs) :
   PPs X pos (some k :: ks) (v :: vs) ((tk,tv) :: trs):=fun pins s σ H Q I h =>
 pairTrees_cons_walk (thn (hk pins s σ H _ I h) fun u s1 ⟨x,H1,I1,rx,q1⟩=>thn (hv pins s1 σ H1 _ I1 q1) fun w2 s2 ⟨y,H2,I2,ry,q2⟩ =>
   thn (hr pins s2 σ H2 _ I2 q2) fun ws s3 ⟨ps,H3,I3,rel,q3⟩=>⟨(x,y) :: ps,H3,I3,.cons ⟨rx,ry⟩ rel,q3⟩)
noncomputable def cr (kvs more:List (Key × V)):List (Key × V):=more.foldl (fun acc kv=>putK acc kv.1 kv.2) kvs
theorem KV.merge:∀ {more:List (Key × V)} {rs:List (Key × Value)} {kvs:List (Key × V)} {vs:List (Key × Value)},KV more rs -> KV kvs vs -> KV (cr kvs more) (merged vs rs):=by
 intro more rs kvs vs r
 unfold KV at r
 induction r generalizing kvs vs with
 | nil=>intro q; exact q
 | @cons p q ps qs h t ih =>
   intro r0
   have e:KV (putK kvs p.1 p.2) (stored vs q.1 q.2):=by
     have:=r0.put p.1 h.2
     rw [<- h.1]; exact this
   exact ih e
theorem i5:∀ (more kvs:List (Key × V)),(cr kvs more).length <= kvs.length + more.length
 | [],kvs=>by show kvs.length <= kvs.length + 0; lia
 | p :: r,kvs=>by
   have h1:=i5 r (putK kvs p.1 p.2)
   have h2:=ck kvs p.1 p.2
   show (cr (putK kvs p.1 p.2) r).length <= _
   rw [List.length_cons]; lia
theorem nv {P:Program} {w:World}:∀ {kvs:List (Key × V)} {ws:List (Value × Value)},VV (kvs.map fun kv=>(kV kv.1,kv.2)) ws -> ∃ rs,Carries (bn P w) ws rs /\ KV kvs rs
 | [],_,r=>by rw [List.map_nil] at r; cases r; exact ⟨[],True.intro,.nil⟩
 | p :: kvs,_,r=>by
   rw [List.map_cons] at r
   cases r with
   | @cons a b as bs h t =>
     obtain ⟨rs,c,q⟩:=nv (P:=P) (w:=w) t
     obtain ⟨b1,b2⟩:=b
     exact ⟨(p.1,b2) :: rs,⟨i6 h.1,rfl,c⟩,.cons ⟨rfl,h.2⟩ q⟩
noncomputable def qy (trs:List (TE × TE)):TE:=fun σ H Q => ∀ p,H p = none -> v3 trs σ (upd H p (.dK [])) fun ps H2=>H2 p = some (.dK []) /\ ∃ kvs:List (Key × V),ps = kvs.map (fun kv=>(kV kv.1,kv.2)) /\ kvs.length <= 15 /\ Q (.ref p) (upd H2 p (.dK (cr [] kvs)))
theorem pb {X:Cx} {pos:Pos} {keys:List (Option Expr)} {values:List Expr} {trs:List (TE × TE)} (h:PPs X pos keys values trs) (hall:keys.all (·.isSome) = true) (hl:keys.length = values.length) (h0:keys ≠ [])
   (h15:keys.length <= 15):PE X (.Dict keys values pos) (qy trs):=by
 intro pins s σ H Q I q
 have hn:=I.hok.fresh (Nat.le_refl s.heap.objs.size)
 have I1:=I.laid (a:=s.heap.objs.size) (o := .dK []) (h':=s.heap.push { cls := .type "dict",data := .dict #[] }) (t':=s.toks) (fun _ _ q=>Heap.get?_push_of_some _ q) (Nat.le_refl _) (sy s.heap I.big)
 refine wpAny_Dict_walk (knd:=bn X.prog X.w) hall hl h0 h15 (thn (h pins _ σ _ _ I1 (q _ hn)) fun ws s2 zq=>?_)
 obtain ⟨ps,H2,I2,rel,e,kvs,ep,lk,q2⟩:=zq
 subst ep
 obtain ⟨rs,c,rk⟩:=nv (P:=X.prog) (w:=X.w) rel
 obtain ⟨z,hd,vs0,r0,dd⟩:=j4 I2.hok e
 cases r0
 refine ⟨rs,c,dd,fun h' dd' hs=>⟨.ref s.heap.objs.size,_,?_,rfl,q2⟩⟩
 have hz:(cr [] kvs).length <= sizeLine:=by
   have h1:=i5 kvs []
   rw [List.length_nil] at h1
   rw [sizeLine_eq]; lia
 have he:∃ q,h'.get? s.heap.objs.size = some q:=let ⟨q,_,_,hq,_⟩:=dd'; ⟨q,hq⟩
 exact gp I2 (by rw [e]; exact True.intro) hs he (im hz hd (rk.merge .nil) dd')
structure M1 (X:Cx) (o:Expr) (m:Str) (apos:Pos) (e:Expr) (cpos:Pos):Prop where
 base:attributeBase o m X.env (eval o X.env) = eval o X.env
 few:((backTo cpos (starEach [e] X.env)).all (fun x => !x.1) && (backToKw cpos (keywordEach [] X.env)).all (fun x=>x.1.isSome)
   && decide (([e]:List Expr).length + ([]:List Keyword).length + (if ([]:List Keyword).isEmpty then 0 else 1) < 30)) = true
 line:(apos.endLine == cpos.line) = true
 trees:backTo cpos (starEach [e] X.env) = [(false,eval e X.env)]
structure M2 (X:Cx) (o:Expr) (m:Str) (apos:Pos) (e f:Expr) (cpos:Pos):Prop where
 base:attributeBase o m X.env (eval o X.env) = eval o X.env
 few:((backTo cpos (starEach [e,f] X.env)).all (fun x => !x.1) && (backToKw cpos (keywordEach [] X.env)).all (fun x=>x.1.isSome)
   && decide (([e,f]:List Expr).length + ([]:List Keyword).length + (if ([]:List Keyword).isEmpty then 0 else 1) < 30)) = true
 line:(apos.endLine == cpos.line) = true
 trees:backTo cpos (starEach [e,f] X.env) = [(false,eval e X.env),(false,eval f X.env)]
noncomputable def IsD (H:Hp) (a:Addr):Prop:=(∃ kvs,Rd H a (.dK kvs)) \/ ∃ kvs,Rd H a (.dT kvs)
theorem nw {X:Cx} {pins:List (Addr × Obj)} {σ:St} {H:Hp} {s:Shared} {a:Addr} (I:Inv X pins σ H s) (d:IsD H a) :
   s.TypeIs (.ref a) "dict" /\ (∀ b,Value.ref a = .ref b -> ∃ ob,s.heap.get? b = some ob /\ ob.dict = none) /\ (a == sysModules) = false:=by
 rcases d with ⟨kvs,e⟩ | ⟨kvs,e⟩
 . obtain ⟨_,hd,vs,_,dd⟩:=gu I.hok e
   refine ⟨dd.typeIs,fun b q=>?_,hd⟩
   cases q
   obtain ⟨ob,_,_,h1,h2,_⟩:=dd
   exact ⟨ob,h1,h2.2.1⟩
 . obtain ⟨_,hd,xs,_,dd⟩:=jj I.hok e
   refine ⟨dd.typeIs,fun b q=>?_,hd⟩
   cases q
   obtain ⟨ob,_,_,h1,h2,_⟩:=dd
   exact ⟨ob,h1,h2.2.1⟩
section
variable {X:Cx} {pins:List (Addr × Obj)} {σ:St} {H:Hp} {s:Shared} {a:Addr} {y d:V} {u r:Value} {o:Option V} {A:Around} {E:Value -> Shared -> Prop}
theorem a7l {Q:Value -> Shared -> Prop} (hu:A.units + 1 < cLine) (I:Inv X pins σ H s) (g:DGet H a y o) (ry:RelV y u) (rd:RelV d r) (h:∀ w' s',Inv X pins σ H s' -> RelV (o.getD d) w' -> Q w' s') :
   wpAny (model X.prog X.w) A (call (.builtin "dict.get") [.ref a,u,r]) Q E s:=by
 rcases g with ⟨kvs,k,e,ey,l⟩ | ⟨kvs,k,b,e,ey,eb,l⟩
 . subst ey
   obtain ⟨z,hd,vs,rel,dd⟩:=gu I.hok e
   refine call_meetsIn PySem.F.slot_dict_get dd.typeIs PySem.F.entry_dict_get (PySem.F.args_dict_get_3 _ _ _) (meets_dict_get_default (bn X.prog X.w) a (i6 ry) hd r) ⟨_,dd.mapOf,h _ _ (I.tok _) ?_⟩
   rw [l]
   exact (rel.val k).getD rd
 . subst ey
   cases (show u = Value.ref b from ry)
   obtain ⟨z,hd,xs,rel,dd⟩:=jj I.hok e
   refine call_meetsIn PySem.F.slot_dict_get dd.typeIs PySem.F.entry_dict_get (PySem.F.args_dict_get_3 _ _ _) (meetsH_dict_get_default (tupleKind (bn X.prog X.w)) a b hd r) ⟨tupleKind_room_in1 hu,k,xs,jc I.hok eb,dd,h _ _ (I.tok _) ?_⟩
   rw [l]
   exact (rel.val k).getD rd
end
noncomputable def a08 (td ty tx:TE):TE:=fun σ H Q=>td σ H fun x H1 => ∃ a,x = .ref a /\ IsD H1 a /\ ty σ H1 fun y H2=>tx σ H2 fun z H3 => ∃ o,DGet H3 a y o /\ Q (o.getD z) H3
noncomputable def a1n (td ty:TE):TE:=fun σ H Q=>td σ H fun x H1 => ∃ a,x = .ref a /\ IsD H1 a /\ ty σ H1 fun y H2 => ∃ kvs k v,H2 a = some (.dK kvs) /\ y = kV k /\ valV kvs k = some v /\ Q v (upd H2 a (.dK (dj kvs k)))
section
variable {X:Cx} {o e f:Expr} {apos cpos:Pos} {td ty tx:TE}
theorem a43 (hu:X.A.units + 1 < cLine) (ho:PE X o td) (he:PE X e ty) (hf:PE X f tx) (m:M2 X o "get" apos e f cpos):PE X (.Call (.Attribute o "get" apos) [e,f] [] cpos) (a08 td ty tx):=by
 intro pins s σ H Q I h
 refine wpAny_Call_method m.base m.few m.line PySem.F.plainAttrs_dict PySem.F.slot_dict_get PySem.F.type_dict_get (thn (ho pins s σ H _ I h) fun u s1 zq=>?_)
 obtain ⟨x,H1,I1,rx,a,ex,d,q1⟩:=zq
 subst ex
 obtain rfl:u = Value.ref a:=rx
 obtain ⟨t1,t2,_⟩:=nw I1 d
 refine ⟨t1,t2,?_⟩
 rw [m.trees]
 refine Calls.callWith_builtin rfl (Calls.evalArgs_plain (Calls.spliced_cons (thn (he pins s1 σ H1 _ I1 q1) fun iv s2 ⟨y,H2,I2,ry,q2⟩ =>
   Calls.spliced_cons (thn (hf pins s2 σ H2 _ I2 q2) fun fv s3 ⟨z,H3,I3,rz,ov,g,q3⟩=>Calls.spliced_nil ?_))))
 exact a7l hu I3 g ry rz fun w' s4 I4 rw'=>⟨_,H3,I4,rw',q3⟩
theorem a2u (ho:PE X o td) (he:PE X e ty) (m:M1 X o "pop" apos e cpos):PE X (.Call (.Attribute o "pop" apos) [e] [] cpos) (a1n td ty):=by
 intro pins s σ H Q I h
 refine wpAny_Call_method m.base m.few m.line PySem.F.plainAttrs_dict PySem.F.slot_dict_pop PySem.F.type_dict_pop (thn (ho pins s σ H _ I h) fun u s1 zq=>?_)
 obtain ⟨x,H1,I1,rx,a,ex,d,q1⟩:=zq
 subst ex
 obtain rfl:u = Value.ref a:=rx
 obtain ⟨t1,t2,_⟩:=nw I1 d
 refine ⟨t1,t2,?_⟩
 rw [m.trees]
 refine Calls.callWith_builtin rfl (Calls.evalArgs_plain (Calls.spliced_cons (thn (he pins s1 σ H1 _ I1 q1) fun iv s2 ⟨y,H2,I2,ry,kvs,k,v,ea,ey,l,q2⟩=>Calls.spliced_nil ?_)))
 subst ey
 exact a8e I2 ea ry l (.inl rfl) fun w' s3 I3 rw'=>⟨v,_,I3,rw',q2⟩
end
section
variable {X:Cx} {pins:List (Addr × Obj)} {σ:St} {H:Hp} {s:Shared} {a:Addr} {kvs:List (Key × V)} {A:Around} {E:Value -> Shared -> Prop}
theorem a3z {Q:Value -> Shared -> Prop} (I:Inv X pins σ H s) (e:Rd H a (.dK kvs)) (h:∀ p s',H p = none -> Inv X pins σ (upd H p (.dK kvs)) s' -> Q (.ref p) s'):wpAny (model X.prog X.w) A (call (.type "dict") [.ref a]) Q E s:=by
 obtain ⟨z,hd,vs,rel,dd⟩:=gu I.hok e
 refine kt_call_dict hd dd (by rw [<- rel.length]; exact z) fun h' dd' hs=>?_
 refine h _ _ (I.hok.fresh (Nat.le_refl _)) (I.laid (a:=s.heap.objs.size) (o := .dK kvs) (t':=s.toks) (fun b q hq=>?_) (Nat.le_refl _) (im z (beq_eq_false_iff_ne.mpr (Ne.symm (Nat.ne_of_lt I.big))) rel dd'))
 exact (hs.2 b (Nat.ne_of_lt (Heap.lt_size hq))).trans (Heap.get?_push_of_some _ hq)
end
section
variable {X:Cx} {pins:List (Addr × Obj)} {σ:St} {H:Hp} {s:Shared} {a:Addr} {y:V} {u:Value} {A:Around} {E:Value -> Shared -> Prop}
end
section
variable {X:Cx}
theorem a1i:bx X (.builtin "len") (fun xs H Q => ∃ a kvs,xs = [V.ref a] /\ H a = some (.dK kvs) /\ Q (.int kvs.length) H):=by
 intro pins s σ H xs us Q I r h
 obtain ⟨a,kvs,rfl,ha,q⟩:=h
 obtain ⟨u,rfl,ru⟩:=jf r
 cases ru
 exact a8i I (.inl ha) fun t s' I'=>⟨.int kvs.length,H,I',⟨t,rfl⟩,q⟩
end
section
variable {κ:Type} [DecidableEq κ]
theorem uj {kvs:List (κ × V)} {k:κ} (h:valV kvs k = none):¬ k ∈ kvs.map (·.1):=by
 intro m
 obtain ⟨p,hp,e⟩:=List.mem_map.mp m
 have q:(kvs.any fun kv=>decide (kv.1 = k)) = true:=List.any_eq_true.mpr ⟨p,hp,decide_eq_true e⟩
 rw [ef,h] at q
 exact absurd q (by simp)
theorem p4 {kvs:List (κ × V)} {k:κ} {v:V} (h:valV kvs k = some v):k ∈ kvs.map (·.1):=by
 have q:(kvs.any fun kv=>decide (kv.1 = k)) = true:=by
   rw [ef,h]
   all_goals rfl
 obtain ⟨p,hp,e⟩:=List.any_eq_true.mp q
 exact List.mem_map.mpr ⟨p,hp,of_decide_eq_true e⟩
end
section
variable {X:Cx}
theorem j6 {pos:Pos}:QE X (.Dict [] [] pos) a1c:=⟨a3p⟩
theorem ls {pos:Pos} {k v:Expr} {tk tv:TE} (hk:QE X k tk) (hv:QE X v tv):QE X (.Dict [some k] [v] pos) (qy [(tk,tv)]):=⟨pb (gs hk.run hv.run oa) rfl rfl (by simp) (by simp)⟩
theorem a2p {pos:Pos} {k v k' v':Expr} {tk tv tk' tv':TE} (hk:QE X k tk) (hv:QE X v tv) (hk':QE X k' tk') (hv':QE X v' tv'):QE X (.Dict [some k,some k'] [v,v'] pos) (qy [(tk,tv),(tk',tv')]):=⟨pb (gs hk.run hv.run (gs hk'.run hv'.run oa)) rfl rfl (by simp) (by simp)⟩
theorem cg {o i:Expr} {pos:Pos} {td ty:TE} (hu:X.A.units + 1 < cLine) (ho:QE X o td) (hi:QE X i ty) (hs:NoSl i):QE X (.Subscript o i pos) (a4r td ty):=⟨a6b hu ho.run hi.run hs⟩
theorem io {o i:Expr} {pos:Pos} {td ty:TE} (hu:X.A.units + 1 < cLine) (hi:QE X i ty) (ho:QE X o td) (hm:autoParam (behindInMarks .In o = false) L2.a6_):QT X (.Compare i [.In] [o] pos) (tB (tDIn ty td)):=⟨a0s (a04 hu hi.run ho.run) hm⟩
theorem i4 {o i:Expr} {pos:Pos} {td ty:TE} (hu:X.A.units + 1 < cLine) (hi:QE X i ty) (ho:QE X o td) (hm:autoParam (behindInMarks .NotIn o = false) L2.a6_):QT X (.Compare i [.NotIn] [o] pos) (tB (vz ty td)):=⟨a0s (zm hu hi.run ho.run) hm⟩
theorem u4 {o i:Expr} {pos:Pos} {td ty:TE} (hu:X.A.units + 1 < cLine) (hi:QE X i ty) (ho:QE X o td) (hm:autoParam (behindInMarks .In o = false) L2.a6_):QE X (.Compare i [.In] [o] pos) (tDIn ty td):=⟨a81 (a04 hu hi.run ho.run) hm⟩
theorem fc {o i value:Expr} {pos pos':Pos} {td ty tv:TE} (hu:X.A.units + 1 < cLine) (ho:QE X o td) (hi:QE X i ty) (hv:QE X value tv) (hs:autoParam (swapsWith value (some (.Subscript o i pos')) pos.line X.env = pure false) L2.a2_) :
   QS X (.Assign [.Subscript o i pos'] value pos) (a4g td ty tv):=⟨a58 hu ho.run hi.run hv.run hs⟩
theorem lu {o e f:Expr} {apos cpos:Pos} {td ty tx:TE} (hu:X.A.units + 1 < cLine) (ho:QE X o td) (he:QE X e ty) (hf:QE X f tx) (m:autoParam (M2 X o "get" apos e f cpos) L2.a7_) :
   QE X (.Call (.Attribute o "get" apos) [e,f] [] cpos) (a08 td ty tx):=⟨a43 hu ho.run he.run hf.run m⟩
theorem a0n:bx X (.type "dict") (fun xs H Q => ∃ a kvs,xs = [V.ref a] /\ H a = some (.dK kvs) /\ ∀ p,H p = none -> Q (.ref p) (upd H p (.dK kvs))):=by
 intro pins s σ H xs us Q I r h
 obtain ⟨a,kvs,rfl,ha,q⟩:=h
 obtain ⟨u,rfl,ru⟩:=jf r
 cases ru
 exact a3z I (.inl ha) fun p s' hp I'=>⟨.ref p,_,I',rfl,q p hp⟩
theorem xn {P:Program} {w:World} {k:Key} {v:Value} (h:(bn P w).is k v = true):RelV (kV k) v:=by
 rcases cj h with ⟨i,t,rfl,rfl⟩ | ⟨x,t,rfl,rfl⟩
 . exact ⟨t,rfl⟩
 . exact ⟨t,rfl⟩
theorem m6:∀ {ks:List V} {vs:List Value},vs.length = ks.length -> (∀ (j:Nat) (v:Value),vs[j]? = some v -> ∃ y,ks[j]? = some y /\ RelV y v) -> Vals ks vs
 | [],[],_,_ => .nil
 | k :: ks,v :: vs,hl,h=>by
   obtain ⟨y,e,r⟩:=h 0 v rfl
   cases e
   exact .cons r (m6 (by simpa using hl) fun j u hu=>h (j + 1) u (by simpa using hu))
theorem om (hc:X.calm = true):bx X (.type "list") (fun xs H Q => ∃ a kvs,xs = [V.ref a] /\ H a = some (.dK kvs) /\ ∀ p,H p = none -> Q (.ref p) (upd H p (.lst (kvs.map fun kv=>kV kv.1)))):=by
 intro pins s σ H xs us Q I r h
 obtain ⟨a,kvs,rfl,ha,q⟩:=h
 obtain ⟨u,rfl,ru⟩:=jf r
 cases ru
 obtain ⟨z,hd,vs,rel,dd⟩:=gu I.hok (.inl ha)
 have hl:=rel.length
 obtain ⟨ep,da⟩:=dd.dictAt
 refine PySem.W.kdl_call (PySem.W.kdl_dict hd) (I.ok.hd hc) da (by rw [<- hl]; exact z) fun h' tk acc c hk hD hacc=>?_
 refine ⟨.ref s.heap.objs.size,_,I.laid (t':=tk) hk (Nat.le_refl _) (show ObjOk X.prog X.w _ h' _ (.lst (kvs.map fun kv=>kV kv.1)) from ⟨by rw [List.length_map]; exact z,acc.toList,c,?_,by simpa using hD⟩),rfl,q _ (I.hok.fresh (Nat.le_refl _))⟩
 refine m6 (by rw [Array.length_toList,List.length_map,hl]; exact hacc.1) fun j v hv=>?_
 obtain ⟨k,x,e,ke⟩:=hacc.2 j v (by rw [<- Array.getElem?_toList]; exact hv)
 have ek:=rel.keys
 have e2:(vs.map (·.1))[j]? = some k:=by rw [List.getElem?_map,e]; rfl
 rw [<- ek,List.getElem?_map] at e2
 refine ⟨kV k,?_,xn ke⟩
 rw [List.getElem?_map]
 cases hj:kvs[j]? with
 | none=>rw [hj] at e2; cases e2
 | some p=>rw [hj] at e2; rw [<- Option.some.inj e2]; rfl
end
section
variable {X:Cx}
end
theorem a0d {L:List (Str × NameKind)} {cl:List (Str × Addr)} {ks:List Str} (hkm:cl.map (·.1) = ks) (hkB:(L.all fun y=>(match y.2 with | .cell=>false | .free=>false | _=>true) || decide (y.1 ∈ ks)) = true) (z:Str) (h:L.lookup z = some .cell \/ L.lookup z = some .free):∃ c,cl.lookup z = some c:=by
 have hm:z ∈ cl.map (·.1):=by
   rw [hkm]
   rcases h with h | h
   . have:=List.all_eq_true.mp hkB _ (PySem.mem_of_lookup h)
     simpa using this
   . have:=List.all_eq_true.mp hkB _ (PySem.mem_of_lookup h)
     simpa using this
 clear hkm hkB
 induction cl with
 | nil=>simp at hm
 | cons p r ih =>
   rw [List.lookup_cons]
   cases hb:z == p.1 with
   | true=>exact ⟨_,rfl⟩
   | false =>
     rw [List.map_cons,List.mem_cons] at hm
     rcases hm with h1 | h1
     . rw [h1] at hb; simp at hb
     . exact ih h1
section
variable {X:Cx}
theorem qu (hc:X.calm = true):bx X (.builtin "sum") (fun vs H Q => ∃ (a:Addr) (ns:List Int),vs = [.ref a] /\ SqL X.K H a (ns.map V.int) /\ (∀ n ∈ ns,0 <= n /\ n <= 10000) /\ ns.length <= 1000 /\ Q (.int ns.sum) H):=by
 intro pins s σ H vs us Q I r h
 obtain ⟨a,ns,rfl,hq,hb,hn,q⟩:=h
 obtain ⟨u,rfl,ru⟩:=r.one
 cases ru
 obtain ⟨its,rv,p,_⟩:=I.list hq
 have hs:=yr rv
 have hall:=hs.allInts
 have hnum:=hs.numsOf
 obtain ⟨xs,hxs⟩:=hall.items
 have hpl:s.heap.IsList a (intItems xs):=by rw [<- hxs]; exact p.isList
 have hnn:numsOf (intItems xs).toList = ns:=by rw [<- hxs]; simpa using hnum
 have hlen:xs.size = ns.length:=by
   have:=congrArg Array.size hxs
   have h1:its.length = ns.length:=hs.length
   simp [intItems] at this
   lia
 rw [nums_intItems] at hnn
 have bnd:∀ (l:List Int),(∀ n ∈ l,0 <= n /\ n <= 10000) -> 0 <= l.sum /\ l.sum <= 10000 * (l.length:Int):=by
   intro l
   induction l with
   | nil=>intro _; simp
   | cons x l ih =>
     intro h
     have h1:=ih fun n hn=>h n (List.mem_cons_of_mem _ hn)
     have h2:=h x (List.mem_cons_self ..)
     rw [List.sum_cons,List.length_cons]
     constructor
     . lia
     . have:((l.length + 1:Nat):Int) = (l.length:Int) + 1:=by lia
       rw [this]; lia
 have hfit:PySem.SumFits ns:=fun j hj=>by
   have hm:ns[j] ∈ ns:=List.getElem_mem hj
   have h1:=hb _ hm
   have h2:=bnd (ns.take (j + 1)) fun n hn=>hb n (List.mem_of_mem_take hn)
   have h3:((ns.take (j + 1)).length:Int) <= 1000:=by rw [List.length_take]; lia
   have e1:ns.getD j 0 = ns[j]:=by rw [List.getD_eq_getElem?_getD,List.getElem?_eq_getElem hj]; rfl
   unfold InLong
   constructor
   . rw [e1]; lia
   . lia
 refine sum_intList (I.ok.hd hc) hpl (fun j hj=>?_) fun h' tk t' hk=>?_
 . rw [numAt_eq,preSum_eq,hnn]; exact hfit j (by lia)
 . refine ⟨.int ns.sum,H,I.kept (t':=tk) hk,⟨t',?_⟩,q⟩
   rw [preSum_eq,hnn,List.take_of_length_le (by lia)]
theorem ux:bx X (.builtin "isinstance") (fun xs H Q => ∃ i,xs = [.int i,.ty "int"] /\ Q (.bl true) H):=by
 intro pins s σ H xs us Q I r h
 obtain ⟨z,rfl,q⟩:=h
 cases r with
 | cons r1 r =>
   cases r with
   | cons r2 r =>
     cases r
     obtain ⟨t,rfl⟩:=r1
     cases r2
     exact IsiPair.int_int ⟨.bl true,H,I,rfl,q⟩
theorem vc:bx X (.builtin "isinstance") (fun xs H Q => ∃ i,xs = [.int i,.ty "bool"] /\ Q (.bl false) H):=by
 intro pins s σ H xs us Q I r h
 obtain ⟨z,rfl,q⟩:=h
 cases r with
 | cons r1 r =>
   cases r with
   | cons r2 r =>
     cases r
     obtain ⟨t,rfl⟩:=r1
     cases r2
     exact IsiPair.int_bool ⟨.bl false,H,I.tok _,rfl,q⟩
end
theorem a0b {cl cells:List (Str × Addr)} (h:∀ p ∈ cl,cells.lookup p.1 = some p.2) (y:Str) (c:Addr) (e:cl.lookup y = some c):cells.lookup y = some c:=h (y,c) (PySem.mem_of_lookup e)
inductive ClIn (cells:List (Str × Addr)):List (Str × Addr) -> Prop
 | nil:ClIn cells []
 | cons {x:Str} {a:Addr} {r:List (Str × Addr)}:cells.lookup x = some a -> ClIn cells r -> ClIn cells ((x,a) :: r)
theorem ClIn.all {cells cl:List (Str × Addr)} (h:ClIn cells cl):∀ p ∈ cl,cells.lookup p.1 = some p.2:=by
 induction h with
 | nil=>intro p hp; cases hp
 | cons h _ ih =>
   intro p hp
   rcases List.mem_cons.mp hp with rfl | z
   . exact h
   . exact ih p z
inductive IxIn (X:Cx) (sc:Scope):List Nat -> Prop
 | nil:IxIn X sc []
 | cons {j:Nat} {y:Str} {r:List Nat}:X.N[j]? = some y -> X.env.kindOf y = some .cell -> (relabel sc X.env).names.lookup y = some .cell -> IxIn X sc r -> IxIn X sc (j :: r)
theorem IxIn.all {X:Cx} {sc:Scope} {ix:List Nat} (h:IxIn X sc ix):∀ j ∈ ix,∃ y,X.N[j]? = some y /\ X.env.kindOf y = some .cell /\ (relabel sc X.env).names.lookup y = some .cell:=by
 induction h with
 | nil=>intro p hp; cases hp
 | cons h1 h2 h3 _ ih =>
   intro p hp
   rcases List.mem_cons.mp hp with rfl | z
   . exact ⟨_,h1,h2,h3⟩
   . exact ih p z
theorem iq {X:Cx} {elt iter:Expr} {x:Str} {px pos:Pos} {ifs:List Expr} {sc:Scope} {cl:List (Str × Addr)} {wi:TI} {tc:TT} {te:TE} (N:List Str) (ix:List Nat) (hi:QI X (.Name x px) iter wi)
   (hif:∀ s H C ex,QTs (blk X N s H sc cl C ex) ifs tc) (he:∀ s H C ex,QE (blk X N s H sc cl C ex) elt te)
   (hcl:autoParam (closureFor sc X.env = pure cl) L2.a2_) (hcs:autoParam (ClIn X.env.cells cl) L2.a8_) (hN:autoParam (N = x :: ix.map (fun j=>(X.N[j]?).getD "")) L2.a2_) (hnd:autoParam (N.Nodup) L2.a5_)
   (hkm:autoParam (cl.map (·.1) = N.tail) L2.a2_) (hkB:autoParam (((relabel sc X.env).names.all fun y=>(match y.2 with | .cell=>false | .free=>false | _=>true) || decide (y.1 ∈ N.tail)) = true) L2.a6_)
   (hix:autoParam (IxIn X sc ix) L2.a8_)
   (hx:autoParam (sc.names.lookup x = some .local) L2.a5_) (hcell:autoParam (∀ z ∈ sc.names,z.2 ≠ .cell) L2.a5_)
   (hnames:autoParam (∀ z ∈ sc.names,z.2 = .local -> sc.names.lookup z.1 = some .local) L2.a5_)
   (hc:autoParam (X.calm = true) L2.a2_) (hkind:autoParam (sc.kind = .function) L2.a2_) (hs:autoParam (∀ x,foldedSetIterable iter X.env x = pure x) L2.a3_) :
   QE X (.ListComp elt [⟨.Name x px,iter,ifs,0⟩] sc pos) (jn ix wi tc te) :=
 ⟨we N hc hi.run (fun s H C ex=>(hif s H C ex).run) (fun s H C ex=>(he s H C ex).run) hkind hN hnd hx hcl hcell hnames (a0b hcs.all) (a0d hkm hkB) hix.all hs⟩
theorem jg {X:Cx} {elt iter:Expr} {x yv:Str} {px pos py pos2:Pos} {i:Nat} {ifs:List Expr} {sc:Scope} {cl:List (Str × Addr)} {wi:TI} {tc:TT} {te:TE} (N:List Str) (ix:List Nat) (hNd:X.N.Nodup) (hiy:X.N[i]? = some yv) (hyv:Loc X.env.scope yv) (hi:QI X (.Name x px) iter wi)
   (hif:∀ s H C ex,QTs (blk X N s H sc cl C ex) ifs tc) (he:∀ s H C ex,QE (blk X N s H sc cl C ex) elt te)
   (hsw:autoParam (swapsWith (.ListComp elt [⟨.Name x px,iter,ifs,0⟩] sc pos) (some (.Name yv py)) pos2.line X.env = pure true) L2.a2_) (hfy:autoParam (X.fn yv = true \/ X.env.scope.names.lookup yv = some .local) L2.a0_)
   (hcl:autoParam (closureFor sc X.env = pure cl) L2.a2_) (hcs:autoParam (ClIn X.env.cells cl) L2.a8_) (hN:autoParam (N = x :: ix.map (fun j=>(X.N[j]?).getD "")) L2.a2_) (hnd:autoParam (N.Nodup) L2.a5_)
   (hkm:autoParam (cl.map (·.1) = N.tail) L2.a2_) (hkB:autoParam (((relabel sc X.env).names.all fun y=>(match y.2 with | .cell=>false | .free=>false | _=>true) || decide (y.1 ∈ N.tail)) = true) L2.a6_)
   (hix:autoParam (IxIn X sc ix) L2.a8_)
   (hx:autoParam (sc.names.lookup x = some .local) L2.a5_) (hcell:autoParam (∀ z ∈ sc.names,z.2 ≠ .cell) L2.a5_)
   (hnames:autoParam (∀ z ∈ sc.names,z.2 = .local -> sc.names.lookup z.1 = some .local) L2.a5_)
   (hc:autoParam (X.calm = true) L2.a2_) (hkind:autoParam (sc.kind = .function) L2.a2_) (hs:autoParam (∀ x,foldedSetIterable iter X.env x = pure x) L2.a3_) :
   QS X (.Assign [.Name yv py] (.ListComp elt [⟨.Name x px,iter,ifs,0⟩] sc pos) pos2) (tAsg (jn ix wi tc te) (bh i)) :=
 ⟨zb N hNd hiy hyv hsw hfy hc hi.run (fun s H C ex=>(hif s H C ex).run) (fun s H C ex=>(he s H C ex).run) hkind hN hnd hx hcl hcell hnames (a0b hcs.all) (a0d hkm hkB) hix.all hs⟩
section
variable {X:Cx} {K:PySem.W.Frag} {tg l:Expr} {tl:TE}
theorem ixKk (h:X.K = K):IxR X (rIxL K):=by subst h; exact vx
theorem ixTk (h:X.K = K):IxR X (rIxT K):=by subst h; exact ng
inductive rLenS (K:PySem.W.Frag) (xs:List V) (H:Hp) (Q:VK):Prop
 | mk (p:Addr) (ys:List V) (h0:xs = [.ref p]) (h1:SqL K H p ys \/ SqT K H p ys) (h2:Q (.int ys.length) H):rLenS K xs H Q
theorem ej (h:X.K = K):bx X (.builtin "len") (rLenS K):=by
 subst h
 intro pins s σ H xs us Q I r hh
 obtain ⟨p,ys,e,q1,q2⟩:=hh
 exact kg pins s σ H xs us Q I r ⟨p,ys,e,q1,q2⟩
inductive rLstS (K:PySem.W.Frag) (xs:List V) (H:Hp) (Q:VK):Prop
 | mk (p:Addr) (ys:List V) (h0:xs = [.ref p]) (h1:SqL K H p ys \/ SqT K H p ys) (h2:∀ l,H l = none -> Q (.ref l) (upd H l (.lst ys))):rLstS K xs H Q
theorem lb (h:X.K = K):bx X (.type "list") (rLstS K):=by
 subst h
 intro pins s σ H xs us Q I r hh
 obtain ⟨p,ys,e,q1,q2⟩:=hh
 exact sr pins s σ H xs us Q I r ⟨p,ys,e,q1,q2⟩
inductive rIsTS (K:PySem.W.Frag) (xs:List V) (H:Hp) (Q:VK):Prop
 | mk (a:Addr) (ys:List V) (h0:xs = [.ref a,.ty "tuple"]) (h1:SqT K H a ys) (h2:Q (.bl true) H):rIsTS K xs H Q
theorem isTk (h:X.K = K):bx X (.builtin "isinstance") (rIsTS K):=by
 subst h
 intro pins s σ H xs us Q I r hh
 obtain ⟨p,ys,e,q1,q2⟩:=hh
 exact oq pins s σ H xs us Q I r ⟨p,ys,e,q1,q2⟩
inductive rDicS (xs:List V) (H:Hp) (Q:VK):Prop
 | mk (a:Addr) (kvs:List (Key × V)) (h0:xs = [.ref a]) (h1:H a = some (.dK kvs)) (h2:∀ p,H p = none -> Q (.ref p) (upd H p (.dK kvs))):rDicS xs H Q
theorem a8j:bx X (.type "dict") rDicS:=by
 intro pins s σ H xs us Q I r hh
 obtain ⟨p,ys,e,q1,q2⟩:=hh
 exact a0n pins s σ H xs us Q I r ⟨p,ys,e,q1,q2⟩
inductive rLdS (xs:List V) (H:Hp) (Q:VK):Prop
 | mk (a:Addr) (kvs:List (Key × V)) (h0:xs = [.ref a]) (h1:H a = some (.dK kvs)) (h2:∀ p,H p = none -> Q (.ref p) (upd H p (.lst (kvs.map fun kv=>kV kv.1)))):rLdS xs H Q
theorem ldSk (hc:X.calm = true):bx X (.type "list") rLdS:=by
 intro pins s σ H xs us Q I r hh
 obtain ⟨p,ys,e,q1,q2⟩:=hh
 exact om hc pins s σ H xs us Q I r ⟨p,ys,e,q1,q2⟩
inductive rLnD (xs:List V) (H:Hp) (Q:VK):Prop
 | mk (a:Addr) (kvs:List (Key × V)) (h0:xs = [.ref a]) (h1:H a = some (.dK kvs)) (h2:Q (.int kvs.length) H):rLnD xs H Q
theorem lnDk:bx X (.builtin "len") rLnD:=by
 intro pins s σ H xs us Q I r hh
 obtain ⟨p,ys,e,q1,q2⟩:=hh
 exact a1i pins s σ H xs us Q I r ⟨p,ys,e,q1,q2⟩
theorem vh {o:Expr} {to:TE} {name:Str} {apos cpos:Pos} {T id:String} {r:V -> List V -> Hp -> VK -> Prop} (h:X.K = K) (pa:PlainAttrs T) (slot:Slot T name id) (hty:typeOf (.builtin id) = pure (.type "method_descriptor")) (hm:MtR X id r) (ho:QE X o to) (hbase:autoParam (attributeBase o name X.env (eval o X.env) = eval o X.env) L2.a2_) (hline:autoParam ((apos.endLine == cpos.line) = true) L2.a2_):QE X (.Call (.Attribute o name apos) [] [] cpos) (tBM0 K T r to):=by subst h; exact a72 pa slot hty hm ho hbase hline
theorem a6c (h:X.K = K) (hl:QE X l tl):QI X tg l (iTup K tl):=by subst h; exact a74 hl
theorem slLk (h:X.K = K):SlR X (rSlL K):=by subst h; exact a6f
theorem slTk (h:X.K = K):SlR X (rSlT K):=by subst h; exact a1j
theorem neDk (h:X.K = K) (hu:X.A.units + 32 < cLine):OpR X (compareOp .NotEq) (rNeD K):=by subst h; exact a89 hu
theorem inSk (h:X.K = K):OpR X (compareOp .In) (rIn K false):=by subst h; exact zw
theorem b8 (h:X.K = K) (hl:QE X l tl):QI X tg l (yk K tl):=by subst h; exact a67 hl
theorem a35 {a b:Expr} {ta:TA} {p pos tpos:Pos} {elts:List Expr} {x1} (h:X.K = K) (hg:Gl X "zip") (hm:X.mg "zip" = none) (ha:QA X [a,b] ta) (hs:autoParam (starEach [a,b] X.env = [(false,eval a X.env),(false,eval b X.env)]) L2.a2_) (hs2:autoParam (starEach [b] X.env = [(false,eval b X.env)]) L2.a2_) :
   QI X (.Tuple elts x1 tpos) (.Call (.Name "zip" p) [a,b] [] pos) (zj K ta):=by subst h; exact a6p hg hm ha hs hs2
end
section
variable {X:Cx} {CX:CXT} {k:Nat} {f C:Addr} {fd:FuncData} {ps:List Str} {ds:List Value} {dvs:List V} {sp:Sp} {E:XK} {x m fl:Str} {p pos pos' apos:Pos} {e o value:Expr} {es:List Expr} {ta tv:TE} {t:TA}
theorem a75 (he:QE X e ta) (hb:autoParam (attributeBase e fl X.env (eval e X.env) = eval e X.env) L2.a2_):QE X (.Attribute e fl pos) (tFld X.K ta fl):=⟨a7q he.run hb⟩
theorem a7w (ha:QE X o ta) (hv:QE X value tv) (hs:autoParam (swapsWith value (some (.Attribute o fl pos')) pos.line X.env = pure false) L2.a2_):QS X (.Assign [.Attribute o fl pos'] value pos) (sFld X.K ta tv fl):=⟨a7b ha.run hv.run hs⟩
theorem c7 {pl:Sem Bool} (he:QE X o ta) (c:Cls X.K C) (hm:Meth X.K C m f) (F:FnOk X.prog X.w X.K X.mg X.base CX k f fd ps sp) (hr:Room k X.A) (hb:Binds X.K fd ps ds) (hd:Vals dvs ds) (hx:fh CX X E) (ha:QA X (e :: es) t)
   (hst:autoParam (starEach (e :: es) X.env = (false,eval e X.env) :: starEach es X.env) L2.a2_) (hpl:autoParam ((backTo pos (starEach es X.env)).any (·.1) = false) L2.a2_)
   (ht:autoParam (eval (.Call (.Attribute o m apos) (e :: es) [] pos) X.env = (do
     let ov <- eval o X.env
     standAt apos.atName
     let (f,first) <- holding [ov] (getMethod ov m pl)
     callWith pos f first (backTo pos (starEach (e :: es) X.env)) (backToKw pos (keywordEach [] X.env)))) L2.a2_) :
   QE X (.Call (.Attribute o m apos) (e :: es) [] pos) (r4 C m sp dvs E ta t):=⟨a55 he.run c hm F hr hb hd hx ha.run hst hpl ht⟩
theorem a2c {pl:Sem Bool} (he:QE X o ta) (c:Cls X.K C) (hm:Meth X.K C m f) (F:FnOk X.prog X.w X.K X.mg X.base CX k f fd ps sp) (hr:Room k X.A) (hb:Binds X.K fd ps ds) (hd:Vals dvs ds) (hx:fh CX X E)
   (ht:autoParam (eval (.Call (.Attribute o m apos) [] [] pos) X.env = (do
     let ov <- eval o X.env
     standAt apos.atName
     let (f,first) <- holding [ov] (getMethod ov m pl)
     callWith pos f first (backTo pos (starEach [] X.env)) (backToKw pos (keywordEach [] X.env)))) L2.a2_) :
   QE X (.Call (.Attribute o m apos) [] [] pos) (r4 C m sp dvs E ta tNil):=⟨a48 he.run c hm F hr hb hd hx ht⟩
theorem a63 (M:Mk X.K C f) (F:FnOk X.prog X.w X.K X.mg X.base CX k f fd ps sp) (hr:Room (k + 1) X.A) (hg:Gl X x) (hm:X.mg x = some (.ref C)) (hb:Binds X.K fd ps ds) (hd:Vals dvs ds) (hx:fh CX X E)
   (ha:QA X (e :: es) t) (hdb:autoParam ((x == ("__debug__" : Str)) = false) L2.a1_) (he:autoParam (starEach (e :: es) X.env = (false,eval e X.env) :: starEach es X.env) L2.a2_) (hpl:autoParam ((backTo pos (starEach es X.env)).any (·.1) = false) L2.a2_) :
   QE X (.Call (.Name x p) (e :: es) [] pos) (a53 C sp dvs E t):=⟨a5a M F hr hg hm hb hd hx ha.run hdb he hpl⟩
theorem mn:QE X (.Dict [] [] pos) a1d:=⟨a3e⟩
end
section
variable {X:Cx} {pins:List (Addr × Obj)} {σ:St} {H:Hp} {s:Shared} {a:Addr} {y d:V} {u r:Value} {A:Around} {E:Value -> Shared -> Prop}
theorem a3w {kvs:List (Key × V)} {k:Key} {v:V} {Q:Value -> Shared -> Prop} (I:Inv X pins σ H s) (e:H a = some (.dK kvs)) (ry:RelV (kV k) u) (rv:RelV v r) (hl:kvs.length < sizeLine)
   (h1:∀ z w' s',valV kvs k = some z -> Inv X pins σ H s' -> RelV z w' -> Q w' s') (h2:valV kvs k = none -> ∀ s',Inv X pins σ (upd H a (.dK (putK kvs k v))) s' -> Q r s') :
   wpAny (model X.prog X.w) A (call (.builtin "dict.setdefault") [.ref a,u,r]) Q E s:=by
 obtain ⟨z,hd,vs,rel,dd⟩:=j4 I.hok e
 refine call_meetsIn PySem.F.slot_dict_setdefault dd.typeIs PySem.F.entry_dict_setdefault (PySem.F.args_dict_setdefault_3 _ _ _) (kt_meets_setdefault (bn X.prog X.w) a (i6 ry) hd r) ⟨vs,dd,by rw [<- rel.length]; exact z,fun w' hw=>?_,fun hn h' dd' hs=>?_⟩
 . have rr:=rel.val k
   rw [hw] at rr
   cases hz:valV kvs k with
   | none=>rw [hz] at rr; exact rr.elim
   | some zz=>rw [hz] at rr; exact h1 zz w' _ hz (I.tok _) rr
 . have hnv:valV kvs k = none:=by
     have rr:=rel.val k
     rw [hn] at rr
     cases hz:valV kvs k with
     | none=>rfl
     | some zz=>rw [hz] at rr; exact rr.elim
   refine h2 hnv _ ?_
   have he:∃ q,h'.get? a = some q:=let ⟨q,_,_,hq,_⟩:=dd'; ⟨q,hq⟩
   have hl2:(putK kvs k v).length <= sizeLine:=by have:=ck kvs k v; lia
   exact gp I (by rw [e]; exact True.intro) hs he (im hl2 hd (rel.put k rv) dd')
end
noncomputable def xp (td ty tx:TE):TE:=fun σ H Q=>td σ H fun x H1 => ∃ a,x = .ref a /\ IsD H1 a /\ ty σ H1 fun y H2=>tx σ H2 fun z H3 => ∃ kvs k,H3 a = some (.dK kvs) /\ y = kV k /\ kvs.length < sizeLine /\
 (∀ v,valV kvs k = some v -> Q v H3) /\ (valV kvs k = none -> Q z (upd H3 a (.dK (putK kvs k z))))
section
variable {X:Cx} {o e f:Expr} {apos cpos:Pos} {td ty tx:TE}
theorem a6i (ho:PE X o td) (he:PE X e ty) (hf:PE X f tx) (m:M2 X o "setdefault" apos e f cpos):PE X (.Call (.Attribute o "setdefault" apos) [e,f] [] cpos) (xp td ty tx):=by
 intro pins s σ H Q I h
 refine wpAny_Call_method m.base m.few m.line PySem.F.plainAttrs_dict PySem.F.slot_dict_setdefault PySem.F.type_dict_setdefault (thn (ho pins s σ H _ I h) fun u s1 zq=>?_)
 obtain ⟨x,H1,I1,rx,a,ex,d,q1⟩:=zq
 subst ex
 obtain rfl:u = Value.ref a:=rx
 obtain ⟨t1,t2,_⟩:=nw I1 d
 refine ⟨t1,t2,?_⟩
 rw [m.trees]
 refine Calls.callWith_builtin rfl (Calls.evalArgs_plain (Calls.spliced_cons (thn (he pins s1 σ H1 _ I1 q1) fun iv s2 ⟨y,H2,I2,ry,q2⟩ =>
   Calls.spliced_cons (thn (hf pins s2 σ H2 _ I2 q2) fun fv s3 ⟨z,H3,I3,rz,kvs,k,ea,ey,hl,q3,q4⟩=>Calls.spliced_nil ?_))))
 subst ey
 exact a3w I3 ea ry rz hl (fun v w' s4 l I4 rw'=>⟨v,H3,I4,rw',q3 v l⟩) fun l s4 I4=>⟨z,_,I4,rz,q4 l⟩
theorem o9 (ho:QE X o td) (he:QE X e ty) (hf:QE X f tx) (m:autoParam (M2 X o "setdefault" apos e f cpos) L2.a7_):QE X (.Call (.Attribute o "setdefault" apos) [e,f] [] cpos) (xp td ty tx):=⟨a6i ho.run he.run hf.run m⟩
end
section
variable {prog:Program} {w:World} {A:Around} {E:Value -> Shared -> Prop} {s:Shared} {J d:Addr} {n ep:Nat} {es:Array DictEntry} {od:Obj}
theorem jh {Q:Option Value -> Shared -> Prop} (hj:s.heap.IsKeyIter J d n es.size ep) (h1:s.heap.get? d = some od) (h2:od.data = .dict es ep) (hh:A.handled = none)
   (q1:∀ (hn:n < es.size) h',h'.IsKeyIter J d (n + 1) es.size ep -> Heap.SameBut J s.heap h' -> Q (some es[n].key) { s with heap:=h' }) (q2:es.size <= n -> ∀ h',Heap.ExtBut J s.heap h' -> Q none { s with heap:=h' }) :
   wpAny (model prog w) A (pyNext (.ref J)) Q E s:=by
 obtain ⟨oj,g1,g2,g3⟩:=id hj
 have ty:=hj.typeIs
 have no:Builtin.Dict_items.ownsTuple "dict_keyiterator" = false:=by decide
 have nn:¬ ((Value.ref d == Value.none) = true):=Bool.false_ne_true
 have pos:¬ ((n:Int) < 0):=by lia
 unfold pyNext
 refine wpAny_bind (wpAny_attempt (wpAny_callSpecial?_slot (name:=Str.ofString "__next__") ty PySem.F.slot_dict_keyiterator_next (wpAny_call_entry PySem.F.slot_dict_keyiterator_next ty PySem.F.entry_dict_keyiterator_next ?_ (PySem.F.args_dict_keyiterator_next_1 _))))
 refine wpAny_bind (wpAny_pure (wpAny_bind (wpAny_bind ?_)))
 first | refine wpAny_bind (wpAny_typeNameOfWhole_keyiter ty (wpAny_pure (wpAny_bind (wpAny_fieldsOf g1 g3 ?_)))) | refine wpAny_bind (wpAny_typeNameOf_keyiter ty (wpAny_pure (wpAny_bind (wpAny_fieldsOf g1 g3 ?_))))
 simp only [no,Bool.false_eq_true,if_false]
 show wpAny _ _ (if (Value.ref d == Value.none) = true then _ else _) _ _ s; rw [if_neg nn]
 refine wpAny_bind (wpAny_pure (wpAny_bind (wpAny_dictEntries h1 h2 ?_))); rw [if_neg (by simp)]
 refine wpAny_bind (wpAny_pure (wpAny_bind (wpAny_dictEpoch h1 h2 ?_))); rw [if_neg (by simp)]; refine wpAny_pure ?_
 by_cases hn:n < es.size
 . simp only [pos,if_false,Int.toNat_natCast,Array.getElem?_eq_getElem hn]
   refine wpAny_bind ?_
   first | refine wpAny_bind (wpAny_typeNameOfWhole_keyiter ty (wpAny_pure (wpAny_bind (wpAny_isOneOf_keyiter ty ?_)))) | refine wpAny_bind (wpAny_typeNameOf_keyiter ty (wpAny_pure (wpAny_bind (wpAny_isOneOf_keyiter ty ?_))))
   show wpAny _ _ (setField (.ref J) 1 (rawInt ((n:Int) + 1)) >>= _) _ _ s; refine wpAny_bind (wpAny_setField g1 g3 (by simp) ?_)
   have hj':(s.heap.update J (Obj.mapFields (·.setIfInBounds 1 (rawInt ((n:Int) + 1))))).IsKeyIter J d (n + 1) es.size ep:=⟨_,Heap.get?_update_self _ g1 (Obj.isFreed_of_fields (Obj.data_mapFields g3 _)),(Obj.cls_mapFields ..).trans g2,(by rw [Obj.data_mapFields g3]; simp [rawInt])⟩
   refine wpAny_bind (wpAny_holding (wpAny_bind (wpAny_isOneOf_keyiter (s:={ s with heap:=s.heap.update J (Obj.mapFields (·.setIfInBounds 1 (rawInt ((n:Int) + 1)))) }) hj'.typeIs ?_)))
   exact wpAny_pure (wpAny_pure ⟨_,rfl,wpAny_pure (q1 hn _ hj' (Heap.SameBut.update ..))⟩)
 . simp only [pos,if_false,Int.toNat_natCast,Array.getElem?_eq_none (Nat.le_of_not_lt hn)]
   refine wpAny_bind ?_
   first | refine wpAny_bind (wpAny_typeNameOfWhole_keyiter ty (wpAny_pure ?_)) | refine wpAny_bind (wpAny_typeNameOf_keyiter ty (wpAny_pure ?_))
   show wpAny _ _ (setField (.ref J) 0 .none >>= _) _ _ s; refine wpAny_bind (wpAny_setField g1 g3 (by simp) (wpAny_bind ?_))
   simp only [newExc,newTuple]; refine wpAny_bind (wpAny_newObj_type ?_ (by size_fits))
   refine wpAny_bind (m:=firstArgMember _ _) (wpAny_of_eq (a:=Value.none) (by first | rfl | (simp only [firstArgMember]; rfl)) (wpAny_newObj_type ?_ (by size_fits)))
   simp only [raiseNew]; refine wpAny_bind (wpAny_handled ?_); rw [show A.in1.handled = none from hh]
   refine wpAny_bind (wpAny_pure (wpAny_throw ?_)); have sub:=isSubtype_stop
   refine wpAny_bind (wpAny_isInstance (T := "StopIteration") (b:=true) ⟨_,Heap.get?_push_size _ rfl,rfl⟩ sub ?_)
   exact wpAny_pure (q2 (Nat.le_of_not_lt hn) _ (((Heap.SameBut.update ..).extBut.push _).push _))
theorem sj {Q:Value -> Shared -> Prop} (hd:(d == sysModules) = false) (h1:s.heap.get? d = some od) (hc:od.ExactDict) (h2:od.data = .dict es ep)
   (q:Q (.ref s.heap.objs.size) { s with heap:=s.heap.push { cls := .type "dict_keyiterator",data := .fields #[.ref d,.int 0 0,.int es.size 0,.int ep 0] } }):wpAny (model prog w) A (pyIter (.ref d)) Q E s:=by
 have ty:s.TypeIs (.ref d) "dict" := ⟨od,h1,hc.1⟩
 refine wpAny_pyIter_slot ty PySem.F.slot_dict_iter (wpAny_call_entry PySem.F.slot_dict_iter ty PySem.F.entry_dict_iter ?_ (PySem.F.args_dict_iter_1 _))
 unfold Builtin.«dict.__iter__»; refine wpAny_bind ?_; unfold Builtin.Dict.dictSlotNone
 refine wpAny_bind (wpAny_notOrdered_dict ty (wpAny_pure ?_))
 show wpAny _ _ (Builtin.Dict.showsAll d >>= _) _ _ s; unfold Builtin.Dict.showsAll
 rw [if_neg (show ¬ (d == sysModules) = true by rw [hd]; exact Bool.false_ne_true)]
 refine wpAny_bind (wpAny_pure (wpAny_bind (wpAny_dictEntries h1 h2 (wpAny_bind (wpAny_dictEpoch h1 h2 ?_)))))
 exact wpAny_bind (wpAny_newObj_type (wpAny_pure ⟨_,rfl, "dict_keyiterator",_,⟨_,Heap.get?_push_size _ rfl,rfl⟩,PySem.F.slot_dict_keyiterator_next.lookup,q⟩))
end
section
variable {X:Cx}
end
noncomputable def NF (X:Cx) (a:Addr):Prop := ∀ o u,X.H₀ a ≠ some (.frz o u)
section
variable {X:Cx} {pins:List (Addr × Obj)} {σ:St} {H:Hp} {s:Shared} {a:Addr} {u:HO} {o:Obj}
theorem Inv.nf (I:Inv X pins σ H s) (e:H a = some u) (hu:∀ o v,u ≠ .frz o v):NF X a:=fun o v z=>by
 have:=I.base.frzs a o v z
 rw [e] at this
 exact hu o v (Option.some.inj this)
theorem Inv.thaw (I:Inv X pins σ H s) (e:H a = some (.frz o u)) (nf:NF X a):Inv X pins σ (upd H a u) s:=by
 have k:∀ b v,H b = some v -> (∀ o' u',v ≠ .frz o' u') -> (upd H a u) b = some v:=fun b v q n=>by
   rw [ag fun z=>by rw [z,e] at q; exact n o u (Option.some.inj q).symm]; exact q
 have k0:∀ b,H b = none -> (upd H a u) b = none:=fun b q=>by
   rw [ag fun z=>by rw [z,e] at q; cases q]; exact q
 have hok:HOk X.prog X.w (upd H a u) s.heap:=fun b v q=>by
   have st:∀ {c:Addr} {w':HO},ObjOk X.prog X.w H s.heap c w' -> ObjOk X.prog X.w (upd H a u) s.heap c w':=fun x=>x.stay (fun _ _ _ z=>z) (fun c z=>k c _ z fun _ _ y=>by cases y) fun c xs z=>k c _ z fun _ _ y=>by cases y
   by_cases hb:b = a
   . subst hb
     rw [aa] at q
     cases q
     exact st (I.hok b _ e).2
   . rw [ag hb] at q
     exact st (I.hok b v q)
 have bs:=I.base
 refine ⟨I.ok,I.os,I.bare,⟨bs.keep,bs.slot,fun b ob q n hx=>k0 b (bs.free b ob q n hx),bs.there,fun b xs q=>k b _ (bs.tups b xs q) (fun _ _ y=>nomatch y),fun b o' u' q=>?_,fun b ps q=>?_⟩,I.loc,I.cell,k0 _ I.free,fun x c z=>k0 _ (I.freeC x c z),fun p hp=>?_,hok,I.len⟩
 . have q2:=bs.frzs b o' u' q
   rw [ag fun z=>by rw [z] at q; exact nf o' u' q]; exact q2
 . obtain ⟨m,q2⟩:=bs.tbls b ps q
   exact ⟨m,k b _ q2 fun _ _ y=>by cases y⟩
 . obtain ⟨p1,p2,p3⟩:=I.pin p hp
   exact ⟨p1,k0 _ p2,p3⟩
end
theorem a0v {H:Hp} {kvs:List (List Key × V)} {xs:List (List Key × Addr × Value)} (h:Paired (fun (p:List Key × V) (q:List Key × Addr × Value)=>p.1 = q.1 /\ H q.2.1 = some (.tup (p.1.map kV)) /\ RelV p.2 q.2.2) kvs xs):Paired (fun (p:List Key × V) b=>H b = some (.tup (p.1.map kV))) kvs (xs.map (·.2.1)):=by
 induction h with
 | nil=>exact .nil
 | cons h t ih=>exact .cons h.2.1 ih
end L2
namespace Mir
open PySem L2
noncomputable def noNames:List Str:=["nil", "any", "is", "not", "cell", "stretch", "tree", "nothing", "then", "with"]
theorem vq (a b:Str):eqV (.str a) (.str b) = decide (a = b):=by
 show (a == b) = decide (a = b)
 by_cases h:a = b
 . subst h; simp
 . rw [decide_eq_false h]; exact beq_eq_false_iff_ne.mpr h
theorem lj (x:Str) (l:List Str):inV (.str x) (l.map V.str) = decide (x ∈ l):=by
 unfold inV
 rw [Bool.eq_iff_iff,List.any_eq_true,decide_eq_true_eq]
 constructor
 . rintro ⟨y,hy,e⟩
   obtain ⟨z,hz,rfl⟩:=List.mem_map.mp hy
   rw [vq,decide_eq_true_eq] at e
   exact e ▸ hz
 . intro h
   exact ⟨.str x,List.mem_map.mpr ⟨x,h,rfl⟩,by rw [vq]; simp⟩
theorem zn (l:List Str):(l.map V.str).all i8 = true:=by
 rw [List.all_eq_true]
 intro v hv
 obtain ⟨z,_,rfl⟩:=List.mem_map.mp hv
 rfl
end Mir
namespace K23
open PySem PySem.Spec L2 Mir
noncomputable def top (i:Nat):Stmt:=PySem.Challenge.pw_apart_k23_examples.main.body.getD i (.Pass ⟨0,0,0,0⟩)
structure Con (K:PySem.W.Frag) (mg:Str -> Option Value) (w:World):Prop where
 noNames:∃ a,Glob mg "NO_NAMES" (.ref a) /\ ∀ H,SqT K H a (noNames.map V.str)
 min:mg "min" = none
 len:mg "len" = none
 all:mg "all" = none
 any:mg "any" = none
 isi:mg "isinstance" = none
 list:mg "list" = none
 int:mg "int" = none
 bool:mg "bool" = none
 str:mg "str" = none
 dict:mg "dict" = none
 sorted:mg "sorted" = none
 set:mg "set" = none
 sum:mg "sum" = none
 range:mg "range" = none
 tuple:mg "tuple" = none
 max:mg "max" = none
 zip:mg "zip" = none
theorem iteB {b:Bool} {A B:Prop} (h1:b = true -> A) (h2:b = false -> B):if b = true then A else B:=by
 cases b with
 | true=>rw [if_pos rfl]; exact h1 rfl
 | false=>rw [if_neg Bool.false_ne_true]; exact h2 rfl
theorem Paired.nth {α β:Type} {F:α -> β -> Prop}:∀ {l₁:List α} {l₂:List β} {i:Nat} {a:α},Paired F l₁ l₂ -> l₁[i]? = some a -> ∃ b,l₂[i]? = some b /\ F a b
 | _,_,_,_,.nil,e=>by simp at e
 | _,_,0,_,.cons h _,e=>by simp at e; subst e; exact ⟨_,rfl,h⟩
 | _,_,i + 1,_,.cons _ t,e=>by
   obtain ⟨b,e1,e2⟩:=Paired.nth (i:=i) t (by simpa using e)
   exact ⟨b,by simpa using e1,e2⟩
theorem gty {X:Cx} {x:Str} {n:String} {pos:Pos} (hm:X.mg x = none) (hv:bootBuiltins x = some (.type n)) (hg:autoParam (Gl X x) L2.a2_) (hn:autoParam (x ≠ "__name__") L2.a1_) (hdb:autoParam ((x == ("__debug__" : Str)) = false) L2.a1_):PE X (.Name x pos) (tC (.ty n)):=a62 hg hm hv rfl hn hdb
structure Cal (K:PySem.W.Frag) (mg:Str -> Option Value) (x:Str) (f:Addr) (fd:FuncData) (ps:List Str):Prop where
 name:mg x = some (.ref f)
 keep:PySem.W.keepIn K (.ref f) = true
 bind:Binds K fd ps []
theorem ee {l:List Addr} {i:Nat} {x:V} (hx:(l.map V.ref)[i]? = some x):∃ a,l[i]? = some a /\ x = .ref a:=by
 rw [List.getElem?_map] at hx
 cases h:l[i]? with
 | none=>rw [h] at hx; cases hx
 | some a=>rw [h] at hx; exact ⟨a,rfl,(Option.some.inj hx).symm⟩
theorem Paired.at2 {α β:Type} {F:α -> β -> Prop} {l₁:List α} {l₂:List β} {i:Nat} {a:α} {b:β} (h:Paired F l₁ l₂) (h1:l₁[i]? = some a) (h2:l₂[i]? = some b):F a b:=by
 obtain ⟨b',e1,e2⟩:=Paired.nth h h1
 rw [h2] at e1
 cases e1
 exact e2
theorem Paired.app {α β:Type} {F:α -> β -> Prop}:∀ {l₁:List α} {l₂:List β} {m₁:List α} {m₂:List β},Paired F l₁ l₂ -> Paired F m₁ m₂ -> Paired F (l₁ ++ m₁) (l₂ ++ m₂)
 | _,_,_,_,.nil,h=>h
 | _,_,_,_,.cons h t,h2 => .cons h (Paired.app t h2)
theorem bi {H H':Hp} {l:Addr} (hl:H l = none) (e:Same H H') (o:HO):Same H (upd H' l o):=fun b u q=>by rw [ag (az q hl)]; exact e b u q
section
variable {K:PySem.W.Frag}
end
noncomputable def fq (ns:List Int) (k:Nat):Int:=(ns[k]?).getD 0
inductive spCellS (K:PySem.W.Frag) (vs:List V) (H:Hp) (Q:VK):Prop
 | mk (a:Addr) (ns:List Int) (k:Nat) (h0:vs = [.ref a,.int (k:Int)]) (h1:SqL K H a (ns.map V.int)) (h2:Q (.int (fq ns k)) H):spCellS K vs H Q
noncomputable def a0j (K:PySem.W.Frag):Sp:=fun vs H Q _=>spCellS K vs H Q
theorem nu {α:Type} {xs:List α} {m:Int} {i:Int} (hl:(xs.length:Int) = m) (hm:0 < m):∃ v,atI xs (i % m) = some v /\ v ∈ xs:=by
 have h0:=Int.emod_nonneg i (Int.ne_of_gt hm)
 have h1:=Int.emod_lt_of_pos i hm
 generalize i % m = j at h0 h1
 obtain ⟨k,rfl⟩:=Int.eq_ofNat_of_zero_le h0
 have hk:k < xs.length:=by lia
 exact ⟨xs[k],ie (List.getElem?_eq_getElem hk),List.getElem_mem hk⟩
noncomputable abbrev xz:Stmt:=top 14
section
variable {P:Program} {w:World} {K:PySem.W.Frag} {mg:Str -> Option Value} {base:Heap} {f g:Addr} {fd gd:FuncData}
theorem a87:FnScope ["_law_script", "_law_k"] ["_law_script", "_law_k"] (ao xz):=⟨rfl,rfl,rfl,by decide +kernel,rfl,by decide +kernel,by decide +kernel⟩
theorem a2a (C:Con K mg w) (F:Fun K "_law_cell_at" "_law_cell_at" xz f fd):FnOk P w K mg base CX0 1 f fd ["_law_script", "_law_k"] (a0j K):=by
 refine F.okQ a87 (fun vs H Q E h=>?_) (fun cdv A outer s H vs Q E hr h=>?_)
 . obtain ⟨a,ns,k,rfl,_⟩:=h; rfl
 obtain ⟨a,ns,k,rfl,hS,q⟩:=h
 refine ⟨_,ac (bf (ar j0 (qv 1) (b0 (ej (K:=K) rfl) rfl C.len PySem.boot_len (af (qv 0) ab)) (aq _)) (ah (aw (ai (ixKk (K:=K) rfl) (qv 0) (qv 1) (fun _ _=>rfl)))) bc)
   (ah (aw ad)),?_⟩
 have hl:(ns.map V.int).length = ns.length:=List.length_map _
 refine ⟨_,rfl,_,rfl,a,_,rfl,.inl hS,_,_,rfl,rfl,_,rfl,iteB (fun c=>?_) (fun c=>?_)⟩
 . have c':=of_decide_eq_true c
   rw [hl] at c'
   have hk:k < ns.length:=by lia
   have e:fq ns k = ns[k]:=by unfold fq; rw [List.getElem?_eq_getElem hk]; rfl
   rw [e] at q
   exact ⟨_,rfl,_,rfl,a,_,_,_,rfl,rfl,hS,ie (by rw [List.getElem?_map,List.getElem?_eq_getElem hk]; rfl),q⟩
 . have c':=of_decide_eq_false c
   rw [hl] at c'
   have hk:ns.length <= k:=by lia
   have e:fq ns k = 0:=by unfold fq; rw [List.getElem?_eq_none hk]; rfl
   rw [e] at q
   exact q
end
noncomputable def r6 (K:PySem.W.Frag):Sp:=fun vs H Q _ => ∃ (a:Addr) (ns:List Int),vs = [.ref a] /\ SqL K H a (ns.map V.int) /\ ∀ H',Q (.bl true) H'
theorem il {K:PySem.W.Frag} {H:Hp} {l b:Addr} {xs ys zs:List V} (hl:H l = some (.lst xs)) (h:SqT K H b zs):SqT K (upd H l (.lst ys)) b zs:=by
 rcases h with (h | ⟨o,h⟩) | h
 . have hne:b ≠ l:=fun e=>by rw [e,hl] at h; cases h
   exact .inl (.inl (by show upd H l _ b = _; rw [ag hne]; exact h))
 . have hne:b ≠ l:=fun e=>by rw [e,hl] at h; cases h
   exact .inl (.inr ⟨o,by show upd H l _ b = _; rw [ag hne]; exact h⟩)
 . exact .inr h
theorem a5n {X:Cx} {i j:Nat} {x y:Str} {px py pos:Pos} {k:Nat} (h1:QG X (.Name x px) (bh i)) (h2:QG X (.Name y py) (bh j)) (hc:autoParam (X.calm = true) L2.a2_)
   (a1:autoParam ((assignEach [.Name x px,.Name y py] X.env).map (·.2) = assign (.Name x px) X.env :: (assignEach [.Name y py] X.env).map (·.2)) L2.a2_) (a2:autoParam ((assignEach [.Name y py] X.env).map (·.2) = assign (.Name y py) X.env :: (assignEach [] X.env).map (·.2)) L2.a2_)
   (hn:autoParam ((assignEach [.Name x px,.Name y py] X.env).length = 2) L2.a2_) (hst:autoParam ((assignEach [.Name x px,.Name y py] X.env).findIdx? (·.1) = none) L2.a2_):QG X (.Tuple [.Name x px,.Name y py] k pos) (gTup X.K 2 (gk (bh i) (gk (bh j) gNil))) :=
 ⟨a0q hc (ir h1.run (ir h2.run xm a2) a1) hn hst⟩
theorem gr {X:Cx} {K:PySem.W.Frag} {i j:Nat} {x y:Str} {px py pos:Pos} {k:Nat} (hK:X.K = K) (h1:QG X (.Name x px) (bh i)) (h2:QG X (.Name y py) (bh j)) (hc:autoParam (X.calm = true) L2.a2_)
   (a1:autoParam ((assignEach [.Name x px,.Name y py] X.env).map (·.2) = assign (.Name x px) X.env :: (assignEach [.Name y py] X.env).map (·.2)) L2.a2_) (a2:autoParam ((assignEach [.Name y py] X.env).map (·.2) = assign (.Name y py) X.env :: (assignEach [] X.env).map (·.2)) L2.a2_)
   (hn:autoParam ((assignEach [.Name x px,.Name y py] X.env).length = 2) L2.a2_) (hst:autoParam ((assignEach [.Name x px,.Name y py] X.env).findIdx? (·.1) = none) L2.a2_):QG X (.Tuple [.Name x px,.Name y py] k pos) (gTup K 2 (gk (bh i) (gk (bh j) gNil))):=by subst hK; exact a5n h1 h2 hc a1 a2 hn hst
theorem iteN {b:Bool} {A B:Prop} (h:b = true) (hB:B):if (!b) = true then A else B:=by rw [h]; exact hB
theorem fb {X:Cx} {st:Stmt} {t t':TS} (h:QS X st t) (w:∀ D σ H,t' D σ H -> t D σ H):QS X st t':=⟨fun pins s σ H D I q=>h.run pins s σ H D I (w D σ H q)⟩
theorem yz {X:Cx} {a:Expr} {ta:TE} {pos:Pos} {op:UnaryOp} {r:V -> Hp -> VK -> Prop} (ho:UnR X (unaryOp op) r) (ha:QE X a ta):QE X (.UnaryOp op a pos) (tUn r ta):=⟨a8o ho ha.run⟩
theorem a6d {X:Cx} {i j l:Nat} {x y z:Str} {px py pz pos:Pos} {k:Nat} (h1:QG X (.Name x px) (bh i)) (h2:QG X (.Name y py) (bh j)) (h3:QG X (.Name z pz) (bh l)) (hc:autoParam (X.calm = true) L2.a2_)
   (a1:autoParam ((assignEach [.Name x px,.Name y py,.Name z pz] X.env).map (·.2) = assign (.Name x px) X.env :: (assignEach [.Name y py,.Name z pz] X.env).map (·.2)) L2.a2_) (a2:autoParam ((assignEach [.Name y py,.Name z pz] X.env).map (·.2) = assign (.Name y py) X.env :: (assignEach [.Name z pz] X.env).map (·.2)) L2.a2_) (a3:autoParam ((assignEach [.Name z pz] X.env).map (·.2) = assign (.Name z pz) X.env :: (assignEach [] X.env).map (·.2)) L2.a2_)
   (hn:autoParam ((assignEach [.Name x px,.Name y py,.Name z pz] X.env).length = 3) L2.a2_) (hst:autoParam ((assignEach [.Name x px,.Name y py,.Name z pz] X.env).findIdx? (·.1) = none) L2.a2_):QG X (.Tuple [.Name x px,.Name y py,.Name z pz] k pos) (gTup X.K 3 (gk (bh i) (gk (bh j) (gk (bh l) gNil)))) :=
 ⟨a0q hc (ir h1.run (ir h2.run (ir h3.run xm a3) a2) a1) hn hst⟩
theorem rm {X:Cx} {K:PySem.W.Frag} {i j l:Nat} {x y z:Str} {px py pz pos:Pos} {k:Nat} (hK:X.K = K) (h1:QG X (.Name x px) (bh i)) (h2:QG X (.Name y py) (bh j)) (h3:QG X (.Name z pz) (bh l)) (hc:autoParam (X.calm = true) L2.a2_)
   (a1:autoParam ((assignEach [.Name x px,.Name y py,.Name z pz] X.env).map (·.2) = assign (.Name x px) X.env :: (assignEach [.Name y py,.Name z pz] X.env).map (·.2)) L2.a2_) (a2:autoParam ((assignEach [.Name y py,.Name z pz] X.env).map (·.2) = assign (.Name y py) X.env :: (assignEach [.Name z pz] X.env).map (·.2)) L2.a2_) (a3:autoParam ((assignEach [.Name z pz] X.env).map (·.2) = assign (.Name z pz) X.env :: (assignEach [] X.env).map (·.2)) L2.a2_)
   (hn:autoParam ((assignEach [.Name x px,.Name y py,.Name z pz] X.env).length = 3) L2.a2_) (hst:autoParam ((assignEach [.Name x px,.Name y py,.Name z pz] X.env).findIdx? (·.1) = none) L2.a2_):QG X (.Tuple [.Name x px,.Name y py,.Name z pz] k pos) (gTup K 3 (gk (bh i) (gk (bh j) (gk (bh l) gNil)))):=by subst hK; exact a6d h1 h2 h3 hc a1 a2 a3 hn hst
noncomputable def a4y (t:TS):TS:=fun D σ H=>t { D with nx:=fun σ' H' => ∀ τ,τ = σ' -> D.nx τ H' } σ H
theorem kt {X:Cx} {st:Stmt} {t:TS} (h:QS X st t):QS X st (a4y t):=fb h fun D σ H h=>by
 have e:(fun σ' H' => ∀ τ,τ = σ' -> D.nx τ H') = D.nx:=by
   funext σ' H'
   exact propext ⟨fun h=>h _ rfl,fun h τ e=>e ▸ h⟩
 unfold a4y at h
 rw [e] at h
 exact h
noncomputable def Kp (S:Addr -> Prop) (H H':Hp):Prop := ∀ b o,H b = some o -> ¬ S b -> H' b = some o
noncomputable abbrev lm:Stmt:=top 7
noncomputable def rc (x:Str):Prop:=x.length <= 1000
theorem x6 {r:List Str} {k:Nat}:cutV (r.map V.str) (some (k:Int)) none = (r.drop k).map V.str:=by
 unfold cutV
 rw [HT.sIx_nat,HT.sIx_none,List.length_map]
 rw [List.map_drop.symm]
 by_cases h:k <= r.length
 . rw [Nat.min_eq_left h,List.take_of_length_le (by simp)]
 . rw [Nat.min_eq_right (by lia),Nat.sub_self,List.take_zero,List.drop_eq_nil_of_le (by lia)]; rfl
noncomputable def gb (rs:List (List Str)):Prop:=rs.length <= 200 /\ ∀ r ∈ rs,r.length <= 5 /\ ∀ x ∈ r,rc x
noncomputable def eh (r:List Str):List Str:=(r.drop 1).filter fun x => !decide (x ∈ Mir.noNames)
noncomputable def words (rs:List (List Str)):List Str:=(rs.map eh).flatten
theorem a1t (a b:List (List Str)):words (a ++ b) = words a ++ words b:=by unfold words; rw [List.map_append,List.flatten_append]
theorem yh (a:List (List Str)) (r:List Str):words (a ++ [r]) = words a ++ eh r:=by rw [a1t]; unfold words; simp
theorem j3:∀ {rs:List (List Str)} {m:Nat},(∀ r ∈ rs,r.length <= m) -> (words rs).length <= rs.length * m
 | [],m,_=>by simp [words]
 | r :: rs,m,h=>by
   have h1:=j3 (rs:=rs) (m:=m) (fun x hx=>h x (List.mem_cons_of_mem _ hx))
   have h2:(eh r).length <= m:=by
     unfold eh
     have:=List.length_filter_le (fun x => !decide (x ∈ Mir.noNames)) (r.drop 1)
     have:=h r (List.mem_cons_self ..)
     have e:=List.length_drop (i:=1) (l:=r)
     lia
   have e:words (r :: rs) = eh r ++ words rs:=by simp [words]
   rw [e,List.length_append,List.length_cons,Nat.succ_mul]
   lia
inductive spNmOfS (K:PySem.W.Frag) (vs:List V) (H:Hp) (Q:VK):Prop
 | mk (a fs ps) (h0:vs = [.ref a]) (h1:a09 K H a [fs,ps]) (h2:gb fs) (h3:gb ps) (h4:(∀ r ∈ fs ++ ps,r ≠ [])) (h5:(∀ ss:List Str,ss.Nodup -> (∀ y ∈ ss,y ∈ words (fs ++ ps)) -> ss.length < 64)) (h6:∀ (p:Addr) (zs:List Str) (H':Hp),H p = none -> Same H H' -> H' p = some (.lst (zs.map V.str)) -> zs.Nodup -> (∀ y,y ∈ zs ↔ y ∈ words (fs ++ ps)) -> PyProof.Rows.sortedS zs = true -> Q (.ref p) H'):spNmOfS K vs H Q
noncomputable def a0g (K:PySem.W.Frag):Sp:=fun vs H Q _=>spNmOfS K vs H Q
section
variable {P:Program} {w:World} {K:PySem.W.Frag} {mg:Str -> Option Value} {base:Heap} {f g:Addr} {fd gd:FuncData}
theorem scNamesOf:FnScope ["telling", "names", "row"] ["telling"] (ao lm):=⟨rfl,rfl,rfl,by decide +kernel,rfl,by decide +kernel,by decide +kernel⟩
theorem zg (C:Con K mg w) (F:Fun K "names_of" "names_of" lm f fd):FnOk P w K mg base CX0 1 f fd ["telling"] (a0g K):=by
 refine F.ok scNamesOf (fun vs H Q E h=>?_) (fun cdv A outer s H vs Q E hr h=>?_)
 . obtain ⟨a,fs,ps,rfl,_⟩:=h; rfl
 obtain ⟨a,fs,ps,rfl,ht,hf,hp,hne,h64,q⟩:=h
 obtain ⟨aN,gN,tN⟩:=C.noNames
 obtain ⟨as,t1,t2⟩:=ht
 cases t2 with
 | @cons fa _ _ _ t3 t4 =>
 cases t4 with
 | @cons pa _ _ _ t5 t6 =>
 cases t6
 obtain ⟨fas,f1,f2⟩:=t3
 obtain ⟨pas,p1,p2⟩:=t5
 refine ⟨_,ml (a0y scNamesOf.nd (i:=1) rfl (Or.inl rfl) (tj jz))
   (ml (a1y PassesOwn.never rfl (xk (a4n dw (zd ng (pv 0) jx (fun _ _=>rfl)) (zd ng (pv 0) jx (fun _ _=>rfl)))) (wy (i:=2) scNamesOf.nd rfl (Or.inl rfl))
     (oh (xg (a4m PySem.F.plainAttrs_list PySem.F.slot_list_extend PySem.F.type_list_extend a1e (pv 1)
       (dq (uu (a1z (ub a1j (pv 2) (ww jx) vk)) (fun _ _ _ _=>wf (wq (show OpR _ _ (rIn K true) from rf) (pv 0) (pe_g gN) (by with_unfolding_all rfl))) (fun _ _ _ _=>pv 0)) jz)))))
     (oh (zy (sq (mr rfl) rfl C.sorted PyProof.Rows.boot_sorted (dq (pk (a3s rfl) rfl C.set PyProof.Rows.boot_set (dq (pv 1) jz)) jz))))),?_⟩
 refine ⟨Nat.zero_le _,fun n hn=>?_⟩
 have s1:Same H (upd H n (.lst [])):=ae hn _
 have fl:fas.length = fs.length:=Paired.length f2
 have pl:pas.length = ps.length:=Paired.length p2
 have b1:=hf.1
 have b2:=hp.1
 refine ⟨_,rfl,a,_,0,.ref fa,rfl,rfl,s1.seqT t1,rfl,_,rfl,a,_,1,.ref pa,rfl,rfl,s1.seqT t1,rfl,?_⟩
 refine ⟨fa,pa,_,_,rfl,rfl,s1 _ _ f1,s1 _ _ p1,?_,fun c hc=>?_⟩
 . rw [List.length_map,List.length_map]; exact Nat.le_of_lt (iw (by lia))
 have hcn:c ≠ n:=fun e=>by rw [e,aa] at hc; cases hc
 rw [<- List.map_append]
 have s2:=ae hc (.lst ((fas ++ pas).map V.ref))
 refine ⟨c,rfl,⟨_,SqL.of aa⟩,?_⟩
 have pr:Paired (fun b r=>RowAt K H b r) (fas ++ pas) (fs ++ ps):=Paired.app f2 p2
 have pl2:(fas ++ pas).length = (fs ++ ps).length:=Paired.length pr
 have hall:∀ r ∈ fs ++ ps,r.length <= 5:=fun r hr=>by
   rcases List.mem_append.mp hr with h | h
   . exact (hf.2 r h).1
   . exact (hp.2 r h).1
 refine bj (xs:=(fas ++ pas).map V.ref) (fun i σ H'=>Same H H' /\ H' c = some (.lst ((fas ++ pas).map V.ref)) /\ H' n = some (.lst ((words ((fs ++ ps).take i)).map V.str)) /\ ∃ z,σ = [some (.ref a),some (.ref n),z]) ⟨s1.trans s2,aa,?_,_,rfl⟩ (fun i σ H' _ p=>SqL.of p.2.1) ?_ ?_
 . rw [ag (Ne.symm hcn),aa]; rfl
 . rintro i v σ H' hi ⟨e,hc',hn',z,rfl⟩
   rw [List.getElem?_map] at hi
   cases hb:(fas ++ pas)[i]? with
   | none=>rw [hb] at hi; cases hi
   | some b =>
     rw [hb] at hi
     have hv:v = .ref b:=(Option.some.inj hi).symm
     subst hv
     obtain ⟨r,hr1,hr2⟩:=Paired.nth pr hb
     have hrm:r ∈ fs ++ ps:=List.mem_of_getElem? hr1
     have hrow:RowAt K H' b r:=hr2.same e
     have hr5:=hall r hrm
     have hr0:r.length ≠ 0:=fun h=>hne r hrm (List.length_eq_zero_iff.mp h)
     refine ⟨_,rfl,.inl ⟨rfl,_,SqL.of hn'⟩,_,rfl,_,rfl,b,_,rfl,hrow,?_,fun t hT=>?_⟩
     . rw [List.length_map,show (some (1:Int)) = some ((1:Nat):Int) from rfl,HT.sIx_nat]; lia
     have e1:cutV (r.map V.str) (some 1) none = (r.drop 1).map V.str:=x6 (k:=1)
     rw [e1]
     have s3:Same H' (upd H' t (.tup ((r.drop 1).map V.str))):=ae hT _
     refine ⟨t,rfl,⟨_,SqT.of aa⟩,?_⟩
     refine lz ((r.drop 1).map V.str) (fun v => !inV v (Mir.noNames.map V.str)) id u1 (SqT.of aa) ?_ ?_ ?_ ?_
     . rw [List.length_map,List.length_drop]; exact Nat.le_of_lt (iw (by lia))
     . intro v hv H2 e2 Q' q'
       obtain ⟨y,hy,rfl⟩:=List.mem_map.mp hv
       exact ⟨_,rfl,aN,_,rfl,.inr (tN _),rfl,zn _,_,rfl,q' H2 (Same.refl _)⟩
     . intro v hv hpv H2 e2 Q' q'
       obtain ⟨y,hy,rfl⟩:=List.mem_map.mp hv
       exact ⟨_,rfl,q' H2 (Same.refl _)⟩
     . intro D H2 hD e' hd
       have hw:(((r.drop 1).map V.str).filter (fun v => !inV v (Mir.noNames.map V.str))).map id = (eh r).map V.str:=by
         rw [List.map_id,List.filter_map]
         unfold eh
         congr 1
         apply List.filter_congr
         intro x _
         show (!inV (.str x) (Mir.noNames.map V.str)) = _
         rw [lj]
       rw [hw] at hd
       have s4:Same H H2:=(e.trans s3).trans e'
       have ht1:(fs ++ ps).take (i + 1) = (fs ++ ps).take i ++ [r]:=by rw [List.take_add_one,hr1]; rfl
       have wl:=j3 hall
       have wl2:(words ((fs ++ ps).take i)).length <= 200 * 5 + 200 * 5:=by
         have h1:=j3 (rs:=(fs ++ ps).take i) (m:=5) (fun r hr=>hall r (List.mem_of_mem_take hr))
         have h2:=List.length_take_le' i (fs ++ ps)
         rw [List.length_append] at h2
         lia
       have wl3:(eh r).length <= 5:=by
         unfold eh
         have h1:=List.length_filter_le (fun x => !decide (x ∈ Mir.noNames)) (r.drop 1)
         have h2:=List.length_drop (i:=1) (l:=r)
         lia
       refine ⟨n,D,_,_,rfl,rfl,e' _ _ (s3 _ _ hn'),hd,?_,?_⟩
       . rw [List.length_map,List.length_map]
         exact Nat.le_trans (by lia) (show (2005:Nat) <= sizeLine by decide)
       refine ⟨fun b' u q'=>?_,?_,?_,_,rfl⟩
       . rw [ag (az q' hn)]; exact s4 _ _ q'
       . rw [ag hcn]; exact e' _ _ (s3 _ _ hc')
       . rw [aa,ht1,yh,List.map_append]
 . rintro σ H' ⟨e,hc',hn',z,rfl⟩
   rw [List.length_map,pl2,List.take_length] at hn'
   refine ⟨_,rfl,n,_,rfl,SqL.of hn',?_,fun S ss hS hd=>?_⟩
   . have wl:=j3 hall
     rw [List.length_append] at wl
     show _ < 4096
     lia
   have s5:=ae hS (SetO P w S ss)
   refine ⟨S,ss,rfl,aa,h64 ss hd.nodup (fun y hy=>(hd.mem y).mp hy),fun p zs hp' hzs hso=>?_⟩
   have s6:=ae hp' (.lst (zs.map V.str))
   refine q p zs _ ?_ (e.trans (s5.trans s6)) aa (hzs.nodup_iff.mpr hd.nodup) (fun y=>(hzs.mem_iff).trans (hd.mem y)) hso
   cases hH:H p with
   | none=>rfl
   | some u=>exact nomatch (s5 _ _ (e _ _ hH)).symm.trans hp'
end
theorem mem_words {rs:List (List Str)} {y:Str}:y ∈ words rs ↔ ∃ r ∈ rs,y ∈ r.drop 1 /\ ¬ y ∈ Mir.noNames:=by
 unfold words eh
 simp only [List.mem_flatten,List.mem_map]
 constructor
 . rintro ⟨l,⟨r,hr,rfl⟩,hy⟩
   rw [List.mem_filter] at hy
   exact ⟨r,hr,hy.1,by simpa using hy.2⟩
 . rintro ⟨r,hr,hy,hn⟩
   exact ⟨_,⟨r,hr,rfl⟩,List.mem_filter.mpr ⟨hy,by simpa using hn⟩⟩
end K23
namespace L2
open PySem PySem.Spec
noncomputable def dS (m:List (Str × Str)):List (Key × V):=m.map fun p=>(Sum.inr p.1,V.str p.2)
noncomputable def lkS (m:List (Str × Str)) (x:Str):Option Str:=(m.find? fun p=>decide (p.1 = x)).map (·.2)
theorem jd:∀ (m:List (Str × Str)) (x:Str),valV (dS m) (Sum.inr x) = (lkS m x).map V.str
 | [],x=>rfl
 | p :: m,x=>by
   have ih:=jd m x
   by_cases h:p.1 = x
   . have e1:valV (dS (p :: m)) (Sum.inr x) = some (.str p.2):=bz (p:=((Sum.inr p.1,V.str p.2):Key × V)) (show (Sum.inr p.1:Key) = Sum.inr x by rw [h])
     have e2:lkS (p :: m) x = some p.2:=by unfold lkS; simp [List.find?_cons,h]
     rw [e1,e2]; rfl
   . have e1:valV (dS (p :: m)) (Sum.inr x) = valV (dS m) (Sum.inr x):=c5 (p:=((Sum.inr p.1,V.str p.2):Key × V)) (show ¬ (Sum.inr p.1:Key) = Sum.inr x from fun z=>h (Sum.inr.inj z))
     have e2:lkS (p :: m) x = lkS m x:=by unfold lkS; simp [List.find?_cons,h]
     rw [e1,e2,ih]
noncomputable def putS (m:List (Str × Str)) (x:Str) (z:Str):List (Str × Str):=if (m.any fun p=>decide (p.1 = x)) = true then m.map (fun p=>if p.1 = x then (p.1,z) else p) else m ++ [(x,z)]
theorem wz (m:List (Str × Str)) (x:Str) (z:Str):putK (dS m) (Sum.inr x) (.str z) = dS (putS m x z):=by
 unfold putK putS dS
 have ed:∀ a b:Str,decide ((Sum.inr a:Key) = Sum.inr b) = decide (a = b):=fun a b=>by
   by_cases h:a = b
   . subst h; simp
   . rw [decide_eq_false h,decide_eq_false (fun z=>h (Sum.inr.inj z))]
 have e:(m.map (fun p=>((Sum.inr p.1,V.str p.2):Key × V))).any (fun kv=>decide (kv.1 = (Sum.inr x:Key))) = m.any fun p=>decide (p.1 = x):=by
   rw [List.any_map]
   congr 1
   funext p
   exact ed p.1 x
 rw [e]
 split
 . rw [List.map_map,List.map_map]
   apply List.map_congr_left
   intro p _
   show (if (Sum.inr p.1:Key) = Sum.inr x then _ else _) = _
   by_cases h:p.1 = x
   . rw [if_pos (by rw [h])]
     show _ = ((Sum.inr (if p.1 = x then (p.1,z) else p).1,V.str (if p.1 = x then (p.1,z) else p).2):Key × V)
     rw [if_pos h]
   . rw [if_neg (fun z=>h (Sum.inr.inj z))]
     show _ = ((Sum.inr (if p.1 = x then (p.1,z) else p).1,V.str (if p.1 = x then (p.1,z) else p).2):Key × V)
     rw [if_neg h]
 . rw [List.map_append]; rfl
theorem wg {x:Str} {z:Str}:∀ (m:List (Str × Str)) (y:Str),lkS (m.map fun p=>if p.1 = x then (p.1,z) else p) y = if y = x then (lkS m x).map (fun _=>z) else lkS m y
 | [],y=>by unfold lkS; simp
 | p :: m,y=>by
   have ih:=wg (x:=x) (z:=z) m y
   have c:∀ (q:Str × Str) (l:List (Str × Str)) (w:Str),lkS (q :: l) w = if q.1 = w then some q.2 else lkS l w:=fun q l w=>by
     unfold lkS
     rw [List.find?_cons]
     by_cases h:q.1 = w
     . simp [h]
     . simp [h]
   rw [List.map_cons,c,c,c,ih]
   by_cases h1:p.1 = x
   . by_cases h2:y = x
     . subst h2; simp [h1]
     . have h3:¬ x = y:=fun z=>h2 z.symm
       simp [h1,h2,h3]
   . by_cases h2:y = x
     . subst h2; simp [h1]
     . simp [h1,h2]
theorem l8 (m:List (Str × Str)) (x:Str) (z:Str) (y:Str):lkS (putS m x z) y = if y = x then some z else lkS m y:=by
 unfold putS
 split
 . rename_i h
   rw [wg]
   by_cases h2:y = x
   . rw [if_pos h2,if_pos h2]
     have:(lkS m x).isSome = true:=by
       unfold lkS
       rw [Option.isSome_map]
       rw [List.find?_isSome]
       rw [List.any_eq_true] at h
       exact h
     cases hl:lkS m x with
     | none=>rw [hl] at this; cases this
     | some v=>rfl
   . rw [if_neg h2,if_neg h2]
 . rename_i h
   have hn:∀ p ∈ m,¬ p.1 = x:=fun p hp z=>h (List.any_eq_true.mpr ⟨p,hp,by simp [z]⟩)
   unfold lkS
   rw [List.find?_append]
   by_cases h2:y = x
   . subst h2
     rw [if_pos rfl,List.find?_eq_none.mpr (fun p hp=>by simp [hn p hp])]
     simp
   . have h3:¬ x = y:=fun z=>h2 z.symm
     rw [if_neg h2]
     simp [h3]
theorem a3i (m:List (Str × Str)) (x:Str) (z:Str):(putS m x z).length <= m.length + 1:=by
 unfold putS
 split
 . rw [List.length_map]; lia
 . rw [List.length_append,List.length_singleton]; lia
theorem li (m:List (Str × Str)) (x z y:Str):(lkS (putS m x z) y).isSome = true ↔ y = x \/ (lkS m y).isSome = true:=by
 rw [l8]
 by_cases h:y = x
 . rw [if_pos h]; simp [h]
 . rw [if_neg h]; simp [h]
theorem lkS_mem {m:List (Str × Str)} {x:Str}:(lkS m x).isSome = true ↔ x ∈ m.map (·.1):=by
 unfold lkS
 rw [Option.isSome_map,List.find?_isSome]
 constructor
 . rintro ⟨p,hp,e⟩
   exact List.mem_map.mpr ⟨p,hp,of_decide_eq_true e⟩
 . intro h
   obtain ⟨p,hp,rfl⟩:=List.mem_map.mp h
   exact ⟨p,hp,by simp⟩
end L2
namespace Kn
open PySem PySem.Spec L2
inductive Conn (F:List (List Str)):Str -> Str -> Prop
 | refl (x:Str):Conn F x x
 | fact {u v:Str} (h:[("is" : Str),u,v] ∈ F):Conn F u v
 | symm {x y:Str} (h:Conn F x y):Conn F y x
 | trans {x y z:Str} (h1:Conn F x y) (h2:Conn F y z):Conn F x z
theorem Conn.mono {F G:List (List Str)} (h:∀ r ∈ F,r ∈ G) {x y:Str} (c:Conn F x y):Conn G x y:=by
 induction c with
 | refl x=>exact .refl x
 | fact h1=>exact .fact (h _ h1)
 | symm _ ih=>exact ih.symm
 | trans _ _ i1 i2=>exact i1.trans i2
noncomputable def jq (h:Str -> Str) (r:List Str):Str -> Str:=if r.getD 0 "" = "is" then fun x=>if h x = h (r.getD 2 "") then h (r.getD 1 "") else h x else h
noncomputable def ap (F:List (List Str)):Str -> Str:=F.foldl jq id
theorem jk (F:List (List Str)) (r:List Str):ap (F ++ [r]) = jq (ap F) r:=by unfold ap; rw [List.foldl_append]; rfl
noncomputable def cm (r:List Str):Prop := ∃ k u v:Str,r = [k,u,v] /\ (k = "is" \/ k = "not")
theorem a1w:∀ (n:Nat) (F:List (List Str)),F.length = n -> (∀ r ∈ F,cm r) -> ∀ x y,ap F x = ap F y ↔ Conn F x y:=by
 intro n
 induction n with
 | zero =>
   intro F hl hF x y
   have:F = []:=List.eq_nil_of_length_eq_zero hl
   subst this
   constructor
   . intro h
     have h':x = y:=h
     subst h'
     exact .refl x
   . intro c
     show x = y
     induction c with
     | refl x=>rfl
     | fact h=>cases h
     | symm _ ih=>exact ih.symm
     | trans _ _ i1 i2=>exact i1.trans i2
 | succ n ih =>
   intro F hl hF
   have hne:F ≠ []:=fun z=>by rw [z] at hl; cases hl
   obtain ⟨G,r,rfl⟩:∃ G r,F = G ++ [r]:=⟨F.dropLast,F.getLast hne,(List.dropLast_concat_getLast hne).symm⟩
   have hGl:G.length = n:=by rw [List.length_append] at hl; simpa using hl
   have hG:∀ r' ∈ G,cm r':=fun r' h=>hF r' (List.mem_append.mpr (.inl h))
   have I:=ih G hGl hG
   have mono:∀ {x y},Conn G x y -> Conn (G ++ [r]) x y:=fun c=>c.mono fun r' h=>List.mem_append.mpr (.inl h)
   obtain ⟨k,u,v,rfl,hk⟩:=hF r (List.mem_append.mpr (.inr (List.mem_singleton.mpr rfl)))
   intro x y
   rw [jk]
   unfold jq
   rcases hk with rfl | rfl
   . rw [if_pos (show ([("is" : Str),u,v].getD 0 "") = "is" from rfl)]
     show (if ap G x = ap G v then ap G u else ap G x) = (if ap G y = ap G v then ap G u else ap G y) ↔ _
     have huv:Conn (G ++ [[("is" : Str),u,v]]) u v := .fact (List.mem_append.mpr (.inr (List.mem_singleton.mpr rfl)))
     constructor
     . intro h
       by_cases hx:ap G x = ap G v
       . by_cases hy:ap G y = ap G v
         . exact mono ((I x y).mp (hx.trans hy.symm))
         . rw [if_pos hx,if_neg hy] at h
           exact (mono ((I x v).mp hx)).trans (huv.symm.trans (mono ((I u y).mp h)))
       . by_cases hy:ap G y = ap G v
         . rw [if_neg hx,if_pos hy] at h
           exact (mono ((I x u).mp h)).trans (huv.trans (mono ((I y v).mp hy)).symm)
         . rw [if_neg hx,if_neg hy] at h
           exact mono ((I x y).mp h)
     . intro c
       induction c with
       | refl x=>rfl
       | @fact a b h =>
         rcases List.mem_append.mp h with h | h
         . have:=(I a b).mpr (.fact h)
           rw [this]
         . have h':=List.mem_singleton.mp h
           simp only [List.cons.injEq,and_true,true_and] at h'
           obtain ⟨rfl,rfl⟩:=h'
           rw [if_pos rfl]
           by_cases hx:ap G a = ap G b
           . rw [if_pos hx]
           . rw [if_neg hx]
       | symm _ ih=>exact ih.symm
       | trans _ _ i1 i2=>exact i1.trans i2
   . have hni:¬ ("not" : Str) = "is" := by decide +kernel
     rw [if_neg (show ¬ ([("not" : Str),u,v].getD 0 "") = "is" from hni)]
     rw [I x y]
     constructor
     . exact mono
     . intro c
       induction c with
       | refl x=>exact .refl x
       | @fact a b h =>
         rcases List.mem_append.mp h with h | h
         . exact .fact h
         . have h':=List.mem_singleton.mp h
           simp only [List.cons.injEq] at h'
           exact absurd h'.1.symm hni
       | symm _ ih=>exact ih.symm
       | trans _ _ i1 i2=>exact i1.trans i2
theorem cy {F:List (List Str)} (hF:∀ r ∈ F,cm r) (x y:Str):ap F x = ap F y ↔ Conn F x y:=a1w F.length F rfl hF x y
noncomputable def hdS (m:List (Str × Str)) (x:Str):Str:=(lkS m x).getD x
structure HeadsOk (m:List (Str × Str)) (h:Str -> Str):Prop where
 hd:∀ x,hdS m x = h x
 key:∀ x v,lkS m x = some v -> (lkS m v).isSome = true
theorem HeadsOk.start:HeadsOk [] id:=⟨fun _=>rfl,fun x v h=>by cases h⟩
theorem HeadsOk.dflt {m:List (Str × Str)} {h:Str -> Str} (H:HeadsOk m h) {u:Str} (hu:lkS m u = none):HeadsOk (putS m u u) h /\ h u = u:=by
 have e:h u = u:=by rw [<- H.hd]; unfold hdS; rw [hu]; rfl
 refine ⟨⟨fun x=>?_,fun x v hv=>?_⟩,e⟩
 . unfold hdS
   rw [l8]
   by_cases hx:x = u
   . rw [if_pos hx,hx,e]; rfl
   . rw [if_neg hx]; exact H.hd x
 . rw [li]
   rw [l8] at hv
   by_cases hx:x = u
   . rw [if_pos hx] at hv; exact .inl (Option.some.inj hv).symm
   . rw [if_neg hx] at hv; exact .inr (H.key x v hv)
noncomputable def mv (g k z:Str):Str:=if z = g then k else z
theorem a8m (g k z:Str):mv g k (mv g k z) = mv g k z:=by
 unfold mv
 by_cases h:z = g
 . rw [if_pos h]; split <;> rfl
 . rw [if_neg h,if_neg h]
theorem HeadsOk.step {m m':List (Str × Str)} {h:Str -> Str} (H:HeadsOk m h) {u v:Str} (hu:(lkS m u).isSome = true) (hv:(lkS m v).isSome = true) (hm:∀ x,lkS m' x = (lkS m x).map (mv (h v) (h u))):HeadsOk m' (jq h [("is" : Str),u,v]):=by
 have val:∀ {y:Str},(lkS m y).isSome = true -> lkS m y = some (h y):=fun {y} hy=>by
   obtain ⟨z,hz⟩:=Option.isSome_iff_exists.mp hy
   rw [hz,<- H.hd]
   unfold hdS
   rw [hz]; rfl
 have e:∀ x,jq h [("is" : Str),u,v] x = mv (h v) (h u) (h x):=fun x=>by
   unfold jq
   rw [if_pos (show ([("is" : Str),u,v].getD 0 "") = "is" from rfl)]
   rfl
 refine ⟨fun x=>?_,fun x z hz=>?_⟩
 . rw [e]
   unfold hdS
   rw [hm]
   cases hx:lkS m x with
   | some z =>
     have:=val (y:=x) (by rw [hx]; rfl)
     rw [hx] at this
     rw [Option.some.inj this]; rfl
   | none =>
     have hxx:h x = x:=by rw [<- H.hd]; unfold hdS; rw [hx]; rfl
     show x = mv (h v) (h u) (h x)
     unfold mv
     rw [hxx,if_neg]
     intro z
     have:=H.key v (h v) (val hv)
     rw [<- z,hx] at this
     cases this
 . rw [hm] at hz
   cases hx:lkS m x with
   | none=>rw [hx] at hz; cases hz
   | some y =>
     rw [hx] at hz
     have hz':mv (h v) (h u) y = z:=Option.some.inj hz
     have k:(lkS m z).isSome = true:=by
       rw [<- hz']
       unfold mv
       split
       . exact H.key u (h u) (val hu)
       . exact H.key x y hx
     rw [hm,Option.isSome_map]; exact k
end Kn
namespace K23
open PySem PySem.Spec L2 Mir Kn
noncomputable abbrev m9:Stmt:=top 2
theorem ci {X:Cx} {K:PySem.W.Frag} {e:Expr} {fl:Str} {pos:Pos} {ta:TE} (h:X.K = K) (he:QE X e ta) (hb:autoParam (attributeBase e fl X.env (eval e X.env) = eval e X.env) L2.a2_):QE X (.Attribute e fl pos) (tFld K ta fl):=by subst h; exact a75 he hb
theorem j8 {X:Cx} {K:PySem.W.Frag} {o value:Expr} {fl:Str} {pos pos':Pos} {ta tv:TE} (h:X.K = K) (ha:QE X o ta) (hv:QE X value tv) (hs:autoParam (swapsWith value (some (.Attribute o fl pos')) pos.line X.env = pure false) L2.a2_):QS X (.Assign [.Attribute o fl pos'] value pos) (sFld K ta tv fl):=by subst h; exact a7w ha hv hs
inductive spHeadsOfS (K:PySem.W.Frag) (vs:List V) (H:Hp) (Q:VK):Prop
 | mk (fl:Addr) (F:List (List Str)) (h0:vs = [.ref fl]) (h1:RowsAt K H fl F) (h2:F.length <= 100) (h3:(∀ r ∈ F,cm r)) (h4:∀ hd hm H',Same H H' -> H hd = none -> H' hd = some (.dK (dS hm)) -> hm.length <= 2 * F.length -> HeadsOk hm (ap F) -> Q (.ref hd) H'):spHeadsOfS K vs H Q
noncomputable def qh (K:PySem.W.Frag):Sp:=fun vs H Q _=>spHeadsOfS K vs H Q
noncomputable def tDef (K:PySem.W.Frag) (i j:Nat):TS:=fun D σ H => ∃ (hd b:Addr) (r:List Str) (u:Str) (hm:List (Str × Str)) (h:Str -> Str),σ[1]? = some (some (.ref hd)) /\ σ[2]? = some (some (.ref b)) /\ RowAt K H b r /\ r[j]? = some u /\ H hd = some (.dK (dS hm)) /\ hm.length <= 1000 /\ HeadsOk hm h /\
 ∀ hm' H',Kp (· = hd) H H' -> H' hd = some (.dK (dS hm')) -> hm'.length <= hm.length + 1 -> HeadsOk hm' h -> (lkS hm' u).isSome = true -> (∀ x,(lkS hm x).isSome = true -> (lkS hm' x).isSome = true) -> D.nx (σ.set i (some (.str (h u)))) H'
theorem rg {K:PySem.W.Frag} (i j:Nat) (D:Ends) (σ:St) (H:Hp) (hh:tDef K i j D σ H) :
   tAsg (xp (tVar 1) (tOp (rIxT K) (tVar 2) (tC (.int (j:Int)))) (tOp (rIxT K) (tVar 2) (tC (.int (j:Int))))) (bh i) D σ H:=by
 obtain ⟨hd,b,r,u,hm,h,h1,h2,hR,hu,hD,hl,hok,go⟩:=hh
 have hat:atI (r.map V.str) (j:Int) = some (.str u):=ie (by rw [List.getElem?_map,hu]; rfl)
 refine ⟨_,h1,hd,rfl,.inl ⟨_,.inl hD⟩,_,h2,b,_,_,.str u,rfl,rfl,hR,hat,_,h2,b,_,_,.str u,rfl,rfl,hR,hat,dS hm,Sum.inr u,hD,rfl,?_,fun v hv=>?_,fun hn=>?_⟩
 . unfold dS; rw [List.length_map]; exact Nat.lt_of_le_of_lt hl (by decide)
 . rw [jd] at hv
   cases hz:lkS hm u with
   | none=>rw [hz] at hv; cases hv
   | some z =>
     rw [hz] at hv
     have e:v = .str z:=(Option.some.inj hv).symm
     have e2:h u = z:=by rw [<- hok.hd]; unfold hdS; rw [hz]; rfl
     have:=go hm H (fun _ _ z _=>z) hD (by lia) hok (by rw [hz]; rfl) (fun _ z=>z)
     rw [e2] at this
     rw [e]
     exact this
 . rw [jd] at hn
   have hz:lkS hm u = none:=by
     cases hz:lkS hm u with
     | none=>rfl
     | some z=>rw [hz] at hn; cases hn
   obtain ⟨h1,h2⟩:=hok.dflt hz
   rw [wz]
   have:=go (putS hm u u) _ (fun b o q n=>by rw [ag n]; exact q) aa (a3i _ _ _) h1 (by rw [li]; exact .inl rfl) (fun x hx=>by rw [li]; exact .inr hx)
   rw [h2] at this
   exact this
section
variable {P:Program} {w:World} {K:PySem.W.Frag} {mg:Str -> Option Value} {base:Heap} {f:Addr} {fd:FuncData}
theorem scHeadsOf:FnScope ["facts", "heads", "fact", "kept", "gone", "name"] ["facts"] (ao m9):=⟨rfl,rfl,rfl,by decide +kernel,rfl,by decide +kernel,by decide +kernel⟩
theorem yf (C:Con K mg w) (F:Fun K "heads_of" "heads_of" m9 f fd):FnOk P w K mg base CX0 1 f fd ["facts"] (qh K):=by
 refine F.okQ scHeadsOf (fun vs H Q E h=>?_) (fun cdv A outer s0 H vs Q E hr h=>?_)
 . obtain ⟨fl,F,rfl,_⟩:=h; rfl
 obtain ⟨fl,Fs,rfl,hF,hl,hrow,q⟩:=h
 have nd:=scHeadsOf.nd
 have hu1:=df hr
 refine ⟨_,ac (ak (i:=1) nd rfl (Or.inl rfl) j6)
   (ac (bg PassesOwn.never rfl (b8 (K:=K) rfl (qv 0)) (au (i:=2) nd rfl (Or.inl rfl)) (ah (bf (ar bw (ai (ixTk (K:=K) rfl) (qv 2) ad (fun _ _=>rfl)) bt (aq _)) (ac (fb (t':=tDef K 3 1) (ak (i:=3) nd rfl (Or.inl rfl) (o9 (qv 1) (ai (ixTk (K:=K) rfl) (qv 2) ad (fun _ _=>rfl)) (ai (ixTk (K:=K) rfl) (qv 2) ad (fun _ _=>rfl)))) (rg 3 1))
   (ac (fb (t':=tDef K 4 2) (ak (i:=4) nd rfl (Or.inl rfl) (o9 (qv 1) (ai (ixTk (K:=K) rfl) (qv 2) ad (fun _ _=>rfl)) (ai (ixTk (K:=K) rfl) (qv 2) ad (fun _ _=>rfl)))) (rg 4 2))
   (ah (bg PassesOwn.never rfl (b8 (K:=K) rfl (cf (ldSk rfl) rfl C.list PyProof.Rows.boot_list (af (qv 1) ab))) (au (i:=5) nd rfl (Or.inl rfl)) (ah (bf (ar bw (cg hu1 (qv 1) (qv 5) (fun _ _=>rfl)) (qv 4) (aq _)) (ah (fc hu1 (qv 1) (qv 5) (qv 3))) bc)))))) bc)))
   (ah (aw (qv 1)))),?_⟩
 intro hd hhd
 have s1:=ae hhd (.dK (dS []))
 obtain ⟨fas,hfl,hfp⟩:=hF
 have hfal:=Paired.length hfp
 refine ⟨_,rfl,fl,rfl,⟨_,SqL.of (s1 _ _ hfl)⟩,?_⟩
 refine bj (xs:=fas.map V.ref) (fun i σ H'=>Same H H' /\ Ex5 fun (hm:List (Str × Str)) (z2 z3 z4 z5:Option V)=>And4 (H' hd = some (.dK (dS hm))) (hm.length <= 2 * i) (HeadsOk hm (ap (Fs.take i))) (σ = [some (.ref fl),some (.ref hd),z2,z3,z4,z5]))
   ⟨s1,[],none,none,none,none,aa,Nat.zero_le _,HeadsOk.start,rfl⟩ (fun i σ H' _ p=>SqL.of (p.1 _ _ hfl)) ?_ ?_
 . rintro i x σ H' hi ⟨e,hm,z2,z3,z4,z5,hD,hml,hok,rfl⟩
   obtain ⟨b,hb,rfl⟩:=ee hi
   obtain ⟨r,hr1,hr2⟩:=Paired.nth hfp hb
   have hil:i < Fs.length:=(List.getElem?_eq_some_iff.mp hr1).1
   obtain ⟨k,u,v,rfl,hk⟩:=hrow r (List.mem_of_getElem? hr1)
   have hR:=hr2.same e
   have htk:Fs.take (i + 1) = Fs.take i ++ [[k,u,v]]:=by rw [List.take_add_one,hr1]; rfl
   refine ⟨_,rfl,b,_,0,.str k,rfl,rfl,hR,rfl,rfl,_,rfl,iteB (fun c=>?_) (fun c=>?_)⟩
   . have hk':k = "is" := by simpa using c
     subst hk'
     have kr:∀ {H2:Hp},Kp (· = hd) H' H2 -> ∀ {b':Addr} {r:List Str},RowAt K H' b' r -> RowAt K H2 b' r:=fun {H2} kp {b' r} hb'=>by
       rcases hb' with (z | ⟨o,z⟩) | z
       . exact .inl (.inl (kp _ _ z fun y=>by have y':b' = hd:=y; rw [y',hD] at z; cases z))
       . exact .inl (.inr ⟨o,kp _ _ z fun y=>by have y':b' = hd:=y; rw [y',hD] at z; cases z⟩)
       . exact .inr z
     refine ⟨hd,b,_,u,hm,_,rfl,rfl,hR,rfl,hD,by lia,hok,fun hm1 H1 k1 hD1 hl1 ok1 hu1' hsub1=>?_⟩
     refine ⟨hd,b,_,v,hm1,_,rfl,rfl,kr k1 hR,rfl,hD1,by lia,ok1,fun hm2 H2 k2 hD2 hl2 ok2 hv2 hsub2=>?_⟩
     have k02:Kp (· = hd) H' H2:=fun b o q n=>k2 b o (k1 b o q n) n
     have hR2:=kr k02 hR
     refine ⟨_,rfl,hd,_,rfl,hD2,fun lk hlk=>?_⟩
     have ek:((dS hm2).map fun kv=>kV kv.1) = (hm2.map (·.1)).map V.str:=by unfold dS; rw [List.map_map,List.map_map]; rfl
     rw [ek]
     have s3:=ae hlk (.lst ((hm2.map (·.1)).map V.str))
     have hlkd:lk ≠ hd:=Ne.symm (az hD2 hlk)
     have hl2':hm2.length <= 2 * (i + 1):=by lia
     have lk0:H lk = none:=by
       cases q:H lk with
       | none=>rfl
       | some o =>
         have:=k02 lk o (e _ _ q) (fun z=>hlkd z)
         rw [hlk] at this; cases this
     have val:∀ {y:Str},(lkS hm2 y).isSome = true -> lkS hm2 y = some (ap (Fs.take i) y):=fun {y} hy=>by
       obtain ⟨z,hz⟩:=Option.isSome_iff_exists.mp hy
       rw [hz,<- ok2.hd]
       unfold hdS
       rw [hz]; rfl
     generalize hg:ap (Fs.take i) v = gone at *
     generalize hkp:ap (Fs.take i) u = kept at *
     refine ⟨lk,rfl,⟨_,SqL.of aa⟩,?_⟩
     have hkeep:∀ {Hx:Hp},Kp (· = hd) (upd H2 lk (.lst ((hm2.map (·.1)).map V.str))) Hx -> Same H Hx:=fun {Hx} kp b' o' q=>kp b' o' (s3 _ _ (k02 _ _ (e _ _ q) fun z=>by have z':b' = hd:=z; rw [z',hhd] at q; cases q)) fun z=>by have z':b' = hd:=z; rw [z',hhd] at q; cases q
     refine bj (xs:=(hm2.map (·.1)).map V.str) (fun j σ H3=>Kp (· = hd) (upd H2 lk (.lst ((hm2.map (·.1)).map V.str))) H3 /\ Ex2 fun (hm3:List (Str × Str)) (z5:Option V)=>And4 (H3 hd = some (.dK (dS hm3))) (hm3.length <= hm2.length) ((∀ x,lkS hm3 x = if x ∈ (hm2.map (·.1)).take j then (lkS hm2 x).map (mv gone kept) else lkS hm2 x)) (σ = [some (.ref fl),some (.ref hd),some (.ref b),some (.str kept),some (.str gone),z5]))
       ⟨fun _ _ q _=>q,hm2,z5,by rw [ag (Ne.symm hlkd)]; exact hD2,Nat.le_refl _,fun x=>by simp,rfl⟩ (fun j σ H3 _ p=>SqL.of (p.1 _ _ aa fun z=>hlkd z)) ?_ ?_
     . rintro j x σ H3 hj ⟨k3,hm3,z5',hD3,hl3,hlk3,rfl⟩
       obtain ⟨nm,hnm,rfl⟩:∃ nm,(hm2.map (·.1))[j]? = some nm /\ x = .str nm:=by
         rw [List.getElem?_map] at hj
         cases hz:(hm2.map (·.1))[j]? with
         | none=>rw [hz] at hj; cases hj
         | some nm=>rw [hz] at hj; exact ⟨nm,rfl,(Option.some.inj hj).symm⟩
       have hin:(lkS hm2 nm).isSome = true:=lkS_mem.mpr (List.mem_of_getElem? hnm)
       obtain ⟨z0,hz0⟩:=Option.isSome_iff_exists.mp hin
       obtain ⟨wv,hwv,hwm⟩:∃ wv,lkS hm3 nm = some wv /\ mv gone kept wv = mv gone kept z0:=by
         have:=hlk3 nm
         rw [hz0] at this
         by_cases hm:nm ∈ (hm2.map (·.1)).take j
         . rw [if_pos hm] at this
           exact ⟨_,this,a8m _ _ _⟩
         . rw [if_neg hm] at this
           exact ⟨_,this,rfl⟩
       have htk2:∀ x,x ∈ (hm2.map (·.1)).take (j + 1) ↔ x ∈ (hm2.map (·.1)).take j \/ x = nm:=fun x=>by
         rw [List.take_add_one,hnm,List.mem_append]; simp
       have gv:DGet H3 hd (.str nm) (some (.str wv)):=by
         have g:=DGet.k (k:=Sum.inr nm) hD3
         rw [jd,hwv] at g
         exact g
       refine ⟨_,rfl,_,rfl,hd,.str wv,rfl,gv,_,rfl,rfl,_,rfl,iteB (fun c=>?_) (fun c=>?_)⟩
       . have hc:wv = gone:=by simpa using c
         refine ⟨_,rfl,_,rfl,_,rfl,hd,_,rfl,DPut.k (k:=Sum.inr nm) hD3 ?_,?_⟩
         . unfold dS; rw [List.length_map]; exact Nat.lt_of_le_of_lt (show hm3.length <= 1000 by lia) (by decide)
         rw [wz]
         have hpl:(putS hm3 nm kept).length <= hm3.length:=by
           unfold putS
           rw [if_pos,List.length_map]
           . exact Nat.le_refl _
           . have:=lkS_mem.mp (show (lkS hm3 nm).isSome = true by rw [hwv]; rfl)
             obtain ⟨p,hp,e⟩:=List.mem_map.mp this
             exact List.any_eq_true.mpr ⟨p,hp,by simpa using e⟩
         refine ⟨fun b' o' q n=>by rw [ag n]; exact k3 b' o' q n,putS hm3 nm kept,_,aa,by lia,fun x=>?_,rfl⟩
         rw [l8]
         by_cases hx:x = nm
         . rw [if_pos hx,if_pos ((htk2 x).mpr (.inr hx)),hx,hz0]
           show some kept = some (mv gone kept z0)
           rw [<- hwm,hc]
           unfold mv
           rw [if_pos rfl]
         . rw [if_neg hx,hlk3 x]
           by_cases hm:x ∈ (hm2.map (·.1)).take j
           . rw [if_pos hm,if_pos ((htk2 x).mpr (.inl hm))]
           . rw [if_neg hm,if_neg fun z=>((htk2 x).mp z).elim hm hx]
       . have hc:¬ wv = gone:=by simpa using c
         refine ⟨k3,hm3,_,hD3,hl3,fun x=>?_,rfl⟩
         by_cases hx:x = nm
         . rw [if_pos ((htk2 x).mpr (.inr hx)),hx,hwv,hz0]
           show some wv = some (mv gone kept z0)
           rw [<- hwm]
           unfold mv
           rw [if_neg hc]
         . rw [hlk3 x]
           by_cases hm:x ∈ (hm2.map (·.1)).take j
           . rw [if_pos hm,if_pos ((htk2 x).mpr (.inl hm))]
           . rw [if_neg hm,if_neg fun z=>((htk2 x).mp z).elim hm hx]
     rintro σ H3 ⟨k3,hm3,z5',hD3,hl3,hlk3,rfl⟩
     rw [List.length_map,List.take_length] at hlk3
     have hall:∀ x,lkS hm3 x = (lkS hm2 x).map (mv gone kept):=fun x=>by
       rw [hlk3 x]
       by_cases hm:x ∈ hm2.map (·.1)
       . rw [if_pos hm]
       . rw [if_neg hm]
         cases hz:lkS hm2 x with
         | none=>rfl
         | some z=>exact absurd (lkS_mem.mp (show (lkS hm2 x).isSome = true by rw [hz]; rfl)) hm
     refine ⟨hkeep k3,hm3,_,_,_,_,hD3,by lia,?_,rfl⟩
     rw [htk,jk]
     exact ok2.step (hsub2 u hu1') hv2 (by rw [hg,hkp]; exact hall)
   . have hne:¬ k = "is" := by simpa using c
     refine ⟨e,hm,_,_,_,_,hD,by lia,?_,rfl⟩
     rw [htk,jk]
     unfold jq
     rw [if_neg (show ¬ ([k,u,v].getD 0 "") = "is" from hne)]
     exact hok
 rintro σ H' ⟨e,hm,z2,z3,z4,z5,hD,hml,hok,rfl⟩
 rw [List.length_map,hfal] at hml hok
 rw [List.take_length] at hok
 exact ⟨_,rfl,q hd hm H' e hhd hD hml hok⟩
end
noncomputable abbrev ya:Stmt:=fm (top 4) 0
noncomputable abbrev yp:Stmt:=fm (top 4) 1
noncomputable abbrev sx:Stmt:=fm (top 4) 2
noncomputable abbrev ou:Stmt:=fm (top 4) 3
noncomputable abbrev ui:Stmt:=fm (top 4) 4
noncomputable abbrev ly:Stmt:=fm (top 4) 5
noncomputable abbrev k9:Stmt:=fm (top 4) 6
noncomputable abbrev si:Stmt:=fm (top 4) 7
noncomputable abbrev ud:Stmt:=fm (top 4) 8
noncomputable def qm:List Str:=["__init__", "head", "alike", "unlike", "tell_unlike", "is_empty", "must_be_full", "find_fulls", "tell_full", "clashing", "shares_place", "open_ends", "number_at"]
structure Txt (K:PySem.W.Frag) (mg:Str -> Option Value) (C fI:Addr):Prop where
 cl:Cls K C
 nP:NoAttr K C "parts"
 nH:NoAttr K C "heads"
 nU:NoAttr K C "unlikes"
 nF:NoAttr K C "fulls"
 nE:NoAttr K C "not_empty"
 mgC:mg "Knowledge" = some (.ref C)
 mkC:Mk K C fI
structure MCal (K:PySem.W.Frag) (C:Addr) (m:Str) (f:Addr) (fd:FuncData) (ps:List Str):Prop where
 meth:Meth K C m f
 bind:Binds K fd ps []
structure KFs (fs:List (Str × V)) (pl hd un fu:Addr):Prop where
 parts:fs.lookup ("parts" : Str) = some (.ref pl)
 heads:fs.lookup ("heads" : Str) = some (.ref hd)
 unlikes:fs.lookup ("unlikes" : Str) = some (.ref un)
 fulls:fs.lookup ("fulls" : Str) = some (.ref fu)
 len:fs.length < 100
 meth:∀ m ∈ qm,fs.lookup m = none
structure KnAt (C:Addr) (H:Hp) (p pl hd un fu:Addr) (hm:List (Str × Str)) (uk:List (List Key × V)):Prop where
 ob:∃ dx fs,H p = some (.ins C dx fs) /\ KFs fs pl hd un fu
 hds:H hd = some (.dK (dS hm))
 uns:H un = some (.dT uk)
theorem KnAt.same {C:Addr} {H H':Hp} {p pl hd un fu:Addr} {hm:List (Str × Str)} {uk:List (List Key × V)} (h:KnAt C H p pl hd un fu hm uk) (e:Same H H'):KnAt C H' p pl hd un fu hm uk:=by
 obtain ⟨⟨dx,fs,h1,h2⟩,h3,h4⟩:=h
 exact ⟨⟨dx,fs,e _ _ h1,h2⟩,e _ _ h3,e _ _ h4⟩
noncomputable def put2 (uk:List (List Key × V)) (a b:Str):List (List Key × V):=putK (putK uk [Sum.inr a,Sum.inr b] (.bl true)) [Sum.inr b,Sum.inr a] (.bl true)
theorem KnAt.tell {C:Addr} {H H':Hp} {p pl hd un fu:Addr} {hm:List (Str × Str)} {uk uk':List (List Key × V)} (h:KnAt C H p pl hd un fu hm uk) (e:Kp (· = un) H H') (hu:H' un = some (.dT uk')):KnAt C H' p pl hd un fu hm uk':=by
 obtain ⟨⟨dx,fs,h1,h2⟩,h3,h4⟩:=h
 have n1:p ≠ un:=i9 h1 h4 (fun z=>nomatch z)
 have n2:hd ≠ un:=i9 h3 h4 (fun z=>nomatch z)
 exact ⟨⟨dx,fs,e _ _ h1 n1,h2⟩,e _ _ h3 n2,hu⟩
inductive spHeadS (C:Addr) (vs:List V) (H:Hp) (Q:VK):Prop
 | mk (p pl hd un fu:Addr) (hm:List (Str × Str)) (uk:List (List Key × V)) (x:Str) (h0:vs = [.ref p,.str x]) (h1:KnAt C H p pl hd un fu hm uk) (h2:Q (.str (hdS hm x)) H):spHeadS C vs H Q
noncomputable def jv (C:Addr):Sp:=fun vs H Q _=>spHeadS C vs H Q
inductive spAlikeS (C:Addr) (vs:List V) (H:Hp) (Q:VK):Prop
 | mk (p pl hd un fu:Addr) (hm:List (Str × Str)) (uk:List (List Key × V)) (x y:Str) (h0:vs = [.ref p,.str x,.str y]) (h1:KnAt C H p pl hd un fu hm uk) (h2:Q (.bl (decide (hdS hm x = hdS hm y))) H):spAlikeS C vs H Q
noncomputable def wp (C:Addr):Sp:=fun vs H Q _=>spAlikeS C vs H Q
inductive spUnlikeS (C:Addr) (vs:List V) (H:Hp) (Q:VK):Prop
 | mk (p pl hd un fu:Addr) (hm:List (Str × Str)) (uk:List (List Key × V)) (x y:Str) (h0:vs = [.ref p,.str x,.str y]) (h1:KnAt C H p pl hd un fu hm uk) (h2:∀ H',Same H H' -> Q (.bl (valV uk [Sum.inr (hdS hm x),Sum.inr (hdS hm y)]).isSome) H'):spUnlikeS C vs H Q
noncomputable def u3 (C:Addr):Sp:=fun vs H Q _=>spUnlikeS C vs H Q
inductive spTellUS (C:Addr) (vs:List V) (H:Hp) (Q:VK):Prop
 | mk (p pl hd un fu:Addr) (hm:List (Str × Str)) (uk:List (List Key × V)) (x y:Str) (h0:vs = [.ref p,.str x,.str y]) (h1:KnAt C H p pl hd un fu hm uk) (h2:uk.length <= 900) (h3:∀ H',Kp (· = un) H H' -> H' un = some (.dT (put2 uk (hdS hm x) (hdS hm y))) -> Q .non H'):spTellUS C vs H Q
noncomputable def p7 (C:Addr):Sp:=fun vs H Q _=>spTellUS C vs H Q
noncomputable def zi (p:List Key × V):Prop := ∃ a b:Str,p.1 = [Sum.inr a,Sum.inr b]
section
variable {P:Program} {w:World} {K:PySem.W.Frag} {mg:Str -> Option Value} {base:Heap} {f C fI gH:Addr} {fd dH:FuncData}
theorem a7g:FnScope ["self", "word"] ["self", "word"] (ao yp):=⟨rfl,rfl,rfl,by decide +kernel,rfl,by decide +kernel,by decide +kernel⟩
theorem a5y (T:Txt K mg C fI) (F:Fun K "head" "Knowledge.head" yp f fd):FnOk P w K mg base CX0 1 f fd ["self", "word"] (jv C):=by
 refine F.okQ a7g (fun vs H Q E h=>?_) (fun cdv A outer s0 H vs Q E hr h=>?_)
 . obtain ⟨p,pl,hd,un,fu,hm,uk,x,rfl,_⟩:=h; rfl
 obtain ⟨p,pl,hd,un,fu,hm,uk,x,rfl,hK,q⟩:=h
 have hu1:=df hr
 obtain ⟨⟨dx,fs,h1,h2⟩,h3,h4⟩:=hK
 refine ⟨_,(ah (aw (lu hu1 (ci (K:=K) rfl (qv 0)) (qv 1) (qv 1)))),?_⟩
 have g:=DGet.k (k:=Sum.inr x) h3
 rw [jd] at g
 refine ⟨_,rfl,p,C,dx,fs,.ref hd,rfl,h1,T.cl,T.nH,h2.heads,hd,rfl,.inl ⟨_,.inl h3⟩,_,rfl,_,rfl,_,g,?_⟩
 have e:(((lkS hm x).map V.str).getD (.str x)) = .str (hdS hm x):=by
   unfold hdS
   cases lkS hm x <;> rfl
 rw [e]
 exact q
theorem a6l:FnScope ["self", "one", "other"] ["self", "one", "other"] (ao sx):=⟨rfl,rfl,rfl,by decide +kernel,rfl,by decide +kernel,by decide +kernel⟩
theorem a2k (T:Txt K mg C fI) (F:Fun K "alike" "Knowledge.alike" sx f fd) (GH:FnOk P w K mg base CX0 1 gH dH ["self", "word"] (jv C)) (cH:MCal K C "head" gH dH ["self", "word"]):FnOk P w K mg base CX0 2 f fd ["self", "one", "other"] (wp C):=by
 refine F.okQ a6l (fun vs H Q E h=>?_) (fun cdv A outer s0 H vs Q E hr h=>?_)
 . obtain ⟨p,pl,hd,un,fu,hm,uk,x,y,rfl,_⟩:=h; rfl
 obtain ⟨p,pl,hd,un,fu,hm,uk,x,y,rfl,hK,q⟩:=h
 obtain ⟨dx,fs,h1,h2⟩:=hK.ob
 have nh:=h2.meth "head" (by decide +kernel)
 refine ⟨_,(ah (aw (dl bw (c7 (qv 0) T.cl cH.meth GH hr cH.bind .nil av (af (qv 1) ab)) (c7 (qv 0) T.cl cH.meth GH hr cH.bind .nil av (af (qv 2) ab)) (aq _)))),?_⟩
 refine ⟨_,rfl,p,dx,fs,rfl,h1,nh,_,rfl,p,pl,hd,un,fu,hm,uk,x,rfl,hK,_,rfl,p,dx,fs,rfl,h1,nh,_,rfl,p,pl,hd,un,fu,hm,uk,y,rfl,hK,rfl,?_⟩
 have e:decide (V.str (hdS hm x) = V.str (hdS hm y)) = decide (hdS hm x = hdS hm y):=by simp
 rw [e]
 exact q
theorem a3j:FnScope ["self", "one", "other"] ["self", "one", "other"] (ao ou):=⟨rfl,rfl,rfl,by decide +kernel,rfl,by decide +kernel,by decide +kernel⟩
theorem zu (T:Txt K mg C fI) (F:Fun K "unlike" "Knowledge.unlike" ou f fd) (GH:FnOk P w K mg base CX0 1 gH dH ["self", "word"] (jv C)) (cH:MCal K C "head" gH dH ["self", "word"]):FnOk P w K mg base CX0 2 f fd ["self", "one", "other"] (u3 C):=by
 refine F.okQ a3j (fun vs H Q E h=>?_) (fun cdv A outer s0 H vs Q E hr h=>?_)
 . obtain ⟨p,pl,hd,un,fu,hm,uk,x,y,rfl,_⟩:=h; rfl
 obtain ⟨p,pl,hd,un,fu,hm,uk,x,y,rfl,hK,q⟩:=h
 have hu1:=df hr
 obtain ⟨dx,fs,h1,h2⟩:=hK.ob
 have nh:=h2.meth "head" (by decide +kernel)
 refine ⟨_,(ah (aw (u4 hu1 (br (bv (c7 (qv 0) T.cl cH.meth GH hr cH.bind .nil av (af (qv 1) ab)) (bv (c7 (qv 0) T.cl cH.meth GH hr cH.bind .nil av (af (qv 2) ab)) ab))) (ci (K:=K) rfl (qv 0))))),?_⟩
 refine ⟨_,rfl,p,dx,fs,rfl,h1,nh,_,rfl,p,pl,hd,un,fu,hm,uk,x,rfl,hK,_,rfl,p,dx,fs,rfl,h1,nh,_,rfl,p,pl,hd,un,fu,hm,uk,y,rfl,hK,(show 2 <= sizeLine by decide),fun t ht=>?_⟩
 have s1:=ae ht (.tup [.str (hdS hm x),.str (hdS hm y)])
 refine ⟨_,rfl,p,C,dx,fs,.ref un,rfl,s1 _ _ h1,T.cl,T.nU,h2.unlikes,un,_,rfl,DGet.t (k:=[Sum.inr (hdS hm x),Sum.inr (hdS hm y)]) (s1 _ _ hK.uns) aa,?_⟩
 exact q _ s1
theorem a5d:FnScope ["self", "one", "other"] ["self", "one", "other"] (ao ui):=⟨rfl,rfl,rfl,by decide +kernel,rfl,by decide +kernel,by decide +kernel⟩
theorem a47 (T:Txt K mg C fI) (F:Fun K "tell_unlike" "Knowledge.tell_unlike" ui f fd) (GH:FnOk P w K mg base CX0 1 gH dH ["self", "word"] (jv C)) (cH:MCal K C "head" gH dH ["self", "word"]):FnOk P w K mg base CX0 2 f fd ["self", "one", "other"] (p7 C):=by
 refine F.okQ a5d (fun vs H Q E h=>?_) (fun cdv A outer s0 H vs Q E hr h=>?_)
 . obtain ⟨p,pl,hd,un,fu,hm,uk,x,y,rfl,_⟩:=h; rfl
 obtain ⟨p,pl,hd,un,fu,hm,uk,x,y,rfl,hK,hl,q⟩:=h
 have hu1:=df hr
 obtain ⟨dx,fs,h1,h2⟩:=hK.ob
 have nh:=h2.meth "head" (by decide +kernel)
 refine ⟨_,ac (fc hu1 (ci (K:=K) rfl (qv 0)) (br (bv (c7 (qv 0) T.cl cH.meth GH hr cH.bind .nil av (af (qv 1) ab)) (bv (c7 (qv 0) T.cl cH.meth GH hr cH.bind .nil av (af (qv 2) ab)) ab))) dg)
   (ah (fc hu1 (ci (K:=K) rfl (qv 0)) (br (bv (c7 (qv 0) T.cl cH.meth GH hr cH.bind .nil av (af (qv 2) ab)) (bv (c7 (qv 0) T.cl cH.meth GH hr cH.bind .nil av (af (qv 1) ab)) ab))) dg)),?_⟩
 have hlen:∀ {n:Nat},n <= 1000 -> n < sizeLine:=fun h=>Nat.lt_of_le_of_lt h (by decide)
 have np:p ≠ un:=i9 h1 hK.uns (fun z=>nomatch z)
 refine ⟨_,rfl,p,C,dx,fs,.ref un,rfl,h1,T.cl,T.nU,h2.unlikes,_,rfl,p,dx,fs,rfl,h1,nh,_,rfl,p,pl,hd,un,fu,hm,uk,x,rfl,hK,_,rfl,p,dx,fs,rfl,h1,nh,_,rfl,p,pl,hd,un,fu,hm,uk,y,rfl,hK,(show 2 <= sizeLine by decide),fun t ht=>?_⟩
 have s1:=ae ht (.tup [.str (hdS hm x),.str (hdS hm y)])
 have htu:t ≠ un:=Ne.symm (az hK.uns ht)
 refine ⟨un,_,rfl,DPut.t (k:=[Sum.inr (hdS hm x),Sum.inr (hdS hm y)]) (s1 _ _ hK.uns) aa (hlen (by lia)),?_⟩
 have k1:Kp (· = un) H (upd (upd H t (.tup [.str (hdS hm x),.str (hdS hm y)])) un (.dT (putK uk [Sum.inr (hdS hm x),Sum.inr (hdS hm y)] (.bl true)))):=fun b o hb n=>by rw [ag n]; exact s1 _ _ hb
 have hK1:=hK.tell k1 aa
 have hl1:(putK uk [Sum.inr (hdS hm x),Sum.inr (hdS hm y)] (V.bl true)).length <= uk.length + 1:=ck _ _ _
 generalize upd (upd H t (.tup [.str (hdS hm x),.str (hdS hm y)])) un (.dT (putK uk [Sum.inr (hdS hm x),Sum.inr (hdS hm y)] (.bl true))) = H1 at k1 hK1 |-
 obtain ⟨dx',fs',h1',h2'⟩:=hK1.ob
 have nh':=h2'.meth "head" (by decide +kernel)
 refine ⟨_,rfl,p,C,dx',fs',.ref un,rfl,h1',T.cl,T.nU,h2'.unlikes,_,rfl,p,dx',fs',rfl,h1',nh',_,rfl,p,pl,hd,un,fu,hm,_,y,rfl,hK1,_,rfl,p,dx',fs',rfl,h1',nh',_,rfl,p,pl,hd,un,fu,hm,_,x,rfl,hK1,(show 2 <= sizeLine by decide),fun t2 ht2=>?_⟩
 have s2:=ae ht2 (.tup [.str (hdS hm y),.str (hdS hm x)])
 refine ⟨un,_,rfl,DPut.t (k:=[Sum.inr (hdS hm y),Sum.inr (hdS hm x)]) (s2 _ _ hK1.uns) aa (hlen (by lia)),?_⟩
 exact q _ (fun b o hb n=>by rw [ag n]; exact s2 _ _ (k1 b o hb n)) aa
end
theorem ixTK {X:Cx} {K:PySem.W.Frag} (h:X.K = K):IxR X (rIxT K):=by subst h; exact ng
end K23
namespace Kn
open PySem PySem.Spec L2
noncomputable def place (p:List Str):Str:=p.getD 1 ""
noncomputable def end2 (p:List Str):Str:=if p.getD 0 "" = "stretch" then p.getD 2 "" else "nil"
noncomputable def FullR (R:Str -> Str -> Prop) (p:List Str):Prop:=p.getD 0 "" = "cell" \/ R (place p) (end2 p)
theorem FullR.mono {R S:Str -> Str -> Prop} (h:∀ a b,R a b -> S a b) {p:List Str} (f:FullR R p):FullR S p:=f.imp id (h _ _)
structure Clo (F P:List (List Str)) (R:Str -> Str -> Prop):Prop where
 fact:∀ u v,[("not" : Str),u,v] ∈ F -> R u v
 symm:∀ a b,R a b -> R b a
 conn:∀ a b c,Conn F a b -> R b c -> R a c
 nil:∀ p ∈ P,FullR R p -> R (place p) "nil"
 two:∀ (i j:Nat) p q,P[i]? = some p -> P[j]? = some q -> i ≠ j -> FullR R p -> FullR R q -> R (place p) (place q)
noncomputable def Un (F P:List (List Str)) (a b:Str):Prop := ∀ R,Clo F P R -> R a b
theorem cu (F P:List (List Str)):Clo F P (Un F P) where
 fact:=fun u v h R c=>c.fact u v h
 symm:=fun a b h R c=>c.symm a b (h R c)
 conn:=fun a b d h1 h2 R c=>c.conn a b d h1 (h2 R c)
 nil:=fun p hp hf R c=>c.nil p hp (hf.mono fun a b h=>h R c)
 two:=fun i j p q h1 h2 hn f1 f2 R c=>c.two i j p q h1 h2 hn (f1.mono fun a b h=>h R c) (f2.mono fun a b h=>h R c)
theorem Un.conn2 {F P:List (List Str)} {a b c d:Str} (h:Un F P b d) (h1:Conn F a b) (h2:Conn F c d):Un F P a c :=
 (cu F P).conn _ _ _ h1 ((cu F P).symm _ _ ((cu F P).conn _ _ _ h2 ((cu F P).symm _ _ h)))
noncomputable def Told (h:Str -> Str) (L:List (Str × Str)) (a b:Str):Prop := ∃ q ∈ L,(h a = h q.1 /\ h b = h q.2) \/ (h a = h q.2 /\ h b = h q.1)
theorem a5t {F P:List (List Str)} (hF:∀ r ∈ F,cm r) {L:List (Str × Str)} (hL:∀ q ∈ L,Un F P q.1 q.2) {a b:Str} (t:Told (ap F) L a b):Un F P a b:=by
 obtain ⟨q,hq,h⟩:=t
 rcases h with ⟨h1,h2⟩ | ⟨h1,h2⟩
 . exact (hL q hq).conn2 ((cy hF _ _).mp h1) ((cy hF _ _).mp h2)
 . exact ((cu F P).symm _ _ (hL q hq)).conn2 ((cy hF _ _).mp h1) ((cy hF _ _).mp h2)
structure AllTold (F P:List (List Str)) (L:List (Str × Str)) (Fl:List Nat):Prop where
 fact:∀ u v,[("not" : Str),u,v] ∈ F -> (u,v) ∈ L
 full:∀ (i:Nat) p,P[i]? = some p -> FullR (Told (ap F) L) p -> i ∈ Fl
 nil:∀ i ∈ Fl,∀ p,P[i]? = some p -> (place p,("nil" : Str)) ∈ L
 two:∀ i ∈ Fl,∀ j ∈ Fl,i ≠ j -> ∀ p q,P[i]? = some p -> P[j]? = some q -> (place p,place q) ∈ L \/ (place q,place p) ∈ L
structure Going (F P:List (List Str)) (L:List (Str × Str)) (Fl:List Nat):Prop where
 fact:∀ u v,[("not" : Str),u,v] ∈ F -> (u,v) ∈ L
 sound:∀ q ∈ L,Un F P q.1 q.2
 nd:Fl.Nodup
 isf:∀ i ∈ Fl,∃ p,P[i]? = some p /\ FullR (Un F P) p
 nil:∀ i ∈ Fl,∀ p,P[i]? = some p -> (place p,("nil" : Str)) ∈ L
 two:∀ i ∈ Fl,∀ j ∈ Fl,i ≠ j -> ∀ p q,P[i]? = some p -> P[j]? = some q -> (place p,place q) ∈ L \/ (place q,place p) ∈ L
noncomputable def ko (P:List (List Str)) (Fl:List Nat) (p:List Str):List (Str × Str):=(place p,("nil" : Str)) :: Fl.map fun j=>(place p,place (P.getD j []))
theorem Going.step {F P:List (List Str)} {L:List (Str × Str)} {Fl:List Nat} (G:Going F P L Fl) {i:Nat} {p:List Str} (hi:P[i]? = some p) (hf:FullR (Un F P) p) (hn:¬ i ∈ Fl):Going F P (L ++ ko P Fl p) (Fl ++ [i]):=by
 have pn:(place p,("nil" : Str)) ∈ L ++ ko P Fl p:=List.mem_append.mpr (.inr (List.mem_cons_self ..))
 have pj:∀ j ∈ Fl,∀ q,P[j]? = some q -> (place p,place q) ∈ L ++ ko P Fl p:=fun j hj q hq=>by
   refine List.mem_append.mpr (.inr (List.mem_cons_of_mem _ (List.mem_map.mpr ⟨j,hj,?_⟩)))
   rw [List.getD_eq_getElem?_getD,hq]; rfl
 refine ⟨fun u v h=>List.mem_append.mpr (.inl (G.fact u v h)),?_,?_,?_,?_,?_⟩
 . intro q hq
   rcases List.mem_append.mp hq with z | z
   . exact G.sound q z
   . rcases List.mem_cons.mp z with rfl | z
     . exact (cu F P).nil p (List.mem_of_getElem? hi) hf
     . obtain ⟨j,hj,rfl⟩:=List.mem_map.mp z
       obtain ⟨q,hq,hfq⟩:=G.isf j hj
       have e:P.getD j [] = q:=by rw [List.getD_eq_getElem?_getD,hq]; rfl
       show Un F P (place p) (place (P.getD j []))
       rw [e]
       exact (cu F P).two i j p q hi hq (fun z=>hn (z ▸ hj)) hf hfq
 . refine List.nodup_append.mpr ⟨G.nd,List.nodup_cons.mpr ⟨List.not_mem_nil,.nil⟩,fun a ha b hb e=>?_⟩
   rw [List.mem_singleton.mp hb] at e
   exact hn (e ▸ ha)
 . intro j hj
   rcases List.mem_append.mp hj with z | z
   . exact G.isf j z
   . rw [List.mem_singleton.mp z]; exact ⟨p,hi,hf⟩
 . intro j hj q hq
   rcases List.mem_append.mp hj with z | z
   . exact List.mem_append.mpr (.inl (G.nil j z q hq))
   . rw [List.mem_singleton.mp z,hi] at hq
     cases hq
     exact pn
 . intro j hj k hk hne q r hq hr
   rcases List.mem_append.mp hj with z | z
   . rcases List.mem_append.mp hk with y | y
     . exact (G.two j z k y hne q r hq hr).imp (fun w=>List.mem_append.mpr (.inl w)) (fun w=>List.mem_append.mpr (.inl w))
     . rw [List.mem_singleton.mp y,hi] at hr
       cases hr
       exact .inr (pj j z q hq)
   . rw [List.mem_singleton.mp z,hi] at hq
     cases hq
     rcases List.mem_append.mp hk with y | y
     . exact .inl (pj k y r hr)
     . exact absurd ((List.mem_singleton.mp z).trans (List.mem_singleton.mp y).symm) hne
theorem Going.done {F P:List (List Str)} {L:List (Str × Str)} {Fl:List Nat} (G:Going F P L Fl) (h:∀ (i:Nat) p,P[i]? = some p -> FullR (Told (ap F) L) p -> i ∈ Fl):AllTold F P L Fl:=⟨G.fact,h,G.nil,G.two⟩
theorem xo:∀ {l m:List Nat},l.Nodup -> (∀ x ∈ l,x ∈ m) -> l.length <= m.length
 | [],_,_,_=>Nat.zero_le _
 | x :: l,m,hn,hm=>by
   have hx:=hm x (List.mem_cons_self ..)
   obtain ⟨h1,h2⟩:=List.nodup_cons.mp hn
   have:=xo (l:=l) (m:=m.erase x) h2 fun y hy=>(List.mem_erase_of_ne (a:=y) (b:=x) (fun e=>h1 (by rw [<- e]; exact hy))).mpr (hm y (List.mem_cons_of_mem _ hy))
   rw [List.length_erase_of_mem hx] at this
   have hp:0 < m.length:=List.length_pos_of_mem hx
   rw [List.length_cons]
   lia
theorem Going.len {F P:List (List Str)} {L:List (Str × Str)} {Fl:List Nat} (G:Going F P L Fl):Fl.length <= P.length:=by
 have:=xo (m:=List.range P.length) G.nd fun i hi=>by
   obtain ⟨p,hp,_⟩:=G.isf i hi
   exact List.mem_range.mpr (List.getElem?_eq_some_iff.mp hp).1
 rw [List.length_range] at this
 exact this
end Kn
namespace L2
open PySem PySem.Spec PyProof.Rows
noncomputable def Itk (a:Addr) (od:Obj) (kvs:List (Key × V)):It where
 go:=fun i H=>H a = some (.frz od (.dK kvs)) /\ i < kvs.length
 yld:=fun i H x H'=>H' = H /\ (kvs.map fun kv=>kV kv.1)[i]? = some x
 stop:=fun i H=>H a = some (.frz od (.dK kvs)) /\ kvs.length <= i
noncomputable def a4i (od:Obj) (kvs:List (Key × V)) (es:Array DictEntry) (ep:Nat):Prop:=od.ExactDict /\ od.data = .dict es ep /\ Paired (fun (p:Key × V) (e:DictEntry)=>RelV (kV p.1) e.key) kvs es.toList
theorem a1q {P:Program} {w:World} {od:Obj} {es:Array DictEntry} {ep:Nat}:∀ {kvs:List (Key × V)} {vs:List (Key × Value)} {l:List DictEntry},KV kvs vs -> PySem.Pairs (bn P w) l vs -> Paired (fun (p:Key × V) (e:DictEntry)=>RelV (kV p.1) e.key) kvs l
 | _,_,_,.nil,.nil => .nil
 | _,_,_,.cons h t,.cons h1 h2 t2 => .cons (by rw [h.1]; exact xn h1) (a1q (od:=od) (es:=es) (ep:=ep) t t2)
theorem Paired.nthK {α β:Type} {F:α -> β -> Prop}:∀ {l₁:List α} {l₂:List β} {i:Nat} {a:α} {b:β},Paired F l₁ l₂ -> l₁[i]? = some a -> l₂[i]? = some b -> F a b
 | _,_,0,_,_,.cons h t,h1,h2=>by cases h1; cases h2; exact h
 | _,_,i + 1,_,_,.cons h t,h1,h2=>Paired.nthK (i:=i) t (by simpa using h1) (by simpa using h2)
theorem a6m {P:Program} {w:World} {K:PySem.W.Frag} {tg:Expr} {a J:Addr} {od:Obj} {kvs:List (Key × V)} {es:Array DictEntry} {ep:Nat} (hd:a4i od kvs es ep) :
   Turn P w K tg (Itk a od kvs) [J] J (fun i h=>h.IsKeyIter J a i es.size ep) where
 mem:=by simp
 obj:=fun i h st b hb=>by
   have e:b = J:=by simpa using hb
   subst e
   obtain ⟨o,h1,h2,h3⟩:=st
   exact ⟨o,h1,fun v z=>by rw [h3] at z; cases z⟩
 keep:=fun i h h' st k=>by
   obtain ⟨o,h1,h2⟩:=st
   exact ⟨o,k J (by simp) o h1,h2⟩
 item:=by
   intro X hP hw hK hc i pins s σ H E I hf st hg
   subst hP hw hK
   obtain ⟨f0,f1,f2,f3,f4,f5⟩:=hf J (by simp)
   obtain ⟨g1,g2⟩:=I.hok a _ hg.1
   have hsz:es.size = kvs.length:=by
     have:=hd.2.2.length
     rw [Array.length_toList] at this; exact this.symm
   refine jh st g1 hd.2.1 (I.ok.hd hc) (fun hn h' st' sb=>?_) (fun hn=>absurd hg.2 (by lia))
   have I1:Inv X pins σ H { s with heap:=h',toks:=s.toks }:=I.turned (fun b o hb e=>(sb.2 b hb).trans e) f0 f1 f3 f4 f5
   have hk:RelV (kV (kvs[i]'hg.2).1) es[i].key:=Paired.nthK (F:=fun (p:Key × V) (e:DictEntry)=>RelV (kV p.1) e.key) hd.2.2 (i:=i) (a:=kvs[i]'hg.2) (b:=es[i]) (List.getElem?_eq_getElem hg.2) (by rw [Array.getElem?_toList]; exact Array.getElem?_eq_getElem hn)
   refine ⟨_,rfl,letGo_keyiter st' ⟨kV (kvs[i]'hg.2).1,H,I1,hk,⟨rfl,by rw [List.getElem?_map,List.getElem?_eq_getElem hg.2]; rfl⟩,st',fun b hb=>(hf b hb).1⟩⟩
 done:=by
   intro X hP hw hK hc i pins s σ H E I hf st hg
   subst hP hw hK
   obtain ⟨f0,f1,f2,f3,f4,f5⟩:=hf J (by simp)
   obtain ⟨g1,g2⟩:=I.hok a _ hg.1
   have hsz:es.size = kvs.length:=by
     have:=hd.2.2.length
     rw [Array.length_toList] at this; exact this.symm
   exact jh st g1 hd.2.1 (I.ok.hd hc) (fun hn=>absurd hg.2 (by lia)) (fun _ h' eb=>⟨rfl,I.turned (t':=s.toks) (fun b o hb e=>eb b o hb e) f0 f1 f3 f4 f5⟩)
 self:=fun _ _ _ _ _ st h=>wpAny_pyIter_keyiter st h
noncomputable def zo (X:Cx) (tl:TE):TI:=fun σ H R=>tl σ H fun x H1 => ∃ a kvs,x = .ref a /\ H1 a = some (.dK kvs) /\ ∀ od,NF X a -> R (Itk a od kvs) (upd H1 a (.frz od (.dK kvs)))
theorem a38 {X:Cx} {tg l:Expr} {tl:TE} (hl:PE X l tl):PI X tg l (zo X tl):=by
 intro pins s σ H R I h
 refine thn (hl pins s σ H _ I h) fun v s1 zq=>?_
 obtain ⟨x,H1,I1,r1,a,kvs,ex,e,q⟩:=zq
 subst ex
 cases r1
 obtain ⟨z,hd,vs,rel,od,es,ep,h1,hc,h2,h3,h4,h5⟩:=(show ObjOk X.prog X.w H1 s1.heap a (.dK kvs) from I1.hok a _ e)
 have I2:Inv X pins σ (upd H1 a (.frz od (.dK kvs))) s1:=I1.write (x:=a) (e:=a) (h':=s1.heap) (t':=s1.toks) (by rw [e]; exact True.intro) (.inl rfl) (fun _ _ _ z=>z) ⟨od,h1⟩ ⟨h1,z,hd,vs,rel,od,es,ep,h1,hc,h2,h3,h4,h5⟩
 have ent:a4i od kvs es ep:=⟨hc,h2,a1q (od:=od) (es:=es) (ep:=ep) rel h4⟩
 refine sj hd h1 hc h2 ?_
 refine ⟨s1.heap.objs.size,[s1.heap.objs.size],_,_,upd H1 a (.frz od (.dK kvs)),rfl,I2.kept (t':=s1.toks) fun b o e=>Heap.get?_push_of_some _ e,a6m ent,⟨_,Heap.get?_push_size _ rfl,rfl,rfl⟩,fun b hb=>?_,q od (I1.nf e fun _ _ z=>nomatch z)⟩
 have e:b = s1.heap.objs.size:=by simpa using hb
 subst e
 exact I2.fpOk (Nat.le_refl _) (I2.hok.fresh (Nat.le_refl _))
theorem a2o {X:Cx} {tg l:Expr} {tl:TE} (hl:QE X l tl):QI X tg l (zo X tl):=⟨a38 hl.run⟩
noncomputable def a7f (X:Cx) (t:TS):TS:=fun D σ H=>t { D with nx:=fun σ' H' => ∃ a o u,H' a = some (.frz o u) /\ NF X a /\ D.nx σ' (upd H' a u) } σ H
theorem a5c {X:Cx} {st:Stmt} {t:TS} (h:QS X st t):QS X st (a7f X t):=⟨fun pins s σ H D I q=>thn (h.run pins s σ H _ I q) fun f s1 p=>by
 cases f with
 | next=>obtain ⟨σ',H',I',a,o,u,e,nf,q'⟩:=p; exact ⟨σ',_,I'.thaw e nf,q'⟩
 | brk=>exact p
 | cont=>exact p
 | ret u=>exact p⟩
theorem a1v {a:Addr} {od:Obj} {kvs:List (Key × V)} {g:TG} {tb:TS} {D:Ends} {σ:St} {H:Hp} (Pv:Nat -> St -> Hp -> Prop) (h0:Pv 0 σ H) (hl:∀ i σ H,i <= kvs.length -> Pv i σ H -> H a = some (.frz od (.dK kvs)))
   (hs:∀ i x σ H,(kvs.map fun kv=>kV kv.1)[i]? = some x -> Pv i σ H -> g x σ H fun σ2 H2=>tb { D with nx:=Pv (i + 1),ct:=Pv (i + 1),bk:=D.nx } σ2 H2) (hd:∀ σ H,Pv kvs.length σ H -> D.nx σ H) :
   ∃ W:Nat -> Nat -> St -> Hp -> Prop,(∃ m,W 0 m σ H) /\ ∀ i m σ H,W i m σ H ->
     ((Itk a od kvs).stop i H /\ D.nx σ H) \/ ((Itk a od kvs).go i H /\ ∃ N:St -> Hp -> Prop,(∀ σ' H',N σ' H' -> ∃ m',m' < m /\ W (i + 1) m' σ' H') /\ ∀ x H',(Itk a od kvs).yld i H x H' -> g x σ H' fun σ2 H2=>tb { D with nx:=N,ct:=N,bk:=D.nx } σ2 H2):=by
 refine ⟨fun i m σ H=>m = kvs.length - i /\ i <= kvs.length /\ Pv i σ H,⟨kvs.length,by simp,Nat.zero_le _,h0⟩,?_⟩
 rintro i m σ H ⟨rfl,hi,p⟩
 have q:=hl i σ H hi p
 by_cases hlt:i < kvs.length
 . refine .inr ⟨⟨q,hlt⟩,Pv (i + 1),fun σ' H' p'=>⟨kvs.length - (i + 1),by lia,rfl,hlt,p'⟩,fun x H' y=>?_⟩
   obtain ⟨e,y⟩:=y
   subst e
   exact hs i x σ _ y p
 . have e:i = kvs.length:=by lia
   subst e
   exact .inl ⟨⟨q,Nat.le_refl _⟩,hd σ H p⟩
open PySem.SeqAt
open AutoSeq1 (wpAny_loadPart')
open MeetsSeq MeetsSeq2 MeetsSeq3
section
variable {prog:Program} {w:World}
end
section
variable {X:Cx}
end
section
variable {X:Cx}
noncomputable def yy (_ j:Int):Prop:=0 < j /\ j <= 10 ^ 60
theorem ug:OpR X (binaryOp .FloorDiv) (rI yy fun i j => .int (i / j)):=opI fun i j _ _ _ _ _ hc q=>by
 have h1:(0:Int) < j:=hc.1
 have h2:j <= 10 ^ 60:=hc.2
 refine floordiv_int (by lia) (by rw [Int.fdiv_eq_ediv_of_nonneg i (by lia)]; exact q) (.inl (PyProof.noPylong_of_log2 ?_))
 have h3:j.natAbs < 2 ^ 200:=by
   have:(10:Int) ^ 60 < 2 ^ 200:=by decide +kernel
   lia
 have h4:j.natAbs.log2 < 200:=(Nat.log2_lt (by lia)).mpr h3
 lia
set_option autoImplicit true
set_option relaxedAutoImplicit true
theorem a2f (ho:QE X o td) (he:QE X e ty) (m:autoParam (M1 X o "pop" apos e cpos) L2.a7_):QE X (.Call (.Attribute o "pop" apos) [e] [] cpos) (a1n td ty):=⟨a2u ho.run he.run m⟩
end
end L2
namespace K23
open PySem PySem.Spec L2 Mir Kn
noncomputable abbrev ox:Stmt:=top 3
noncomputable def PartRow (r:List Str):Prop:=(∃ a f s,r = [("cell" : Str),a,f,s]) \/ (∃ a b,r = [("stretch" : Str),a,b]) \/ ∃ a,r = [("tree" : Str),a]
structure UkT (uk:List (List Key × V)) (h:Str -> Str) (L:List (Str × Str)):Prop where
 pr:∀ q ∈ uk,zi q
 len:uk.length <= 2 * L.length
 iff:∀ a b,(valV uk [Sum.inr a,Sum.inr b]).isSome = true ↔ ∃ q ∈ L,(a = h q.1 /\ b = h q.2) \/ (a = h q.2 /\ b = h q.1)
theorem UkT.told {uk:List (List Key × V)} {h:Str -> Str} {L:List (Str × Str)} (U:UkT uk h L) (a b:Str):(valV uk [Sum.inr (h a),Sum.inr (h b)]).isSome = true ↔ Told h L a b:=U.iff (h a) (h b)
theorem a1a {uk:List (List Key × V)} {a b:Str} {v:V} (h:∀ q ∈ uk,zi q):∀ q ∈ putK uk [Sum.inr a,Sum.inr b] v,zi q:=fun q hq=>by
 unfold putK at hq
 split at hq
 . obtain ⟨p,hp,rfl⟩:=List.mem_map.mp hq
   split
   . exact ⟨a,b,by assumption⟩
   . exact h p hp
 . rcases List.mem_append.mp hq with z | z
   . exact h q z
   . rw [List.mem_singleton.mp z]; exact ⟨a,b,rfl⟩
theorem UkT.step {uk:List (List Key × V)} {h:Str -> Str} {L:List (Str × Str)} (U:UkT uk h L) (u v:Str):UkT (put2 uk (h u) (h v)) h (L ++ [(u,v)]):=by
 refine ⟨a1a (a1a U.pr),?_,fun a b=>?_⟩
 . have h1:=ck uk [Sum.inr (h u),Sum.inr (h v)] (V.bl true)
   have h2:=ck (putK uk [Sum.inr (h u),Sum.inr (h v)] (V.bl true)) [Sum.inr (h v),Sum.inr (h u)] (V.bl true)
   have:=U.len
   unfold put2
   rw [List.length_append,List.length_singleton]
   lia
 . unfold put2
   rw [cx,cx]
   have e1:∀ x y z w':Str,([Sum.inr x,Sum.inr y]:List Key) = [Sum.inr z,Sum.inr w'] ↔ x = z /\ y = w':=fun x y z w'=>by simp
   constructor
   . intro hs
     by_cases c1:([Sum.inr a,Sum.inr b]:List Key) = [Sum.inr (h v),Sum.inr (h u)]
     . have:=(e1 _ _ _ _).mp c1
       exact ⟨(u,v),List.mem_append.mpr (.inr (List.mem_singleton.mpr rfl)),.inr this⟩
     . rw [if_neg c1] at hs
       by_cases c2:([Sum.inr a,Sum.inr b]:List Key) = [Sum.inr (h u),Sum.inr (h v)]
       . have:=(e1 _ _ _ _).mp c2
         exact ⟨(u,v),List.mem_append.mpr (.inr (List.mem_singleton.mpr rfl)),.inl this⟩
       . rw [if_neg c2] at hs
         obtain ⟨q,h1,h2⟩:=(U.iff a b).mp hs
         exact ⟨q,List.mem_append.mpr (.inl h1),h2⟩
   . rintro ⟨q,h1,h2⟩
     by_cases c1:([Sum.inr a,Sum.inr b]:List Key) = [Sum.inr (h v),Sum.inr (h u)]
     . rw [if_pos c1]; rfl
     . rw [if_neg c1]
       by_cases c2:([Sum.inr a,Sum.inr b]:List Key) = [Sum.inr (h u),Sum.inr (h v)]
       . rw [if_pos c2]; rfl
       . rw [if_neg c2]
         rcases List.mem_append.mp h1 with z | z
         . exact (U.iff a b).mpr ⟨q,z,h2⟩
         . have z':=List.mem_singleton.mp z
           subst z'
           rcases h2 with h2 | h2
           . exact absurd ((e1 _ _ _ _).mpr h2) c2
           . exact absurd ((e1 _ _ _ _).mpr h2) c1
noncomputable def fk (Fl:List Nat):List (Key × V):=Fl.map fun (n:Nat)=>((Sum.inl ((n:Nat):Int):Key),V.bl true)
structure KnS (K:PySem.W.Frag) (C:Addr) (H:Hp) (p pl hd un fu:Addr) (F P:List (List Str)) (L:List (Str × Str)):Prop where
 at_:∃ hm uk,KnAt C H p pl hd un fu hm uk /\ HeadsOk hm (ap F) /\ UkT uk (ap F) L
 parts:RowsAt K H pl P
 ne:hd ≠ fu
theorem KnS.same {K:PySem.W.Frag} {C:Addr} {H H':Hp} {p pl hd un fu:Addr} {F P:List (List Str)} {L:List (Str × Str)} (h:KnS K C H p pl hd un fu F P L) (e:Same H H'):KnS K C H' p pl hd un fu F P L:=by
 obtain ⟨⟨hm,uk,h1,h2⟩,h3,h4⟩:=h
 exact ⟨⟨hm,uk,h1.same e,h2⟩,h3.same e,h4⟩
inductive spEndsS (K:PySem.W.Frag) (vs:List V) (H:Hp) (Q:VK):Prop
 | mk (b:Addr) (r:List Str) (h0:vs = [.ref b]) (h1:RowAt K H b r) (h2:PartRow r) (h3:∀ t H',Same H H' -> SqT K H' t [.str (place r),.str (end2 r)] -> Q (.ref t) H'):spEndsS K vs H Q
noncomputable def tw (K:PySem.W.Frag):Sp:=fun vs H Q _=>spEndsS K vs H Q
inductive spPartS (K:PySem.W.Frag) (C:Addr) (R:List Str -> (Str -> Str) -> List (Str × Str) -> Prop) (vs:List V) (H:Hp) (Q:VK):Prop
 | mk (p pl hd un fu:Addr) (F P:List (List Str)) (L:List (Str × Str)) (n:Nat) (r:List Str) (h0:vs = [.ref p,.int (n:Int)]) (h1:KnS K C H p pl hd un fu F P L) (h2:P[n]? = some r) (h3:PartRow r) (h4:∀ (b:Bool) H',Same H H' -> (b = true ↔ R r (ap F) L) -> Q (.bl b) H'):spPartS K C R vs H Q
noncomputable def kf (K:PySem.W.Frag) (C:Addr) (R:List Str -> (Str -> Str) -> List (Str × Str) -> Prop):Sp:=fun vs H Q _=>spPartS K C R vs H Q
noncomputable def fi (r:List Str) (h:Str -> Str) (_:List (Str × Str)):Prop:=r.getD 0 "" ≠ "cell" /\ h (place r) = h (end2 r)
noncomputable def xu (r:List Str) (h:Str -> Str) (L:List (Str × Str)):Prop:=FullR (Told h L) r
theorem em {K:PySem.W.Frag} {H:Hp} {pl:Addr} {P:List (List Str)} (h:RowsAt K H pl P) {n:Nat} {r:List Str} (hn:P[n]? = some r):∃ (as:List Addr) (b:Addr),H pl = some (.lst (as.map V.ref)) /\ atI (as.map V.ref) (n:Int) = some (.ref b) /\ RowAt K H b r:=by
 obtain ⟨as,h1,h2⟩:=h
 have hl:=Paired.length h2
 have hlt:n < as.length:=by rw [hl]; exact (List.getElem?_eq_some_iff.mp hn).1
 exact ⟨as,as[n],h1,ie (by rw [List.getElem?_map,List.getElem?_eq_getElem hlt]; rfl),Paired.at2 h2 (List.getElem?_eq_getElem hlt) hn⟩
theorem PartRow.at0 {r:List Str} (h:PartRow r):atI (r.map V.str) (0:Int) = some (.str (r.getD 0 "")):=by
 rcases h with ⟨a,f,s,rfl⟩ | ⟨a,b,rfl⟩ | ⟨a,rfl⟩ <;> rfl
theorem PartRow.at1 {r:List Str} (h:PartRow r):atI (r.map V.str) (1:Int) = some (.str (place r)):=by
 rcases h with ⟨a,f,s,rfl⟩ | ⟨a,b,rfl⟩ | ⟨a,rfl⟩ <;> rfl
section
variable {P:Program} {w:World} {K:PySem.W.Frag} {mg:Str -> Option Value} {base:Heap} {f C fI gE gA:Addr} {fd dE dA:FuncData}
theorem a7z:FnScope ["part"] ["part"] (ao ox):=⟨rfl,rfl,rfl,by decide +kernel,rfl,by decide +kernel,by decide +kernel⟩
theorem a65 (F:Fun K "ends_of" "ends_of" ox f fd):FnOk P w K mg base CX0 1 f fd ["part"] (tw K):=by
 refine F.okQ a7z (fun vs H Q E h=>?_) (fun cdv A outer s0 H vs Q E hr h=>?_)
 . obtain ⟨b,r,rfl,_⟩:=h; rfl
 obtain ⟨b,r,rfl,hR,hp,q⟩:=h
 refine ⟨_,(ah (aw (a3q (ar bw (ai (ixTk (K:=K) rfl) (qv 0) ad (fun _ _=>rfl)) bt (aq _)) (br (ay (ai (ixTk (K:=K) rfl) (qv 0) ad (fun _ _=>rfl)) (ay (ai (ixTk (K:=K) rfl) (qv 0) ad (fun _ _=>rfl)) ab))) (br (ay (ai (ixTk (K:=K) rfl) (qv 0) ad (fun _ _=>rfl)) (bd ab)))))),?_⟩
 refine ⟨_,rfl,b,_,0,_,rfl,rfl,hR,hp.at0,rfl,_,rfl,iteB (fun c=>?_) (fun c=>?_)⟩
 . have c':r.getD 0 "" = "stretch" := by simpa using c
   obtain ⟨x,y,rfl⟩:∃ x y,r = [("stretch" : Str),x,y]:=by
     rcases hp with ⟨a,f,s,rfl⟩ | z | ⟨a,rfl⟩
     . exact absurd c' (by show ¬ ("cell" : Str) = "stretch"; decide +kernel)
     . exact z
     . exact absurd c' (by show ¬ ("tree" : Str) = "stretch"; decide +kernel)
   refine ⟨_,rfl,b,_,1,.str x,rfl,rfl,hR,rfl,_,rfl,b,_,2,.str y,rfl,rfl,hR,rfl,(show 2 <= sizeLine by decide),fun t ht=>?_⟩
   exact q t _ (ae ht _) (SqT.of aa)
 . have c':¬ r.getD 0 "" = "stretch" := by simpa using c
   refine ⟨_,rfl,b,_,1,_,rfl,rfl,hR,hp.at1,(show 2 <= sizeLine by decide),fun t ht=>?_⟩
   have e:end2 r = "nil" := by unfold end2; rw [if_neg c']
   refine q t _ (ae ht _) ?_
   rw [e]
   exact SqT.of aa
theorem scEmpty:FnScope ["self", "number", "ends"] ["self", "number"] (ao ly):=⟨rfl,rfl,rfl,by decide +kernel,rfl,by decide +kernel,by decide +kernel⟩
theorem a4b (T:Txt K mg C fI) (F:Fun K "is_empty" "Knowledge.is_empty" ly f fd) (GE:FnOk P w K mg base CX0 1 gE dE ["part"] (tw K)) (cE:Cal K mg "ends_of" gE dE ["part"])
   (GA:FnOk P w K mg base CX0 2 gA dA ["self", "one", "other"] (wp C)) (cA:MCal K C "alike" gA dA ["self", "one", "other"]):FnOk P w K mg base CX0 3 f fd ["self", "number"] (kf K C fi):=by
 refine F.okQ scEmpty (fun vs H Q E h=>?_) (fun cdv A outer s0 H vs Q E hr h=>?_)
 . obtain ⟨p,pl,hd,un,fu,F,P,L,n,r,rfl,_⟩:=h; rfl
 obtain ⟨p,pl,hd,un,fu,Fs,Ps,L,n,r,rfl,hK,hn,hp,q⟩:=h
 have nd:=scEmpty.nd
 have hr1:=hr.mono (j:=1) (by lia)
 refine ⟨_,ac (ak (i:=2) nd rfl (Or.inl rfl) (ax GE hr1 rfl cE.name cE.keep cE.bind .nil av (ay (ai (ixKk (K:=K) rfl) (ci (K:=K) rfl (qv 0)) (qv 1) (fun _ _=>rfl)) ab)))
   (ah (aw (ue (dl gf (ai (ixTk (K:=K) rfl) (ai (ixKk (K:=K) rfl) (ci (K:=K) rfl (qv 0)) (qv 1) (fun _ _=>rfl)) ad (fun _ _=>rfl)) bt (aq _)) (km (c7 (qv 0) T.cl cA.meth GA hr cA.bind .nil av (ay (ai (ixTk (K:=K) rfl) (qv 2) ad (fun _ _=>rfl)) (ay (ai (ixTk (K:=K) rfl) (qv 2) ad (fun _ _=>rfl)) ab))))))),?_⟩
 obtain ⟨⟨hm,uk,hk,hok,hU⟩,hrows,hne⟩:=id hK
 obtain ⟨dx,fs,h1,h2⟩:=hk.ob
 obtain ⟨as,b,hpl,hat,hR⟩:=em hrows hn
 refine ⟨_,rfl,p,C,dx,fs,.ref pl,rfl,h1,T.cl,T.nP,h2.parts,_,rfl,pl,_,_,.ref b,rfl,rfl,SqL.of hpl,hat,b,r,rfl,hR,hp,fun t H1 e1 hT=>?_⟩
 have hk1:=hk.same e1
 refine ⟨_,rfl,p,C,dx,fs,.ref pl,rfl,e1 _ _ h1,T.cl,T.nP,h2.parts,_,rfl,pl,_,_,.ref b,rfl,rfl,SqL.of (e1 _ _ hpl),hat,b,_,0,_,rfl,rfl,hR.same e1,hp.at0,rfl,_,rfl,iteB (fun c=>?_) (fun c=>?_)⟩
 . have c':¬ r.getD 0 "" = "cell" := by simpa using c
   refine ⟨_,rfl,p,dx,fs,rfl,e1 _ _ h1,h2.meth "alike" (by decide +kernel),_,rfl,t,_,0,.str (place r),rfl,rfl,hT,rfl,_,rfl,t,_,1,.str (end2 r),rfl,rfl,hT,rfl,p,pl,hd,un,fu,hm,uk,_,_,rfl,hk1,?_⟩
   refine q _ H1 e1 ?_
   rw [hok.hd,hok.hd,decide_eq_true_eq]
   exact ⟨fun z=>⟨c',z⟩,fun z=>z.2⟩
 . have c':r.getD 0 "" = "cell" := by simpa using c
   exact q false H1 e1 ⟨fun z=>Bool.noConfusion z,fun z=>absurd c' z.1⟩
theorem scMust:FnScope ["self", "number", "ends"] ["self", "number"] (ao k9):=⟨rfl,rfl,rfl,by decide +kernel,rfl,by decide +kernel,by decide +kernel⟩
theorem a5x (T:Txt K mg C fI) (F:Fun K "must_be_full" "Knowledge.must_be_full" k9 f fd) (GE:FnOk P w K mg base CX0 1 gE dE ["part"] (tw K)) (cE:Cal K mg "ends_of" gE dE ["part"])
   (GA:FnOk P w K mg base CX0 2 gA dA ["self", "one", "other"] (u3 C)) (cA:MCal K C "unlike" gA dA ["self", "one", "other"]):FnOk P w K mg base CX0 3 f fd ["self", "number"] (kf K C xu):=by
 refine F.okQ scMust (fun vs H Q E h=>?_) (fun cdv A outer s0 H vs Q E hr h=>?_)
 . obtain ⟨p,pl,hd,un,fu,F,P,L,n,r,rfl,_⟩:=h; rfl
 obtain ⟨p,pl,hd,un,fu,Fs,Ps,L,n,r,rfl,hK,hn,hp,q⟩:=h
 have nd:=scMust.nd
 have hr1:=hr.mono (j:=1) (by lia)
 refine ⟨_,ac (ak (i:=2) nd rfl (Or.inl rfl) (ax GE hr1 rfl cE.name cE.keep cE.bind .nil av (ay (ai (ixKk (K:=K) rfl) (ci (K:=K) rfl (qv 0)) (qv 1) (fun _ _=>rfl)) ab)))
   (ah (aw (a4k (dl bw (ai (ixTk (K:=K) rfl) (ai (ixKk (K:=K) rfl) (ci (K:=K) rfl (qv 0)) (qv 1) (fun _ _=>rfl)) ad (fun _ _=>rfl)) bt (aq _)) (km (c7 (qv 0) T.cl cA.meth GA hr cA.bind .nil av (ay (ai (ixTk (K:=K) rfl) (qv 2) ad (fun _ _=>rfl)) (ay (ai (ixTk (K:=K) rfl) (qv 2) ad (fun _ _=>rfl)) ab))))))),?_⟩
 obtain ⟨⟨hm,uk,hk,hok,hU⟩,hrows,hne⟩:=id hK
 obtain ⟨dx,fs,h1,h2⟩:=hk.ob
 obtain ⟨as,b,hpl,hat,hR⟩:=em hrows hn
 refine ⟨_,rfl,p,C,dx,fs,.ref pl,rfl,h1,T.cl,T.nP,h2.parts,_,rfl,pl,_,_,.ref b,rfl,rfl,SqL.of hpl,hat,b,r,rfl,hR,hp,fun t H1 e1 hT=>?_⟩
 have hk1:=hk.same e1
 refine ⟨_,rfl,p,C,dx,fs,.ref pl,rfl,e1 _ _ h1,T.cl,T.nP,h2.parts,_,rfl,pl,_,_,.ref b,rfl,rfl,SqL.of (e1 _ _ hpl),hat,b,_,0,_,rfl,rfl,hR.same e1,hp.at0,rfl,_,rfl,iteB (fun c=>?_) (fun c=>?_)⟩
 . have c':r.getD 0 "" = "cell" := by simpa using c
   exact q true H1 e1 ⟨fun _ => .inl c',fun _=>rfl⟩
 . have c':¬ r.getD 0 "" = "cell" := by simpa using c
   refine ⟨_,rfl,p,dx,fs,rfl,e1 _ _ h1,h2.meth "unlike" (by decide +kernel),_,rfl,t,_,0,.str (place r),rfl,rfl,hT,rfl,_,rfl,t,_,1,.str (end2 r),rfl,rfl,hT,rfl,p,pl,hd,un,fu,hm,uk,_,_,rfl,hk1,fun H2 e2=>?_⟩
   refine q _ H2 (e1.trans e2) ?_
   rw [hok.hd,hok.hd,hU.told]
   exact ⟨fun z => .inr z,fun z=>z.resolve_left c'⟩
end
noncomputable def NoRow (o:HO):Prop:=(∃ kv,o = .dK kv) \/ (∃ kv,o = .dT kv) \/ (∃ od kv,o = .frz od (.dK kv)) \/ ∃ C dx fs,o = .ins C dx fs
theorem NoRow.tup {o:HO} (h:NoRow o) {xs:List V}:o ≠ .tup xs /\ (∀ ob,o ≠ .frz ob (.tup xs)) /\ o ≠ .lst xs:=by
 rcases h with ⟨kv,rfl⟩ | ⟨kv,rfl⟩ | ⟨od,kv,rfl⟩ | ⟨C,dx,fs,rfl⟩
 . exact ⟨(fun z=>nomatch z),(fun _ z=>nomatch z),(fun z=>nomatch z)⟩
 . exact ⟨(fun z=>nomatch z),(fun _ z=>nomatch z),(fun z=>nomatch z)⟩
 . exact ⟨(fun z=>nomatch z),(fun _ z=>nomatch z),(fun z=>nomatch z)⟩
 . exact ⟨(fun z=>nomatch z),(fun _ z=>nomatch z),(fun z=>nomatch z)⟩
theorem iu {K:PySem.W.Frag} {H H':Hp} {S:Addr -> Prop} {pl:Addr} {P:List (List Str)} (h:RowsAt K H pl P) (k:Kp S H H') (hS:∀ b,S b -> ∃ o,H b = some o /\ NoRow o):RowsAt K H' pl P:=by
 obtain ⟨as,h1,h2⟩:=h
 refine ⟨as,k _ _ h1 fun z=>?_,Paired.mapP h2 fun b r hb=>?_⟩
 . obtain ⟨o,e,n⟩:=hS _ z
   rw [h1] at e
   exact (n.tup (xs:=as.map V.ref)).2.2 (Option.some.inj e).symm
 . rcases hb with (z | ⟨ob,z⟩) | z
   . refine .inl (.inl (k _ _ z fun y=>?_))
     obtain ⟨o,e,n⟩:=hS _ y
     rw [z] at e
     exact (n.tup (xs:=r.map V.str)).1 (Option.some.inj e).symm
   . refine .inl (.inr ⟨ob,k _ _ z fun y=>?_⟩)
     obtain ⟨o,e,n⟩:=hS _ y
     rw [z] at e
     exact (n.tup (xs:=r.map V.str)).2.1 ob (Option.some.inj e).symm
   . exact .inr z
theorem KnS.tell {K:PySem.W.Frag} {C:Addr} {H H':Hp} {p pl hd un fu:Addr} {F P:List (List Str)} {L:List (Str × Str)} {hm:List (Str × Str)} {uk:List (List Key × V)} {u v:Str} (hk:KnAt C H p pl hd un fu hm uk) (hok:HeadsOk hm (ap F)) (hU:UkT uk (ap F) L) (hp:RowsAt K H pl P) (hne:hd ≠ fu)
   (k:Kp (· = un) H H') (e:H' un = some (.dT (put2 uk (hdS hm u) (hdS hm v)))):KnS K C H' p pl hd un fu F P (L ++ [(u,v)]):=by
 refine ⟨⟨hm,_,hk.tell k e,hok,?_⟩,iu hp k fun b hb=>⟨.dT uk,by rw [show b = un from hb]; exact hk.uns,.inr (.inl ⟨_,rfl⟩)⟩,hne⟩
 rw [hok.hd,hok.hd]
 exact hU.step u v
theorem KnS.fus {K:PySem.W.Frag} {C:Addr} {H:Hp} {p pl hd un fu:Addr} {F P:List (List Str)} {L:List (Str × Str)} (h:KnS K C H p pl hd un fu F P L) {o:HO} (hf:H fu = some o) (hn:(∃ kv,o = .dK kv) \/ ∃ od kv,o = .frz od (.dK kv)) (o':HO):KnS K C (upd H fu o') p pl hd un fu F P L:=by
 obtain ⟨⟨hm,uk,hk,hok,hU⟩,hr,hne⟩:=h
 obtain ⟨dx,fs,h1,h2⟩:=hk.ob
 have hnr:NoRow o:=hn.elim (fun z => .inl z) (fun z => .inr (.inr (.inl z)))
 have n1:p ≠ fu:=fun z=>by
   rw [z,hf] at h1
   rcases hn with ⟨kv,rfl⟩ | ⟨od,kv,rfl⟩ <;> cases h1
 have n2:un ≠ fu:=fun z=>by
   have:=hk.uns
   rw [z,hf] at this
   rcases hn with ⟨kv,rfl⟩ | ⟨od,kv,rfl⟩ <;> cases this
 refine ⟨⟨hm,uk,⟨⟨dx,fs,by rw [ag n1]; exact h1,h2⟩,by rw [ag hne]; exact hk.hds,by rw [ag n2]; exact hk.uns⟩,hok,hU⟩,?_,hne⟩
 exact iu (S:=(· = fu)) hr (fun b o hb hn=>by rw [ag hn]; exact hb) fun b hb=>⟨o,by rw [show b = fu from hb]; exact hf,hnr⟩
theorem a8b {Fl:List Nat} {n:Nat} (h:¬ n ∈ Fl):putK (fk Fl) (Sum.inl (n:Int)) (.bl true) = fk (Fl ++ [n]):=by
 have hv:valV (fk Fl) (Sum.inl (n:Int):Key) = none:=by
   cases e:valV (fk Fl) (Sum.inl (n:Int):Key) with
   | none=>rfl
   | some v =>
     have:=p4 e
     unfold fk at this
     rw [List.map_map] at this
     obtain ⟨m,hm,e2⟩:=List.mem_map.mp this
     have e3:(Sum.inl (m:Int):Key) = Sum.inl (n:Int):=e2
     have e4:(m:Int) = n:=Sum.inl.inj e3
     have e5:m = n:=by lia
     exact absurd (e5 ▸ hm) h
 rw [gq _ hv]
 unfold fk
 rw [List.map_append]; rfl
inductive spTellFS (K:PySem.W.Frag) (C:Addr) (vs:List V) (H:Hp) (Q:VK):Prop
 | mk (p pl hd un fu:Addr) (F P:List (List Str)) (L:List (Str × Str)) (Fl:List Nat) (n:Nat) (r:List Str) (h0:vs = [.ref p,.int (n:Int)]) (h1:KnS K C H p pl hd un fu F P L) (h2:H fu = some (.dK (fk Fl))) (h3:P[n]? = some r) (h4:(∀ r ∈ P,PartRow r)) (h5:(∀ j ∈ Fl,j < P.length)) (h6:(¬ n ∈ Fl)) (h7:L.length + Fl.length + 1 <= 400) (h8:∀ H',Kp (fun b=>b = un \/ b = fu) H H' -> KnS K C H' p pl hd un fu F P (L ++ ko P Fl r) -> H' fu = some (.dK (fk (Fl ++ [n]))) -> Q .non H'):spTellFS K C vs H Q
noncomputable def wb (K:PySem.W.Frag) (C:Addr):Sp:=fun vs H Q _=>spTellFS K C vs H Q
section
variable {P:Program} {w:World} {K:PySem.W.Frag} {mg:Str -> Option Value} {base:Heap} {f C fI gU:Addr} {fd dU:FuncData}
theorem scTellF:FnScope ["self", "number", "place", "other"] ["self", "number"] (ao ud):=⟨rfl,rfl,rfl,by decide +kernel,rfl,by decide +kernel,by decide +kernel⟩
theorem a4a (T:Txt K mg C fI) (F:Fun K "tell_full" "Knowledge.tell_full" ud f fd) (GU:FnOk P w K mg base CX0 2 gU dU ["self", "one", "other"] (p7 C)) (cU:MCal K C "tell_unlike" gU dU ["self", "one", "other"]):FnOk P w K mg base CX0 3 f fd ["self", "number"] (wb K C):=by
 refine F.okQ scTellF (fun vs H Q E h=>?_) (fun cdv A outer s0 H vs Q E hr h=>?_)
 . obtain ⟨p,pl,hd,un,fu,F,P,L,Fl,n,r,rfl,_⟩:=h; rfl
 obtain ⟨p,pl,hd,un,fu,Fs,Ps,L,Fl,n,r,rfl,hK,hfu,hn,hparts,hFl,hnFl,hlen,q⟩:=h
 have nd:=scTellF.nd
 have hu1:=df hr
 have hp:=hparts r (List.mem_of_getElem? hn)
 refine ⟨_,ac (ak (i:=2) nd rfl (Or.inl rfl) (ai (ixTk (K:=K) rfl) (ai (ixKk (K:=K) rfl) (ci (K:=K) rfl (qv 0)) (qv 1) (fun _ _=>rfl)) ad (fun _ _=>rfl)))
   (ac (bq (c7 (qv 0) T.cl cU.meth GU hr cU.bind .nil av (af (qv 2) (bd ab))))
   (ac (a5c (bg PassesOwn.never rfl (a2o (ci (K:=K) rfl (qv 0))) (au (i:=3) nd rfl (Or.inl rfl)) (ah (bq (c7 (qv 0) T.cl cU.meth GU hr cU.bind .nil av (af (qv 2) (ay (ai (ixTk (K:=K) rfl) (ai (ixKk (K:=K) rfl) (ci (K:=K) rfl (qv 0)) (qv 3) (fun _ _=>rfl)) ad (fun _ _=>rfl)) ab)))))))
   (ah (fc hu1 (ci (K:=K) rfl (qv 0)) (qv 1) dg)))),?_⟩
 obtain ⟨⟨hm,uk,hk,hok,hU⟩,hrows,hne⟩:=id hK
 obtain ⟨dx,fs,h1,h2⟩:=hk.ob
 obtain ⟨as,b,hpl,hat,hR⟩:=em hrows hn
 refine ⟨_,rfl,p,C,dx,fs,.ref pl,rfl,h1,T.cl,T.nP,h2.parts,_,rfl,pl,_,_,.ref b,rfl,rfl,SqL.of hpl,hat,b,_,1,_,rfl,rfl,hR,hp.at1,?_⟩
 have hUl:=hU.len
 refine ⟨_,rfl,p,dx,fs,rfl,h1,h2.meth "tell_unlike" (by decide +kernel),_,rfl,p,pl,hd,un,fu,hm,uk,place r, "nil",rfl,hk,by lia,fun H1 k1 e1=>?_⟩
 have hK1:=KnS.tell hk hok hU hrows hne k1 e1
 have nuf:fu ≠ un:=i9 hfu hk.uns (fun z=>nomatch z)
 have hfu1:=k1 _ _ hfu nuf
 obtain ⟨⟨hm1,uk1,hk1,_,_⟩,_,_⟩:=id hK1
 obtain ⟨dx1,fs1,h11,h21⟩:=hk1.ob
 refine ⟨_,rfl,p,C,dx1,fs1,.ref fu,rfl,h11,T.cl,T.nF,h21.fulls,fu,_,rfl,hfu1,fun od nf=>?_⟩
 have hK2:=hK1.fus hfu1 (.inl ⟨_,rfl⟩) (.frz od (.dK (fk Fl)))
 have hfu2:(upd H1 fu (.frz od (.dK (fk Fl)))) fu = some (.frz od (.dK (fk Fl))):=aa
 have k2:Kp (fun b=>b = un \/ b = fu) H (upd H1 fu (.frz od (.dK (fk Fl)))):=fun b o hb hnn=>by
   rw [ag (fun z=>hnn (.inr z))]
   exact k1 b o hb (fun z=>hnn (.inl z))
 generalize upd H1 fu (.frz od (.dK (fk Fl))) = H2 at hK2 hfu2 k2 |-
 clear hK1 hfu1 hk1 h11 h21 k1 e1
 refine a1v (fun i σ H3=>Kp (fun b=>b = un \/ b = fu) H H3 /\ KnS K C H3 p pl hd un fu Fs Ps (L ++ ((place r,("nil" : Str)) :: (Fl.take i).map fun j=>(place r,place (Ps.getD j [])))) /\ H3 fu = some (.frz od (.dK (fk Fl))) /\ ∃ z3:Option V,σ = [some (.ref p),some (.int (n:Int)),some (.str (place r)),z3])
   ⟨k2,hK2,hfu2,none,rfl⟩ (fun i σ H3 _ pv=>pv.2.2.1) ?_ ?_
 . rintro i x σ H3 hx ⟨k3,hK3,hfu3,z3,rfl⟩
   have hil:i < Fl.length:=by
     have:=(List.getElem?_eq_some_iff.mp hx).1
     unfold fk at this
     simpa using this
   obtain rfl:x = .int ((Fl[i]:Nat):Int):=by
     unfold fk at hx
     rw [List.getElem?_map,List.getElem?_map,List.getElem?_eq_getElem hil] at hx
     exact (Option.some.inj hx).symm
   have hjl:=hFl _ (List.getElem_mem hil)
   obtain ⟨s,hs⟩:∃ s,Ps[Fl[i]]? = some s:=⟨Ps[Fl[i]],List.getElem?_eq_getElem hjl⟩
   have hsp:=hparts s (List.mem_of_getElem? hs)
   obtain ⟨⟨hm3,uk3,hk3,hok3,hU3⟩,hrows3,_⟩:=id hK3
   obtain ⟨dx3,fs3,h13,h23⟩:=hk3.ob
   obtain ⟨as3,b3,hpl3,hat3,hR3⟩:=em hrows3 hs
   have hUl3:=hU3.len
   have hll:((Fl.take i).map fun j=>(place r,place (Ps.getD j []))).length <= Fl.length:=by rw [List.length_map,List.length_take]; lia
   refine ⟨_,rfl,p,dx3,fs3,rfl,h13,h23.meth "tell_unlike" (by decide +kernel),_,rfl,_,rfl,p,C,dx3,fs3,.ref pl,rfl,h13,T.cl,T.nP,h23.parts,_,rfl,pl,_,_,.ref b3,rfl,rfl,SqL.of hpl3,hat3,b3,_,1,_,rfl,rfl,hR3,hsp.at1,p,pl,hd,un,fu,hm3,uk3,place r,place s,rfl,hk3,?_,fun H4 k4 e4=>?_⟩
   . rw [List.length_append,List.length_cons] at hUl3
     lia
   have hK4:=KnS.tell hk3 hok3 hU3 hrows3 hne k4 e4
   refine ⟨fun b' o hb hnn=>k4 b' o (k3 b' o hb hnn) (fun z=>hnn (.inl z)),?_,k4 _ _ hfu3 nuf,_,rfl⟩
   have et:Fl.take (i + 1) = Fl.take i ++ [Fl[i]]:=by rw [List.take_add_one,List.getElem?_eq_getElem hil]; rfl
   have eg:Ps.getD Fl[i] [] = s:=by rw [List.getD_eq_getElem?_getD,hs]; rfl
   rw [List.append_assoc] at hK4
   rw [et,List.map_append,List.map_singleton,eg]
   exact hK4
 . rintro σ H3 ⟨k3,hK3,hfu3,z3,rfl⟩
   have e0:(fk Fl).length = Fl.length:=by unfold fk; rw [List.length_map]
   rw [e0,List.take_length] at hK3
   refine ⟨fu,od,.dK (fk Fl),hfu3,nf,?_⟩
   have hK4:=hK3.fus hfu3 (.inr ⟨_,_,rfl⟩) (.dK (fk Fl))
   have hfu4:(upd H3 fu (.dK (fk Fl))) fu = some (.dK (fk Fl)):=aa
   have k4:Kp (fun b=>b = un \/ b = fu) H (upd H3 fu (.dK (fk Fl))):=fun b o hb hnn=>by
     rw [ag (fun z=>hnn (.inr z))]
     exact k3 b o hb hnn
   generalize upd H3 fu (.dK (fk Fl)) = H4 at hK4 hfu4 k4 |-
   obtain ⟨⟨hm4,uk4,hk4,_,_⟩,_,_⟩:=id hK4
   obtain ⟨dx4,fs4,h14,h24⟩:=hk4.ob
   refine ⟨_,rfl,p,C,dx4,fs4,.ref fu,rfl,h14,T.cl,T.nF,h24.fulls,_,rfl,fu,_,rfl,DPut.k (k:=Sum.inl (n:Int)) hfu4 ?_,?_⟩
   . rw [e0]; exact Nat.lt_of_le_of_lt (show Fl.length <= 1000 by lia) (by decide)
   rw [a8b hnFl]
   refine q _ (fun b o hb hnn=>by rw [ag (fun z=>hnn (.inr z))]; exact k4 b o hb hnn) (hK4.fus hfu4 (.inl ⟨_,rfl⟩) _) aa
end
end K23
namespace L2
open PySem PySem.Spec
noncomputable def natV (n:Nat):V := .int (n:Int)
theorem lx (n:Nat):nums 0 n = (List.range n).map natV:=by
 unfold nums natV
 refine List.map_congr_left fun i _=>?_
 rw [Int.zero_add]
theorem i0 {J:It} {H1:Hp} {σ:St} {ix:List Nat} {tc:TT} {te:TE} {Q:VK} {I0:Hp -> Prop} (ns:List Nat) (p:Nat -> Bool) (hJ:JSeq J I0 (ns.map natV)) (h0:I0 H1) (hz:ns.length <= 1000)
   (hc:∀ n ∈ ns,∀ H2,Same H1 H2 -> ∀ Q':Bool -> Hp -> Prop,(∀ H3,Same H2 H3 -> Q' (p n) H3) -> tc (some (.int (n:Int)) :: cq σ ix) H2 Q')
   (he:∀ (n:Nat) H2 (Q':VK),Q' (.int (n:Int)) H2 -> te (some (.int (n:Int)) :: cq σ ix) H2 Q')
   (hQ:∀ D H',H1 D = none -> Same H1 H' -> H' D = some (.lst ((ns.filter p).map natV)) -> Q (.ref D) H'):ik J H1 σ ix tc te Q:=by
 have pv:∀ n:Nat,(fun v:V=>match v with | .int i=>p i.toNat | _=>false) (natV n) = p n:=fun n=>by
   show p ((n:Int)).toNat = p n
   rw [Int.toNat_natCast]
 refine lz (ns.map natV) (fun v=>match v with | .int i=>p i.toNat | _=>false) id hJ h0 (by rw [List.length_map]; exact Nat.le_trans hz (by decide)) ?_ ?_ ?_
 . intro x hx H2 e2 Q' q'
   obtain ⟨n,hn,rfl⟩:=List.mem_map.mp hx
   refine hc n hn H2 e2 Q' fun H3 e3=>?_
   have:=q' H3 e3
   have e:(match natV n with | .int i=>p i.toNat | _=>false) = p n:=pv n
   rw [e] at this
   exact this
 . intro x hx _ H2 e2 Q' q'
   obtain ⟨n,hn,rfl⟩:=List.mem_map.mp hx
   exact he n H2 Q' (q' H2 (Same.refl _))
 . intro D H' hD e hd
   refine hQ D H' hD e ?_
   rw [hd,List.map_id,List.filter_map]
   rw [show (List.filter ((fun v:V=>match v with | .int i=>p i.toNat | _=>false) ∘ natV) ns) = ns.filter p from List.filter_congr fun n _=>pv n]
end L2
namespace K23
open PySem PySem.Spec L2 Mir Kn
open Classical in
noncomputable def jo (P:List (List Str)) (h:Str -> Str) (L:List (Str × Str)) (n:Nat):Bool:=decide (∃ r,P[n]? = some r /\ FullR (Told h L) r)
open Classical in
theorem mustB_iff {P:List (List Str)} {h:Str -> Str} {L:List (Str × Str)} {n:Nat}:jo P h L n = true ↔ ∃ r,P[n]? = some r /\ FullR (Told h L) r:=by
 unfold jo
 exact ⟨fun z=>of_decide_eq_true z,fun z=>decide_eq_true z⟩
theorem a2y {P:List (List Str)} {h:Str -> Str} {L:List (Str × Str)} {n:Nat} {r:List Str} {b:Bool} (hn:P[n]? = some r) (hb:b = true ↔ FullR (Told h L) r):jo P h L n = b:=by
 rw [Bool.eq_iff_iff,mustB_iff,hb]
 constructor
 . rintro ⟨r',h1,h2⟩
   rw [hn] at h1
   cases h1
   exact h2
 . exact fun z=>⟨r,hn,z⟩
theorem a6w {Fl:List Nat} {n:Nat}:(valV (fk Fl) (Sum.inl (n:Int):Key)).isSome = decide (n ∈ Fl):=by
 rw [<- ef]
 unfold fk
 rw [Bool.eq_iff_iff,List.any_eq_true,decide_eq_true_eq]
 constructor
 . rintro ⟨q,hq,e⟩
   obtain ⟨m,hm,rfl⟩:=List.mem_map.mp hq
   have e':(Sum.inl (m:Int):Key) = Sum.inl (n:Int):=by simpa using e
   have:(m:Int) = n:=Sum.inl.inj e'
   have:m = n:=by lia
   exact this ▸ hm
 . exact fun h=>⟨_,List.mem_map.mpr ⟨n,h,rfl⟩,by simp⟩
inductive spFindS (K:PySem.W.Frag) (C:Addr) (vs:List V) (H:Hp) (Q:VK):Prop
 | mk (p pl hd un fu:Addr) (F P:List (List Str)) (L:List (Str × Str)) (h0:vs = [.ref p]) (h1:KnS K C H p pl hd un fu F P L) (h2:H fu = some (.dK (fk []))) (h3:(∀ r ∈ F,cm r)) (h4:(∀ r ∈ P,PartRow r)) (h5:P.length <= 15) (h6:L.length <= 100) (h7:Going F P L []) (h8:∀ L' Fl H',Kp (fun b=>b = un \/ b = fu) H H' -> KnS K C H' p pl hd un fu F P L' -> H' fu = some (.dK (fk Fl)) -> AllTold F P L' Fl -> Going F P L' Fl -> L'.length <= 400 -> Q .non H'):spFindS K C vs H Q
noncomputable def a0m (K:PySem.W.Frag) (C:Addr):Sp:=fun vs H Q _=>spFindS K C vs H Q
section
variable {P:Program} {w:World} {K:PySem.W.Frag} {mg:Str -> Option Value} {base:Heap} {f C fI gM gT:Addr} {fd dM dT:FuncData}
theorem vo {c:TT} {tb:TS} {D:Ends} {σ:St} {H:Hp} (Pv:Nat -> St -> Hp -> Prop) {m0:Nat} (h0:Pv m0 σ H)
   (hs:∀ m σ H,Pv m σ H -> c σ H fun b H1=>if b = true then tb { D with nx:=fun σ' H' => ∃ m',m' < m /\ Pv m' σ' H',ct:=fun σ' H' => ∃ m',m' < m /\ Pv m' σ' H',bk:=D.nx } σ H1 else D.nx σ H1)
   (mono:∀ σ H Q Q',(∀ b H1,Q b H1 -> Q' b H1) -> c σ H Q -> c σ H Q'):sg c tb D σ H:=by
 refine ⟨Pv,⟨_,h0⟩,?_⟩
 intro m σ H p
 refine mono σ H _ _ (fun b H1 q=>?_) (hs m σ H p)
 cases b with
 | true=>exact ⟨_,fun σ' H' ⟨m',l,p'⟩=>⟨m',l,p'⟩,q⟩
 | false=>exact q
theorem scFindF:FnScope ["self", "found", "number", "waiting"] ["self"] (ao si):=⟨rfl,rfl,rfl,by decide +kernel,rfl,by decide +kernel,by decide +kernel⟩
theorem a5w (Cn:Con K mg w) (T:Txt K mg C fI) (F:Fun K "find_fulls" "Knowledge.find_fulls" si f fd) (GM:FnOk P w K mg base CX0 3 gM dM ["self", "number"] (kf K C xu)) (cM:MCal K C "must_be_full" gM dM ["self", "number"]) (GT:FnOk P w K mg base CX0 3 gT dT ["self", "number"] (wb K C)) (cT:MCal K C "tell_full" gT dT ["self", "number"]):FnOk P w K mg base CX0 4 f fd ["self"] (a0m K C):=by
 refine F.okQ scFindF (fun vs H Q E h=>?_) (fun cdv A outer s0 H vs Q E hr h=>?_)
 . obtain ⟨p,pl,hd,un,fu,F,P,L,rfl,_⟩:=h; rfl
 obtain ⟨p,pl,hd,un,fu,Fs,Ps,L0,rfl,hK,hfu,hFr,hPr,hP15,hL0,hG0,q⟩:=h
 have nd:=scFindF.nd
 have hu1:=df hr
 refine ⟨_,ac (jg ["number", "self"] [0] (i:=1) nd rfl (Or.inl rfl) (cw rfl Cn.range (bv (b0 (ej (K:=K) rfl) rfl Cn.len PySem.boot_len (gn (ci (K:=K) rfl (qv 0)) ab)) ab)) (fun _ _ _ _=>(fe (db (c7 (qv 1) T.cl cM.meth GM hr cM.bind .nil av (af (qv 0) ab))))) (fun _ _ _ _=>(qv 0)))
   (ah (mo PassesOwn.never (a3l (K:=K) (qv 1)) (ac (bg PassesOwn.never rfl (b8 (K:=K) rfl (qv 1)) (au (i:=2) nd rfl (Or.inl rfl)) (ah (bq (c7 (qv 0) T.cl cT.meth GT hr cT.bind .nil av (af (qv 2) ab)))))
   (ac (jg ["number", "self"] [0] (i:=3) nd rfl (Or.inl rfl) (cw rfl Cn.range (bv (b0 (ej (K:=K) rfl) rfl Cn.len PySem.boot_len (gn (ci (K:=K) rfl (qv 0)) ab)) ab)) (fun _ _ _ _=>(fe (i4 hu1 (qv 0) (ci (K:=K) rfl (qv 1))))) (fun _ _ _ _=>(qv 0)))
   (ah (jg ["number", "self"] [0] (i:=1) nd rfl (Or.inl rfl) (b8 (K:=K) rfl (qv 3)) (fun _ _ _ _=>(fe (db (c7 (qv 1) T.cl cM.meth GM hr cM.bind .nil av (af (qv 0) ab))))) (fun _ _ _ _=>(qv 0)))))))),?_⟩
 have must:∀ {H2 H3:Hp} {L:List (Str × Str)} {n:Nat} {Q':Bool -> Hp -> Prop},KnS K C H2 p pl hd un fu Fs Ps L -> n < Ps.length -> Same H2 H3 -> (∀ H4,Same H3 H4 -> Q' (jo Ps (ap Fs) L n) H4) -> kf K C xu [.ref p,.int (n:Int)] H3 (fun v H4=>tBS v H4 Q') E0:=fun {H2 H3 L n Q'} hk hn e q'=>by
   have hs:Ps[n]? = some Ps[n]:=List.getElem?_eq_getElem hn
   refine ⟨p,pl,hd,un,fu,Fs,Ps,L,n,_,rfl,hk.same e,hs,hPr _ (List.getElem_mem hn),fun b H4 e4 hb=>⟨b,rfl,?_⟩⟩
   have:=q' H4 e4
   rw [a2y hs hb] at this
   exact this
 obtain ⟨⟨hm,uk,hk,hok,hU⟩,hrows,hne⟩:=id hK
 obtain ⟨dx,fs,h1,h2⟩:=hk.ob
 obtain ⟨as,hpl,hpp⟩:=hrows
 have hasl:=Paired.length hpp
 have hml:(as.map V.ref).length = Ps.length:=by rw [List.length_map]; exact hasl
 refine ⟨_,rfl,p,C,dx,fs,.ref pl,rfl,h1,T.cl,T.nP,h2.parts,pl,_,rfl,.inl (SqL.of hpl),_,rfl,(by rw [hml]; lia),(by rw [hml]; lia),?_⟩
 rw [hml,Int.toNat_natCast]
 have JR:∀ n,JSeq (Itr 0 n) (fun _=>True) ((List.range n).map natV):=fun n=>by rw [<- lx]; exact lh
 refine i0 (List.range Ps.length) (jo Ps (ap Fs) L0) (JR _) trivial (by rw [List.length_range]; lia) (fun n hn H2 e2 Q' q'=>?_) (fun n H2 Q' q'=>⟨_,rfl,q'⟩) fun D H1 hD e1 hd1=>?_
 . exact ⟨_,rfl,p,dx,fs,rfl,e2 _ _ h1,h2.meth "must_be_full" (by decide +kernel),_,rfl,must hK (List.mem_range.mp hn) e2 q'⟩
 have hfo0:∀ i r,Ps[i]? = some r -> FullR (Told (ap Fs) L0) r -> i ∈ ([]:List Nat) \/ i ∈ (List.range Ps.length).filter (jo Ps (ap Fs) L0):=fun i r hi hf => .inr (List.mem_filter.mpr ⟨List.mem_range.mpr (List.getElem?_eq_some_iff.mp hi).1,mustB_iff.mpr ⟨r,hi,hf⟩⟩)
 refine vo (fun m σ H2=>Ex6 fun (L:List (Str × Str)) (Fl fo:List Nat) (D:Addr) (z2 z3:Option V)=>And11 (σ = [some (.ref p),some (.ref D),z2,z3]) (Kp (fun b=>b = un \/ b = fu) H H2) (KnS K C H2 p pl hd un fu Fs Ps L) (H2 fu = some (.dK (fk Fl))) (Going Fs Ps L Fl) (L.length <= 100 + Fl.length * 16) (H2 D = some (.lst (fo.map natV))) (fo.Nodup) ((∀ i ∈ fo,(¬ i ∈ Fl) /\ ∃ r,Ps[i]? = some r /\ FullR (Told (ap Fs) L) r)) ((∀ i r,Ps[i]? = some r -> FullR (Told (ap Fs) L) r -> i ∈ Fl \/ i ∈ fo)) (m = Ps.length - Fl.length))
   (m0:=Ps.length) ⟨L0,[],_,D,none,none,rfl,fun b o hb _=>e1 b o hb,hK.same e1,e1 _ _ hfu,hG0,by simpa using hL0,hd1,List.Nodup.sublist List.filter_sublist List.nodup_range,fun i hi=>⟨List.not_mem_nil,mustB_iff.mp (List.mem_filter.mp hi).2⟩,hfo0,rfl⟩ ?_ ?_
 . rintro m σ H2 ⟨L,Fl,fo,D,z2,z3,rfl,k2,hK2,hfu2,hG,hLl,hD2,hfn,hff,hfc,rfl⟩
   refine ⟨_,rfl,_,.inl ⟨_,SqL.of hD2,rfl⟩,?_⟩
   have nuf:fu ≠ un:=by
     obtain ⟨⟨_,_,hk2,_⟩,_⟩:=hK2
     exact i9 hfu2 hk2.uns (fun z=>nomatch z)
   have hfl:=hG.len
   refine iteB (fun c=>?_) (fun c=>?_)
   . have hfpos:0 < fo.length:=by
       cases fo with
       | nil=>cases c
       | cons _ _=>exact Nat.succ_pos _
     clear c
     refine ⟨_,rfl,D,rfl,⟨_,SqL.of hD2⟩,?_⟩
     have hDu:D ≠ un:=by
       obtain ⟨⟨_,_,hk2,_⟩,_⟩:=hK2
       exact i9 hD2 hk2.uns (fun z=>nomatch z)
     have hDf:D ≠ fu:=i9 hD2 hfu2 (fun z=>nomatch z)
     refine bj (xs:=fo.map natV) (fun j σ H3=>Ex2 fun (L3:List (Str × Str)) (z2:Option V)=>And7 (σ = [some (.ref p),some (.ref D),z2,z3]) (Kp (fun b=>b = un \/ b = fu) H H3) (KnS K C H3 p pl hd un fu Fs Ps L3) (H3 fu = some (.dK (fk (Fl ++ fo.take j)))) (Going Fs Ps L3 (Fl ++ fo.take j)) (L3.length <= 100 + (Fl ++ fo.take j).length * 16) (H3 D = some (.lst (fo.map natV))))
       ⟨L,z2,rfl,k2,hK2,by rw [List.take_zero,List.append_nil]; exact hfu2,by rw [List.take_zero,List.append_nil]; exact hG,by rw [List.take_zero,List.append_nil]; exact hLl,hD2⟩ (fun j σ H3 _ pv=>by obtain ⟨_,_,_,_,_,_,_,_,hd3⟩:=pv; exact SqL.of hd3) ?_ ?_
     . rintro j x σ H3 hx ⟨L3,z2,rfl,k3,hK3,hfu3,hG3,hL3,hD3⟩
       have hjl:j < fo.length:=by have:=(List.getElem?_eq_some_iff.mp hx).1; rw [List.length_map] at this; exact this
       obtain rfl:x = .int ((fo[j]:Nat):Int):=by
         rw [List.getElem?_map,List.getElem?_eq_getElem hjl] at hx
         exact (Option.some.inj hx).symm
       obtain ⟨hn1,r,hr,hfr⟩:=hff _ (List.getElem_mem hjl)
       have hnt:¬ fo[j] ∈ Fl ++ fo.take j:=fun z=>by
         rcases List.mem_append.mp z with y | y
         . exact hn1 y
         . obtain ⟨i,hi,e⟩:=List.mem_take_iff_getElem.mp y
           have:=(List.getElem_inj hfn).mp e
           lia
       have hfU:FullR (Un Fs Ps) r:=hfr.mono fun a b z=>a5t hFr hG.sound z
       have hlen3:=hG3.len
       have hm16:(Fl ++ fo.take j).length * 16 <= 15 * 16:=Nat.mul_le_mul_right _ (by lia)
       obtain ⟨⟨hm3,uk3,hk3,_,_⟩,_,_⟩:=id hK3
       obtain ⟨dx3,fs3,h13,h23⟩:=hk3.ob
       refine ⟨_,rfl,p,dx3,fs3,rfl,h13,h23.meth "tell_full" (by decide +kernel),_,rfl,p,pl,hd,un,fu,Fs,Ps,L3,Fl ++ fo.take j,fo[j],r,rfl,hK3,hfu3,hr,hPr,fun i hi=>?_,hnt,by lia,fun H4 k4 hK4 hfu4=>?_⟩
       . obtain ⟨r',h',_⟩:=hG3.isf i hi
         exact (List.getElem?_eq_some_iff.mp h').1
       have et:Fl ++ fo.take (j + 1) = Fl ++ fo.take j ++ [fo[j]]:=by rw [List.take_add_one,List.getElem?_eq_getElem hjl,List.append_assoc]; rfl
       refine ⟨_,_,rfl,fun b o hb hnn=>k4 b o (k3 b o hb hnn) hnn,hK4,by rw [et]; exact hfu4,by rw [et]; exact hG3.step hr hfU hnt,?_,k4 _ _ hD3 (fun z=>z.elim hDu hDf)⟩
       have tl:(ko Ps (Fl ++ fo.take j) r).length = (Fl ++ fo.take j).length + 1:=by unfold ko; rw [List.length_cons,List.length_map]
       rw [et,List.length_append,tl,List.length_append (bs:=[fo[j]]),List.length_singleton,Nat.add_mul]
       lia
     . rintro σ H3 ⟨L3,z2,rfl,k3,hK3,hfu3,hG3,hL3,hD3⟩
       have el:(fo.map natV).length = fo.length:=List.length_map ..
       rw [el,List.take_length] at hfu3 hG3 hL3
       have hlen3:=hG3.len
       rw [List.length_append] at hlen3
       obtain ⟨⟨hm3,uk3,hk3,hok3,hU3⟩,hrows3,_⟩:=id hK3
       obtain ⟨dx3,fs3,h13,h23⟩:=hk3.ob
       obtain ⟨as3,hpl3,hpp3⟩:=hrows3
       have hml3:(as3.map V.ref).length = Ps.length:=by rw [List.length_map]; exact Paired.length hpp3
       refine ⟨_,rfl,p,C,dx3,fs3,.ref pl,rfl,h13,T.cl,T.nP,h23.parts,pl,_,rfl,.inl (SqL.of hpl3),_,rfl,(by rw [hml3]; lia),(by rw [hml3]; lia),?_⟩
       rw [hml3,Int.toNat_natCast]
       refine i0 (List.range Ps.length) (fun n => !decide (n ∈ Fl ++ fo)) (JR _) trivial (by rw [List.length_range]; lia) (fun n hn H4 e4 Q' q'=>?_) (fun n H4 Q' q'=>⟨_,rfl,q'⟩) fun D4 H4 hD4 e4 hd4=>?_
       . have g:=DGet.k (k:=Sum.inl (n:Int)) (e4 _ _ hfu3)
         have:=q' H4 (Same.refl _)
         rw [<- a6w] at this
         exact ⟨_,rfl,_,rfl,p,C,dx3,fs3,.ref fu,rfl,e4 _ _ h13,T.cl,T.nF,h23.fulls,fu,_,rfl,g,_,rfl,this⟩
       have hK4:=hK3.same e4
       obtain ⟨⟨hm4,uk4,hk4,_,_⟩,_,_⟩:=id hK4
       obtain ⟨dx4,fs4,h14,h24⟩:=hk4.ob
       refine ⟨_,rfl,D4,rfl,⟨_,SqL.of hd4⟩,?_⟩
       have hwl:((List.range Ps.length).filter fun n => !decide (n ∈ Fl ++ fo)).length <= Ps.length:=by
         have:=List.length_filter_le (fun n => !decide (n ∈ Fl ++ fo)) (List.range Ps.length)
         rw [List.length_range] at this
         exact this
       refine i0 ((List.range Ps.length).filter fun n => !decide (n ∈ Fl ++ fo)) (jo Ps (ap Fs) L3) gc (SqL.of hd4) (by lia) (fun n hn H5 e5 Q' q'=>?_) (fun n H5 Q' q'=>⟨_,rfl,q'⟩) fun D5 H5 hD5 e5 hd5=>?_
       . exact ⟨_,rfl,p,dx4,fs4,rfl,e5 _ _ h14,h24.meth "must_be_full" (by decide +kernel),_,rfl,must hK4 (List.mem_range.mp (List.mem_filter.mp hn).1) e5 q'⟩
       have e35:=e4.trans e5
       refine ⟨Ps.length - (Fl ++ fo).length,by rw [List.length_append]; lia,L3,Fl ++ fo,_,D5,_,_,rfl,fun b o hb hnn=>e35 b o (k3 b o hb hnn),hK3.same e35,e35 _ _ hfu3,hG3,hL3,hd5,List.Nodup.sublist (List.filter_sublist.trans List.filter_sublist) List.nodup_range,fun i hi=>?_,fun i r hi hf=>?_,rfl⟩
       . obtain ⟨g1,g2⟩:=List.mem_filter.mp hi
         obtain ⟨g3,g4⟩:=List.mem_filter.mp g1
         exact ⟨by simpa using g4,mustB_iff.mp g2⟩
       . by_cases hin:i ∈ Fl ++ fo
         . exact .inl hin
         . exact .inr (List.mem_filter.mpr ⟨List.mem_filter.mpr ⟨List.mem_range.mpr (List.getElem?_eq_some_iff.mp hi).1,by simpa using hin⟩,mustB_iff.mpr ⟨r,hi,hf⟩⟩)
   . have hfe:fo = []:=by
       cases fo with
       | nil=>rfl
       | cons _ _=>cases c
     subst hfe
     have A:=hG.done fun i r hi hf=>(hfc i r hi hf).resolve_right List.not_mem_nil
     exact q L Fl H2 k2 hK2 hfu2 A hG (by have:Fl.length * 16 <= 15 * 16:=Nat.mul_le_mul_right _ (by lia); lia)
 . rintro σ H2 Q1 Q2 hq ⟨v,h1,k,h2,h3⟩
   exact ⟨v,h1,k,h2,hq _ _ h3⟩
end
end K23
namespace L2
open PySem PySem.Spec PyProof.Rows PySem.Builtin
section
variable {prog:Program} {w:World} {d:Addr} {es:Array DictEntry} {ep:Nat} {od:Obj}
theorem a60 (lo:(d == sysModules) = false) (hc:od.ExactDict) (h2:od.data = .dict es ep):PySem.W.KdlSrc prog w "dict" d d es.size (fun i v=>(es.toList.map (·.key))[i]? = some v) (fun h=>h.get? d = some od) where
 type:=fun _ hm=>⟨od,hm,hc.1⟩
 there:=fun _ hm=>⟨Heap.lt_size hm,Heap.lt_size hm⟩
 keep:=fun _ _ hm hk=>hk d (.inl rfl) _ hm
 notList:=by decide
 notTuple:=by decide
 hint:=fun _ _ _ _ hm hq=>PySem.W.kdl_hint_dict ⟨od,hm,hc.1⟩ hq
 iter:=fun A s hh hm=>⟨_,fun i h=>h.IsKeyIter s.heap.objs.size d i es.size ep /\ h.get? d = some od,(fun E Q hq=>sj lo hm hc h2 hq),{
   sub:=fun b hb=>by simp at hb; subst hb; simp
   frame:=fun i h h' st k=>by
     obtain ⟨⟨o,h1,h3⟩,h4⟩:=st
     exact ⟨⟨o,k _ (by simp) o h1,h3⟩,k d (by simp) _ h4⟩
   item:=fun i s' Q E hi st hQ=>by
     have hne:d ≠ s.heap.objs.size:=Nat.ne_of_lt (Heap.lt_size hm)
     refine jh st.1 st.2 h2 hh (fun hn h' st' sb=>?_) (fun hn=>absurd hi (by lia))
     refine hQ _ h' s'.toks ?_ ⟨st',(sb.2 d hne).trans st.2⟩ fun b o hb e=>(sb.2 b (by simpa using hb)).trans e
     rw [List.getElem?_map,Array.getElem?_toList,Array.getElem?_eq_getElem hn]; rfl
   done:=fun s' Q E st hQ=>jh st.1 st.2 h2 hh (fun hn=>absurd hn (Nat.lt_irrefl _)) (fun _ h' eb=>hQ h' s'.toks fun b o hb e=>eb b o (by simpa using hb) e)
   self:=fun i s' Q E st h=>wpAny_pyIter_keyiter st.1 h },⟨⟨_,Heap.get?_push_size _ rfl,rfl,rfl⟩,Heap.get?_push_of_some _ hm⟩⟩
end
section
variable {X:Cx}
theorem mw (hc:X.calm = true):bx X (.type "list") (fun xs H Q => ∃ a kvs,xs = [V.ref a] /\ H a = some (.dT kvs) /\ ∀ p bs,H p = none -> Paired (fun (q:List Key × V) b=>H b = some (.tup (q.1.map kV))) kvs bs -> Q (.ref p) (upd H p (.lst (bs.map V.ref)))):=by
 intro pins s σ H xs us Q I r h
 obtain ⟨a,kvs,rfl,ha,q⟩:=h
 obtain ⟨u,rfl,ru⟩:=jf r
 cases ru
 obtain ⟨z,hd,ys,rel,od,es,ep,h1,hx,h2,h3,h4⟩:=(show ObjOk X.prog X.w H s.heap a (.dT kvs) from I.hok a _ ha)
 have hl:kvs.length = ys.length:=rel.length
 have hes:es.size = ys.length:=by rw [<- Array.length_toList,h3,List.length_map]
 refine PySem.W.kdl_call (a60 hd hx h2) (I.ok.hd hc) h1 (by rw [hes,<- hl]; exact z) fun h' tk acc c hk hD hacc=>?_
 have hbs:=a0v rel
 have hkey:es.toList.map (·.key) = (ys.map (·.2.1)).map Value.ref:=by rw [h3,List.map_map,List.map_map]; rfl
 refine ⟨.ref s.heap.objs.size,_,I.laid (t':=tk) hk (Nat.le_refl _) (show ObjOk X.prog X.w _ h' _ (.lst ((ys.map (·.2.1)).map V.ref)) from ⟨by rw [List.length_map,List.length_map,<- hl]; exact z,acc.toList,c,?_,by simpa using hD⟩),rfl,q _ _ (I.hok.fresh (Nat.le_refl _)) hbs⟩
 refine m6 (by rw [Array.length_toList,List.length_map,List.length_map,<- hes]; exact hacc.1) fun j v hv=>?_
 have e:=hacc.2 j v (by rw [<- Array.getElem?_toList]; exact hv)
 rw [hkey,List.getElem?_map] at e
 rw [List.getElem?_map]
 cases hj:(ys.map (·.2.1))[j]? with
 | none=>rw [hj] at e; cases e
 | some b =>
   rw [hj] at e
   have e':Value.ref b = v:=Option.some.inj e
   exact ⟨.ref b,rfl,e'.symm⟩
end
section
variable {prog:Program} {w:World} {A:Around} {E:Value -> Shared -> Prop} {s:Shared} {d:Addr} {es:Array DictEntry} {ep:Nat} {od:Obj}
theorem qx (hd:(d == sysModules) = false) (h2:od.data = .dict es ep) :
   MeetsIn prog w (Builtin.«dict.__len__» ⟨[.ref d],[]⟩) (fun _ R s=>s.heap.get? d = some od /\ R (.ok (.ret (.int es.size s.toks))) { s with toks:=s.toks + 1 }) :=
 .of_wp fun A R s ⟨ho,h⟩=>by
   show wpAny _ _ (dictSize d >>= _) _ _ s
   unfold dictSize
   refine wpAny_bind (wpAny_bind (wpAny_dictEntries ho h2 (wpAny_pure ?_)))
   show wpAny _ _ (Builtin.Dict.pendingCount d >>= _) _ _ s
   refine wpAny_bind (wpAny_pendingCount_other hd ?_)
   refine wpAny_ret_mkInt ?_
   rw [Nat.add_zero]; exact h
theorem a6s {Q:Value -> Shared -> Prop} (hd:(d == sysModules) = false) (h1:s.heap.get? d = some od) (hc:od.ExactDict) (h2:od.data = .dict es ep) (hfit:(es.size:Int) < 2 ^ 63)
   (h:Q (.int es.size (s.toks + 1)) { s with toks:=s.toks + 1 + 1 }):wpAny (model prog w) A (call (.builtin "len") [.ref d]) Q E s:=by
 have ty:s.TypeIs (.ref d) "dict" := ⟨od,h1,hc.1⟩
 refine Calls.call_function_entry kind_len plain_len entry_len (args_len1 _) ?_
 unfold Builtin.«len»
 refine wpAny_bind (m:=oneArg "len" _) (wpAny_pure ?_)
 refine wpAny_bind (m:=callSpecial? (.ref d) (Str.ofString "__len__")) (wpAny_callSpecial?_slot (name:=Str.ofString "__len__") ty PySem.F.slot_dict_len
   (call_meetsIn PySem.F.slot_dict_len ty PySem.F.entry_dict_len (PySem.F.args_dict_len_1 _) (qx hd h2) ⟨h1,?_⟩))
 show wpAny _ _ _ _ _ { s with toks:=s.toks + 1 }
 refine wpAny_bind (wpAny_holding (wpAny_pure ?_))
 refine wpAny_bind (wpAny_letGo ?_)
 show wpAny _ _ (if ((es.size:Nat):Int) < 0 then _ else _) _ _ _
 rw [if_neg (by lia)]
 show wpAny _ _ (if ((es.size:Nat):Int) >= 2 ^ 63 then _ else _) _ _ _
 rw [if_neg (by lia)]
 exact wpAny_bind (wpAny_mkInt (wpAny_pure ⟨_,rfl,h⟩))
end
theorem iz {X:Cx}:bx X (.builtin "len") (fun xs H Q => ∃ a kvs,xs = [V.ref a] /\ H a = some (.dT kvs) /\ Q (.int kvs.length) H):=by
 intro pins s σ H xs us Q I r h
 obtain ⟨a,kvs,rfl,ha,q⟩:=h
 obtain ⟨u,rfl,ru⟩:=jf r
 cases ru
 obtain ⟨z,hd,ys,rel,od,es,ep,h1,hx,h2,h3,h4⟩:=(show ObjOk X.prog X.w H s.heap a (.dT kvs) from I.hok a _ ha)
 have hl:kvs.length = ys.length:=rel.length
 have hes:es.size = kvs.length:=by rw [<- Array.length_toList,h3,List.length_map,hl]
 refine a6s hd h1 hx h2 (by rw [hes]; rw [sizeLine_eq] at z; lia) ?_
 rw [hes]
 exact ⟨.int kvs.length,H,I.tok _,⟨_,rfl⟩,q⟩
theorem jm {J:It} {H1:Hp} {σ:St} {ix:List Nat} {tc:TT} {te:TE} {Q:VK} {I0:Hp -> Prop} (ws:List Str) (p:Str -> Bool) (hJ:JSeq J I0 (ws.map V.str)) (h0:I0 H1) (hz:ws.length <= 1000)
   (hc:∀ n ∈ ws,∀ H2,Same H1 H2 -> ∀ Q':Bool -> Hp -> Prop,(∀ H3,Same H2 H3 -> Q' (p n) H3) -> tc (some (.str n) :: cq σ ix) H2 Q')
   (he:∀ (n:Str) H2 (Q':VK),Q' (.str n) H2 -> te (some (.str n) :: cq σ ix) H2 Q')
   (hQ:∀ D H',H1 D = none -> Same H1 H' -> H' D = some (.lst ((ws.filter p).map V.str)) -> Q (.ref D) H'):ik J H1 σ ix tc te Q:=by
 have pv:∀ n:Str,(fun v:V=>match v with | .str i=>p i | _=>false) (V.str n) = p n:=fun n=>rfl
 refine lz (ws.map V.str) (fun v=>match v with | .str i=>p i | _=>false) id hJ h0 (by rw [List.length_map]; exact Nat.le_trans hz (by decide)) ?_ ?_ ?_
 . intro x hx H2 e2 Q' q'
   obtain ⟨n,hn,rfl⟩:=List.mem_map.mp hx
   exact hc n hn H2 e2 Q' fun H3 e3=>q' H3 e3
 . intro x hx _ H2 e2 Q' q'
   obtain ⟨n,hn,rfl⟩:=List.mem_map.mp hx
   exact he n H2 Q' (q' H2 (Same.refl _))
 . intro D H' hD e hd
   refine hQ D H' hD e ?_
   rw [hd,List.map_id,List.filter_map]
   rfl
theorem ce {a b:TS} {D:Ends} {σ:St} {H:Hp} (h:∀ D':Ends,(∀ σ H,b D σ H -> D'.nx σ H) -> (∀ v H,D.rt v H -> D'.rt v H) -> (∀ σ H,D.ct σ H -> D'.ct σ H) -> a D' σ H):tSeq a b D σ H:=h { D with nx:=b D } (fun _ _ z=>z) (fun _ _ z=>z) (fun _ _ z=>z)
theorem ni {K:PySem.W.Frag} (H H':Hp) (a:Addr) (r:List Str) (h:RowAt K H a r) (k:∀ b u,H b = some u -> (∀ ys,u ≠ .lst ys) -> H' b = some u):RowAt K H' a r:=by
 rcases h with (h | ⟨o,h⟩) | h
 . exact .inl (.inl (k _ _ h fun ys z=>by cases z))
 . exact .inl (.inr ⟨o,k _ _ h fun ys z=>by cases z⟩)
 . exact .inr h
theorem mt {α β:Type} {J:It} {H1:Hp} {σ:St} {ix:List Nat} {tc:TT} {te:TE} {Q:VK} {I0:Hp -> Prop} (xs:List V) (rs:List α) (p:α -> Bool) (R:Hp -> Addr -> β -> Prop) (f:α -> β) (hJ:JSeq J I0 xs) (h0:I0 H1) (hz:xs.length <= 1000) (hl:rs.length = xs.length)
   (hR:∀ H H' a r,R H a r -> (∀ b u,H b = some u -> (∀ ys,u ≠ .lst ys) -> H' b = some u) -> R H' a r)
   (hc:∀ (i:Nat) (x:V) (r:α),xs[i]? = some x -> rs[i]? = some r -> ∀ H2,Same H1 H2 -> ∀ Q':Bool -> Hp -> Prop,(∀ H3,Same H2 H3 -> Q' (p r) H3) -> tc (some x :: cq σ ix) H2 Q')
   (he:∀ (i:Nat) (x:V) (r:α),xs[i]? = some x -> rs[i]? = some r -> p r = true -> ∀ H2,Same H1 H2 -> ∀ Q':VK,(∀ t H3,Same H2 H3 -> R H3 t (f r) -> Q' (.ref t) H3) -> te (some x :: cq σ ix) H2 Q')
   (hQ:∀ D H' as,H1 D = none -> Same H1 H' -> H' D = some (.lst (as.map V.ref)) -> Paired (fun a r=>R H' a r) as ((rs.filter p).map f) -> Q (.ref D) H'):ik J H1 σ ix tc te Q:=by
 intro D hD
 have put:∀ H ys,Same H1 H -> Same H1 (upd H D (.lst ys)):=fun H ys e b u q=>by rw [ag (az q hD)]; exact e b u q
 refine ⟨fun i m H=>i <= xs.length /\ m = xs.length - i /\ Same H1 H /\ ∃ as:List Addr,H D = some (.lst (as.map V.ref)) /\ Paired (fun a r=>R H a r) as (((rs.take i).filter p).map f),⟨xs.length,Nat.zero_le _,rfl,put _ _ (Same.refl _),[],aa,by simpa using Paired.nil⟩,?_⟩
 rintro i m H ⟨hi,rfl,e,as,hy,hp⟩
 have hI:=hJ.stay _ _ h0 e
 by_cases hlt:i < xs.length
 . refine .inr ⟨hJ.go i H hI hlt,fun x H' hy'=>?_⟩
   obtain ⟨rfl,hx⟩:=hJ.yld i H x H' hlt hI hy'
   have hri:i < rs.length:=by lia
   have hr:rs[i]? = some rs[i]:=List.getElem?_eq_getElem hri
   have ht:rs.take (i + 1) = rs.take i ++ [rs[i]]:=by rw [List.take_add_one,hr]; rfl
   have hlen:as.length <= i:=by
     have h1:=Paired.length hp
     have h2:=List.length_filter_le p (rs.take i)
     rw [List.length_map] at h1
     rw [List.length_take] at h2
     lia
   refine hc i x rs[i] hx hr _ e _ fun H3 e3=>?_
   cases hpx:p rs[i] with
   | false =>
     rw [if_neg Bool.false_ne_true]
     refine ⟨xs.length - (i + 1),by lia,hlt,rfl,e.trans e3,as,e3 _ _ hy,?_⟩
     rw [ht,List.filter_append]
     simp only [List.filter_cons,hpx,List.filter_nil,List.append_nil,Bool.false_eq_true,if_false]
     exact Paired.mapP hp fun a r z=>hR _ _ _ _ z fun b u q _=>e3 b u q
   | true =>
     rw [if_pos rfl]
     refine he i x rs[i] hx hr hpx _ (e.trans e3) _ fun t H4 e4 hR4=>?_
     have e34:=e3.trans e4
     have hput:∀ b u,H4 b = some u -> (∀ ys,u ≠ .lst ys) -> upd H4 D (.lst (as.map V.ref ++ [.ref t])) b = some u:=fun b u q hn=>by
       have:b ≠ D:=fun z=>by rw [z,e34 _ _ hy] at q; exact hn _ (Option.some.inj q).symm
       rw [ag this]; exact q
     refine ⟨as.map V.ref,e34 _ _ hy,by rw [List.length_map]; exact Nat.lt_of_le_of_lt (show as.length <= 1000 by lia) (by decide),xs.length - (i + 1),by lia,hlt,rfl,put _ _ (e.trans e34),as ++ [t],by rw [aa,List.map_append]; rfl,?_⟩
     rw [ht,List.filter_append]
     simp only [List.filter_cons,hpx,List.filter_nil,if_true]
     rw [List.map_append]
     exact Paired.snocP (Paired.mapP hp fun a r z=>hR _ _ _ _ (hR _ _ _ _ z fun b u q _=>e34 b u q) hput) (hR _ _ _ _ hR4 hput)
 . have hi':i = xs.length:=by lia
   subst hi'
   refine .inl ⟨hJ.stop _ H hI (Nat.le_refl _),?_⟩
   rw [<- hl,List.take_length] at hp
   exact hQ D H as hD e hy hp
end L2
namespace K23
open PySem PySem.Spec L2 Mir Kn
noncomputable def nots (F:List (List Str)):List (Str × Str):=F.filterMap fun (r:List Str)=>if (r.getD 0 "" : Str) = ("not" : Str) then some ((r.getD 1 "",r.getD 2 ""):Str × Str) else none
theorem u7 (F:List (List Str)):(nots F).length <= F.length:=List.length_filterMap_le _ _
theorem a3u (F:List (List Str)) (u v:Str):nots (F ++ [[("not" : Str),u,v]]) = nots F ++ [(u,v)]:=by
 unfold nots
 rw [List.filterMap_append]
 rfl
theorem a6e (F:List (List Str)) {k u v:Str} (h:¬ k = "not"):nots (F ++ [[k,u,v]]) = nots F:=by
 unfold nots
 rw [List.filterMap_append,List.filterMap_cons]
 have e:(if ([k,u,v].getD 0 "" : Str) = ("not" : Str) then some (([k,u,v].getD 1 "",[k,u,v].getD 2 ""):Str × Str) else none) = none:=if_neg h
 rw [e]
 simp
theorem um {F:List (List Str)} (hF:∀ r ∈ F,cm r) {u v:Str}:(u,v) ∈ nots F ↔ [("not" : Str),u,v] ∈ F:=by
 unfold nots
 rw [List.mem_filterMap]
 constructor
 . rintro ⟨r,hr,e⟩
   obtain ⟨k,a,b,rfl,hk⟩:=hF r hr
   by_cases c:k = "not"
   . rw [if_pos (show ([k,a,b].getD 0 "") = "not" from c)] at e
     have e':(a,b) = (u,v):=Option.some.inj e
     injection e' with e1 e2
     rw [<- e1,<- e2,<- c]; exact hr
   . rw [if_neg (show ¬ ([k,a,b].getD 0 "") = "not" from c)] at e
     cases e
 . intro h
   exact ⟨_,h,by rw [if_pos (show ([("not" : Str),u,v].getD 0 "") = "not" from rfl)]; rfl⟩
theorem a7u {F P:List (List Str)} (hF:∀ r ∈ F,cm r):Going F P (nots F) []:=⟨fun u v h=>(um hF).mpr h,fun q hq=>(cu F P).fact _ _ ((um hF).mp hq),.nil,fun i hi=>by simp at hi,fun i hi=>by simp at hi,fun i hi=>by simp at hi⟩
open Classical in
noncomputable def dz (P:List (List Str)) (h:Str -> Str) (n:Nat):Bool:=decide (∃ r,P[n]? = some r /\ fi r h [])
open Classical in
theorem emptyB_iff {P:List (List Str)} {h:Str -> Str} {n:Nat}:dz P h n = true ↔ ∃ r,P[n]? = some r /\ fi r h []:=by
 unfold dz
 exact ⟨fun z=>of_decide_eq_true z,fun z=>decide_eq_true z⟩
theorem a01 {P:List (List Str)} {h:Str -> Str} {L:List (Str × Str)} {n:Nat} {r:List Str} {b:Bool} (hn:P[n]? = some r) (hb:b = true ↔ fi r h L):(!dz P h n) = !b:=by
 congr 1
 rw [Bool.eq_iff_iff,emptyB_iff,hb]
 constructor
 . rintro ⟨r',h1,h2⟩
   rw [hn] at h1
   cases h1
   exact h2
 . exact fun z=>⟨r,hn,z⟩
inductive spInitPS (K:PySem.W.Frag) (C:Addr) (vs:List V) (H:Hp) (Q:VK):Prop
 | mk (p dx fl pl0:Addr) (F P:List (List Str)) (h0:vs = [.ref p,.ref fl,.ref pl0]) (h1:H p = some (.ins C dx [])) (h2:RowsAt K H fl F) (h3:F.length <= 100) (h4:(∀ r ∈ F,cm r)) (h5:RowsAt K H pl0 P) (h6:P.length <= 15) (h7:(∀ r ∈ P,PartRow r)) (h8:∀ pl hd un fu L Fl D dx' fs' H',Kp (· = p) H H' -> KnS K C H' p pl hd un fu F P L -> H' fu = some (.dK (fk Fl)) -> AllTold F P L Fl -> Going F P L Fl -> H' p = some (.ins C dx' fs') -> fs'.lookup ("not_empty" : Str) = some (.ref D) -> KFs fs' pl hd un fu -> H' D = some (.lst (((List.range P.length).filter fun n => !dz P (ap F) n).map natV)) -> L.length <= 400 -> Q .non H'):spInitPS K C vs H Q
noncomputable def x9 (K:PySem.W.Frag) (C:Addr):Sp:=fun vs H Q _=>spInitPS K C vs H Q
theorem xj:∀ m ∈ qm,m ≠ ("parts" : Str) /\ m ≠ ("heads" : Str) /\ m ≠ ("unlikes" : Str) /\ m ≠ ("fulls" : Str) /\ m ≠ ("not_empty" : Str):=by decide +kernel
theorem a0r:("parts" : Str) ≠ "heads" /\ ("parts" : Str) ≠ "unlikes" /\ ("parts" : Str) ≠ "fulls" /\ ("parts" : Str) ≠ "not_empty" /\ ("heads" : Str) ≠ "unlikes" /\ ("heads" : Str) ≠ "fulls" /\ ("heads" : Str) ≠ "not_empty" /\ ("unlikes" : Str) ≠ "fulls" /\ ("unlikes" : Str) ≠ "not_empty" /\ ("fulls" : Str) ≠ "not_empty" := by decide +kernel
theorem kfs4 (pl hd un fu:Addr):KFs (putF "fulls" (.ref fu) (putF "unlikes" (.ref un) (putF "heads" (.ref hd) (putF "parts" (.ref pl) [])))) pl hd un fu:=by
 obtain ⟨n1,n2,n3,n4,n5,n6,n7,n8,n9,n10⟩:=a0r
 refine ⟨?_,?_,?_,?_,?_,fun m hm=>?_⟩
 . rw [b7,if_neg n3,b7,if_neg n2,b7,if_neg n1,b7,if_pos rfl]
 . rw [b7,if_neg n6,b7,if_neg n5,b7,if_pos rfl]
 . rw [b7,if_neg n8,b7,if_pos rfl]
 . rw [b7,if_pos rfl]
 . have h1:=cb "parts" (.ref pl) []
   have h2:=cb "heads" (.ref hd) (putF "parts" (.ref pl) [])
   have h3:=cb "unlikes" (.ref un) (putF "heads" (.ref hd) (putF "parts" (.ref pl) []))
   have h4:=cb "fulls" (.ref fu) (putF "unlikes" (.ref un) (putF "heads" (.ref hd) (putF "parts" (.ref pl) [])))
   simp only [List.length_nil] at h1
   lia
 . obtain ⟨m1,m2,m3,m4,m5⟩:=xj m hm
   rw [b7,if_neg m4,b7,if_neg m3,b7,if_neg m2,b7,if_neg m1]; rfl
theorem KFs.more {fs:List (Str × V)} {pl hd un fu:Addr} (h:KFs fs pl hd un fu) (v:V) (hl:fs.length < 50):KFs (putF "not_empty" v fs) pl hd un fu:=by
 obtain ⟨n1,n2,n3,n4,n5,n6,n7,n8,n9,n10⟩:=a0r
 refine ⟨?_,?_,?_,?_,?_,fun m hm=>?_⟩
 . rw [b7,if_neg n4]; exact h.parts
 . rw [b7,if_neg n7]; exact h.heads
 . rw [b7,if_neg n9]; exact h.unlikes
 . rw [b7,if_neg n10]; exact h.fulls
 . have:=cb "not_empty" v fs; lia
 . rw [b7,if_neg (xj m hm).2.2.2.2]; exact h.meth m hm
theorem a3r {K:PySem.W.Frag} {H H':Hp} {p fl C dx:Addr} {fs:List (Str × V)} {F:List (List Str)} (hp:H p = some (.ins C dx fs)) (k:Kp (· = p) H H') (h:RowsAt K H fl F):RowsAt K H' fl F:=by
 obtain ⟨as,h1,h2⟩:=h
 refine ⟨as,k _ _ h1 (fun z=>by have z':fl = p:=z; rw [z',hp] at h1; cases h1),Paired.mapP h2 fun b r hb=>?_⟩
 rcases hb with (z | ⟨o,z⟩) | z
 . exact .inl (.inl (k _ _ z fun y=>by have y':b = p:=y; rw [y',hp] at z; cases z))
 . exact .inl (.inr ⟨o,k _ _ z fun y=>by have y':b = p:=y; rw [y',hp] at z; cases z⟩)
 . exact .inr z
section
variable {P:Program} {w:World} {K:PySem.W.Frag} {mg:Str -> Option Value} {base:Heap} {f C fI gH gU gF gE:Addr} {fd dH dU dF dE:FuncData}
theorem scInit:FnScope ["self", "facts", "parts", "fact"] ["self", "facts", "parts"] (ao ya):=⟨rfl,rfl,rfl,by decide +kernel,rfl,by decide +kernel,by decide +kernel⟩
theorem a2w (Cn:Con K mg w) (T:Txt K mg C fI) (F:Fun K "__init__" "Knowledge.__init__" ya f fd) (GH:FnOk P w K mg base CX0 1 gH dH ["facts"] (qh K)) (cH:Cal K mg "heads_of" gH dH ["facts"])
   (GU:FnOk P w K mg base CX0 2 gU dU ["self", "one", "other"] (p7 C)) (cU:MCal K C "tell_unlike" gU dU ["self", "one", "other"]) (GF:FnOk P w K mg base CX0 4 gF dF ["self"] (a0m K C)) (cF:MCal K C "find_fulls" gF dF ["self"])
   (GE:FnOk P w K mg base CX0 3 gE dE ["self", "number"] (kf K C fi)) (cE:MCal K C "is_empty" gE dE ["self", "number"]):FnOk P w K mg base CX0 5 f fd ["self", "facts", "parts"] (x9 K C):=by
 refine F.okQ scInit (fun vs H Q E h=>?_) (fun cdv A outer s0 H vs Q E hr h=>?_)
 . obtain ⟨p,dx,fl,pl0,F,P,rfl,_⟩:=h; rfl
 obtain ⟨p,dx,fl,pl0,Fs,Ps,rfl,h1,hF,hFl,hrow,hPP,hP15,hPr,q⟩:=h
 obtain ⟨pas,hP0,hPp⟩:=id hPP
 have hpal:=Paired.length hPp
 have nd:=scInit.nd
 have hu1:=df hr
 have hr3:=hr.mono (j:=3) (by lia)
 have hr2:=hr.mono (j:=2) (by lia)
 have hr1:=hr.mono (j:=1) (by lia)
 refine ⟨_,ac (j8 (K:=K) rfl (qv 0) (cf (lb (K:=K) rfl) rfl Cn.list PyProof.Rows.boot_list (af (qv 2) ab)))
   (ac (j8 (K:=K) rfl (qv 0) (ax GH hr1 rfl cH.name cH.keep cH.bind .nil av (af (qv 1) ab)))
   (ac (j8 (K:=K) rfl (qv 0) mn)
   (ac (j8 (K:=K) rfl (qv 0) j6)
   (ac (bg PassesOwn.never rfl (b8 (K:=K) rfl (qv 1)) (au (i:=3) nd rfl (Or.inl rfl)) (ah (bf (ar bw (ai (ixTk (K:=K) rfl) (qv 3) ad (fun _ _=>rfl)) bt (aq _)) (ah (bq (c7 (qv 0) T.cl cU.meth GU hr2 cU.bind .nil av (ay (ai (ixTk (K:=K) rfl) (qv 3) ad (fun _ _=>rfl)) (ay (ai (ixTk (K:=K) rfl) (qv 3) ad (fun _ _=>rfl)) ab))))) bc)))
   (ac (bq (a2c (qv 0) T.cl cF.meth GF hr cF.bind .nil av))
   (ah (j8 (K:=K) rfl (qv 0) (iq ["number", "self"] [0] (cw rfl Cn.range (bv (b0 (ej (K:=K) rfl) rfl Cn.len PySem.boot_len (af (qv 2) ab)) ab)) (fun _ _ _ _=>(fe (fz (db (c7 (qv 1) T.cl cE.meth GE hr3 cE.bind .nil av (af (qv 0) ab)))))) (fun _ _ _ _=>(qv 0)))))))))),?_⟩
 have kr:∀ {Hx:Hp},Kp (· = p) H Hx -> RowsAt K Hx fl Fs:=fun k=>a3r h1 k hF
 have small:∀ {n:Nat},n <= 10 -> n < 1000:=fun h=>by lia
 refine ⟨_,rfl,pl0,_,rfl,.inl (SqL.of hP0),fun pl hpl=>?_⟩
 have hpp:p ≠ pl:=az h1 hpl
 refine ⟨_,rfl,p,C,dx,_,rfl,(by rw [ag hpp]; exact h1),T.cl,T.nP,small (Nat.zero_le _),?_⟩
 have k1:Kp (· = p) H (upd (upd H pl (.lst (pas.map V.ref))) p (.ins C dx (putF "parts" (.ref pl) []))):=fun b o hb n=>by rw [ag n]; exact ae hpl _ _ _ hb
 have hp1:(upd (upd H pl (.lst (pas.map V.ref))) p (.ins C dx (putF "parts" (.ref pl) []))) p = some (.ins C dx (putF "parts" (.ref pl) [])):=aa
 have hl1:(upd (upd H pl (.lst (pas.map V.ref))) p (.ins C dx (putF "parts" (.ref pl) []))) pl = some (.lst (pas.map V.ref)):=by rw [ag (Ne.symm hpp),aa]
 generalize upd (upd H pl (.lst (pas.map V.ref))) p (.ins C dx (putF "parts" (.ref pl) [])) = H1 at k1 hp1 hl1 |-
 refine ⟨_,rfl,fl,Fs,rfl,kr k1,hFl,hrow,fun hd hm H2 e2 hhd0 hhd hml hok=>?_⟩
 have hp2:=e2 _ _ hp1
 have hl2:=e2 _ _ hl1
 have hphd:p ≠ hd:=az hp1 hhd0
 have hplhd:pl ≠ hd:=az hl1 hhd0
 have len1:(putF "parts" (.ref pl) []).length <= 1:=cb _ _ _
 refine ⟨_,rfl,p,C,dx,_,rfl,hp2,T.cl,T.nH,small (by lia),?_⟩
 have k2:Kp (· = p) H (upd H2 p (.ins C dx (putF "heads" (.ref hd) (putF "parts" (.ref pl) [])))):=fun b o hb n=>by rw [ag n]; exact e2 _ _ (k1 b o hb n)
 have hp2':(upd H2 p (.ins C dx (putF "heads" (.ref hd) (putF "parts" (.ref pl) [])))) p = some (.ins C dx (putF "heads" (.ref hd) (putF "parts" (.ref pl) []))):=aa
 have hl2':(upd H2 p (.ins C dx (putF "heads" (.ref hd) (putF "parts" (.ref pl) [])))) pl = some (.lst (pas.map V.ref)):=by rw [ag (Ne.symm hpp)]; exact hl2
 have hd2:(upd H2 p (.ins C dx (putF "heads" (.ref hd) (putF "parts" (.ref pl) [])))) hd = some (.dK (dS hm)):=by rw [ag (Ne.symm hphd)]; exact hhd
 have len2:(putF "heads" (.ref hd) (putF "parts" (.ref pl) [])).length <= 2:=by have:=cb "heads" (.ref hd) (putF "parts" (.ref pl) []); lia
 generalize upd H2 p (.ins C dx (putF "heads" (.ref hd) (putF "parts" (.ref pl) []))) = H3 at k2 hp2' hl2' hd2 |-
 intro un hun
 have hpu:p ≠ un:=az hp2' hun
 have s4:=ae hun (.dT [])
 refine ⟨_,rfl,p,C,dx,_,rfl,s4 _ _ hp2',T.cl,T.nU,small (by lia),?_⟩
 have len3:(putF "unlikes" (.ref un) (putF "heads" (.ref hd) (putF "parts" (.ref pl) []))).length <= 3:=by have:=cb "unlikes" (.ref un) (putF "heads" (.ref hd) (putF "parts" (.ref pl) [])); lia
 have k3:Kp (· = p) H (upd (upd H3 un (.dT [])) p (.ins C dx (putF "unlikes" (.ref un) (putF "heads" (.ref hd) (putF "parts" (.ref pl) []))))):=fun b o hb n=>by rw [ag n]; exact s4 _ _ (k2 b o hb n)
 have hp3:(upd (upd H3 un (.dT [])) p (.ins C dx (putF "unlikes" (.ref un) (putF "heads" (.ref hd) (putF "parts" (.ref pl) []))))) p = some (.ins C dx (putF "unlikes" (.ref un) (putF "heads" (.ref hd) (putF "parts" (.ref pl) [])))):=aa
 have hl3:(upd (upd H3 un (.dT [])) p (.ins C dx (putF "unlikes" (.ref un) (putF "heads" (.ref hd) (putF "parts" (.ref pl) []))))) pl = some (.lst (pas.map V.ref)):=by rw [ag (Ne.symm hpp)]; exact s4 _ _ hl2'
 have hd3:(upd (upd H3 un (.dT [])) p (.ins C dx (putF "unlikes" (.ref un) (putF "heads" (.ref hd) (putF "parts" (.ref pl) []))))) hd = some (.dK (dS hm)):=by rw [ag (Ne.symm hphd)]; exact s4 _ _ hd2
 have hu3:(upd (upd H3 un (.dT [])) p (.ins C dx (putF "unlikes" (.ref un) (putF "heads" (.ref hd) (putF "parts" (.ref pl) []))))) un = some (.dT []):=by rw [ag (Ne.symm hpu),aa]
 have un0:H un = none:=by
   cases qz:H un with
   | none=>rfl
   | some o=>have:=k2 un o qz (fun z=>hpu z.symm); rw [hun] at this; cases this
 generalize upd (upd H3 un (.dT [])) p (.ins C dx (putF "unlikes" (.ref un) (putF "heads" (.ref hd) (putF "parts" (.ref pl) [])))) = H4 at k3 hp3 hl3 hd3 hu3 |-
 intro fu hfu
 have hpf:p ≠ fu:=az hp3 hfu
 have s5:=ae hfu (.dK [])
 refine ⟨_,rfl,p,C,dx,_,rfl,s5 _ _ hp3,T.cl,T.nF,small (by lia),?_⟩
 have KF:=kfs4 pl hd un fu
 have len4:(putF "fulls" (.ref fu) (putF "unlikes" (.ref un) (putF "heads" (.ref hd) (putF "parts" (.ref pl) [])))).length <= 4:=by have:=cb "fulls" (.ref fu) (putF "unlikes" (.ref un) (putF "heads" (.ref hd) (putF "parts" (.ref pl) []))); lia
 generalize putF "fulls" (.ref fu) (putF "unlikes" (.ref un) (putF "heads" (.ref hd) (putF "parts" (.ref pl) []))) = f4 at KF len4 |-
 have k4:Kp (· = p) H (upd (upd H4 fu (.dK [])) p (.ins C dx f4)):=fun b o hb n=>by rw [ag n]; exact s5 _ _ (k3 b o hb n)
 have hl4:(upd (upd H4 fu (.dK [])) p (.ins C dx f4)) pl = some (.lst (pas.map V.ref)):=by rw [ag (Ne.symm hpp)]; exact s5 _ _ hl3
 have K4:KnAt C (upd (upd H4 fu (.dK [])) p (.ins C dx f4)) p pl hd un fu hm []:=⟨⟨dx,f4,aa,KF⟩,by rw [ag (Ne.symm hphd)]; exact s5 _ _ hd3,by rw [ag (Ne.symm hpu)]; exact s5 _ _ hu3⟩
 have hp4:(upd (upd H4 fu (.dK [])) p (.ins C dx f4)) p = some (.ins C dx f4):=aa
 have hfu4:(upd (upd H4 fu (.dK [])) p (.ins C dx f4)) fu = some (.dK (fk [])):=by rw [ag (Ne.symm hpf),aa]; rfl
 generalize upd (upd H4 fu (.dK [])) p (.ins C dx f4) = H5 at k4 hl4 K4 hp4 hfu4 |-
 have hrows:=kr k4
 obtain ⟨fas,hfl,hfp⟩:=hrows
 have hfal:=Paired.length hfp
 obtain ⟨fas0,hfl0,hfp0⟩:=hF
 have hflp:fl ≠ p:=fun z=>by rw [z,h1] at hfl0; cases hfl0
 have hflu:fl ≠ un:=fun z=>by rw [z,un0] at hfl0; cases hfl0
 have efas:fas = fas0:=by
   have:=k4 _ _ hfl0 hflp
   rw [hfl] at this
   have e:=Option.some.inj this
   injection e with e
   exact List.map_inj_right (fun a b h=>by injection h) |>.mp e
 subst efas
 dsimp only
 refine ce (a:=tFor _ _ _) fun D1 hN1 hR1_ hC1_=>?_
 refine ⟨_,rfl,fl,rfl,⟨_,SqL.of hfl⟩,?_⟩
 refine bj (xs:=fas.map V.ref) (fun i σ H'=>Kp (· = un) H5 H' /\ Ex2 fun (uk:List (List Key × V)) (z3:Option V)=>And3 (H' un = some (.dT uk)) (UkT uk (ap Fs) (nots (Fs.take i))) (σ = [some (.ref p),some (.ref fl),some (.ref pl0),z3]))
   ⟨fun _ _ q _=>q,[],none,K4.uns,⟨(fun q hq=>nomatch hq),(Nat.zero_le _),(fun a b=>⟨(fun h=>nomatch h),(fun ⟨_,h,_⟩=>by rw [List.take_zero] at h; cases h)⟩)⟩,rfl⟩ (fun i σ H' _ pv=>SqL.of (pv.1 _ _ hfl fun z=>hflu z)) ?_ ?_
 . rintro i x σ H' hi ⟨kk,uk,z3,hU,hUk,rfl⟩
   obtain ⟨b,hb,rfl⟩:=ee hi
   obtain ⟨r,hr1',hr2'⟩:=Paired.nth hfp hb
   have hil:i < Fs.length:=(List.getElem?_eq_some_iff.mp hr1').1
   obtain ⟨k,u,v,rfl,hk⟩:=hrow r (List.mem_of_getElem? hr1')
   have hR:RowAt K H' b [k,u,v]:=by
     rcases hr2' with (z | ⟨o,z⟩) | z
     . exact .inl (.inl (kk _ _ z fun y=>by have y':b = un:=y; rw [y',K4.uns] at z; cases z))
     . exact .inl (.inr ⟨o,kk _ _ z fun y=>by have y':b = un:=y; rw [y',K4.uns] at z; cases z⟩)
     . exact .inr z
   have htk:Fs.take (i + 1) = Fs.take i ++ [[k,u,v]]:=by rw [List.take_add_one,hr1']; rfl
   have KN:=K4.tell kk hU
   obtain ⟨dx',fs',g1,g2⟩:=KN.ob
   have hlu:=hUk.len
   have hltk:(nots (Fs.take i)).length <= i:=Nat.le_trans (u7 _) (by rw [List.length_take]; lia)
   refine ⟨_,rfl,b,_,0,.str k,rfl,rfl,hR,rfl,rfl,_,rfl,iteB (fun c=>?_) (fun c=>?_)⟩
   . have hk':k = "not" := by simpa using c
     subst hk'
     refine ⟨_,rfl,p,dx',fs',rfl,g1,g2.meth "tell_unlike" (by decide +kernel),_,rfl,b,_,1,.str u,rfl,rfl,hR,rfl,_,rfl,b,_,2,.str v,rfl,rfl,hR,rfl,p,pl,hd,un,fu,hm,uk,u,v,rfl,KN,by lia,fun H6 k6 hu6=>?_⟩
     rw [hok.hd,hok.hd] at hu6
     refine ⟨fun b o q n=>k6 b o (kk b o q n) n,_,_,hu6,?_,rfl⟩
     rw [htk,a3u]
     exact hUk.step u v
   . have hk':¬ k = "not" := by simpa using c
     refine ⟨kk,uk,_,hU,?_,rfl⟩
     rw [htk]
     rw [a6e _ hk']
     exact hUk
 rintro σ H' ⟨kk,uk,z3,hU,hUk,rfl⟩
 refine hN1 _ _ ?_
 clear hN1 hR1_ hC1_ D1
 rw [List.length_map,hfal,List.take_length] at hUk
 have KN:=K4.tell kk hU
 obtain ⟨dx',fs',g1,g2⟩:=KN.ob
 have hplu:pl ≠ un:=fun z=>by rw [z,K4.uns] at hl4; cases hl4
 have hkp:∀ {b:Addr} {o:HO},H b = some o -> b ≠ p -> H' b = some o:=fun {b o} hb n=>kk _ _ (k4 b o hb n) (fun z=>by have z':b = un:=z; rw [z',un0] at hb; cases hb)
 have hrowsP:Paired (fun b r=>RowAt K H' b r) pas Ps:=Paired.mapP hPp fun b r hb=>by
   rcases hb with (z | ⟨o,z⟩) | z
   . exact .inl (.inl (hkp z fun y=>by rw [y,h1] at z; cases z))
   . exact .inl (.inr ⟨o,hkp z fun y=>by rw [y,h1] at z; cases z⟩)
   . exact .inr z
 have hfun:fu ≠ un:=fun z=>by rw [z] at hfu; rw [hu3] at hfu; cases hfu
 have hhdf:hd ≠ fu:=fun z=>by rw [<- z] at hfu; rw [hd3] at hfu; cases hfu
 have hfu':H' fu = some (.dK (fk [])):=kk _ _ hfu4 hfun
 have KS:KnS K C H' p pl hd un fu Fs Ps (nots Fs):=⟨⟨hm,uk,KN,hok,hUk⟩,⟨pas,kk _ _ hl4 hplu,hrowsP⟩,hhdf⟩
 have G0:=a7u (P:=Ps) hrow
 refine ⟨_,rfl,p,dx',fs',rfl,g1,g2.meth "find_fulls" (by decide +kernel),p,pl,hd,un,fu,Fs,Ps,nots Fs,rfl,KS,hfu',hrow,hPr,hP15,Nat.le_trans (u7 Fs) hFl,G0,fun L Fl H6 k6 KS6 hfu6 A6 G6 hL6=>?_⟩
 have hp5:H' p = some (.ins C dx f4):=kk _ _ hp4 (fun z=>hpu z)
 have hp6:H6 p = some (.ins C dx f4):=k6 _ _ hp5 (fun z=>z.elim hpu hpf)
 have fu0:H fu = none:=by
   cases qz:H fu with
   | none=>rfl
   | some o=>have:=k3 fu o qz (fun z=>hpf z.symm); rw [hfu] at this; cases this
 have hk6:∀ {b:Addr} {o:HO},H b = some o -> b ≠ p -> H6 b = some o:=fun {b o} hb n=>k6 _ _ (hkp hb n) (fun z=>z.elim (fun y=>by rw [y,un0] at hb; cases hb) (fun y=>by rw [y,fu0] at hb; cases hb))
 have hpl06:H6 pl0 = some (.lst (pas.map V.ref)):=hk6 hP0 (fun z=>by rw [z,h1] at hP0; cases hP0)
 have hml:(pas.map V.ref).length = Ps.length:=by rw [List.length_map]; exact hpal
 refine ⟨_,rfl,pl0,_,rfl,.inl (SqL.of hpl06),_,rfl,(by rw [hml]; lia),(by rw [hml]; lia),?_⟩
 rw [hml,Int.toNat_natCast]
 obtain ⟨⟨hm6,uk6,KN6,hok6,hU6⟩,hrows6,_⟩:=id KS6
 refine i0 (List.range Ps.length) (fun n => !dz Ps (ap Fs) n) (by rw [<- lx]; exact lh) trivial (by rw [List.length_range]; lia) (fun n hn H7 e7 Q' q'=>?_) (fun n H7 Q' q'=>⟨_,rfl,q'⟩) fun D H7 hD e7 hd7=>?_
 . have hn':n < Ps.length:=List.mem_range.mp hn
   have hs:Ps[n]? = some Ps[n]:=List.getElem?_eq_getElem hn'
   refine ⟨_,rfl,p,dx,f4,rfl,e7 _ _ hp6,KF.meth "is_empty" (by decide +kernel),_,rfl,p,pl,hd,un,fu,Fs,Ps,L,n,_,rfl,KS6.same e7,hs,hPr _ (List.getElem_mem (List.mem_range.mp hn)),fun b H8 e8 hb=>⟨b,rfl,?_⟩⟩
   have:=q' H8 e8
   rw [a01 hs hb] at this
   exact this
 have KN7:=KN6.same e7
 have hp7:H7 p = some (.ins C dx f4):=e7 _ _ hp6
 refine ⟨_,rfl,p,C,dx,f4,rfl,hp7,T.cl,T.nE,(by lia),?_⟩
 have hpD:D ≠ p:=fun z=>by rw [z,hp6] at hD; cases hD
 have kpp:Kp (· = p) H7 (upd H7 p (.ins C dx (putF "not_empty" (.ref D) f4))):=fun b o hb n=>by rw [ag n]; exact hb
 refine q pl hd un fu L Fl D dx _ _ (fun b o hb n=>by rw [ag n]; exact e7 _ _ (hk6 hb n)) ⟨⟨hm6,uk6,⟨⟨dx,_,aa,KF.more (.ref D) (by lia)⟩,by rw [ag (Ne.symm hphd)]; exact KN7.hds,by rw [ag (Ne.symm hpu)]; exact KN7.uns⟩,hok6,hU6⟩,iu (hrows6.same e7) kpp (fun b hb=>⟨.ins C dx f4,by rw [show b = p from hb]; exact hp7,.inr (.inr (.inr ⟨_,_,_,rfl⟩))⟩),hhdf⟩ (by rw [ag (Ne.symm hpf)]; exact e7 _ _ hfu6) A6 G6 aa (by rw [b7,if_pos rfl]) (KF.more (.ref D) (by lia)) (by rw [ag hpD]; exact hd7) hL6
end
noncomputable abbrev ua:Stmt:=top 16
noncomputable def Ok (x:Str):Prop:=(PyData.str x).canLay0 = true
theorem Ok.app {x y:Str} (hx:Ok x) (hy:Ok y):Ok (x ++ y):=by
 unfold Ok at *
 simp only [PyData.canLay0] at *
 unfold PyData.strOk at *
 rw [Str.cps_append,Array.all_append,hx,hy]; rfl
theorem jr {rs:List (List Str)} (h:∀ r ∈ rs,∀ y ∈ r,Ok y):EqOk (.list (rs.map dRow)):=by
 have h1:∀ r:List Str,(∀ y ∈ r,Ok y) -> PyData.canLayAll0 (cn r) = true:=fun r h=>by
   unfold cn
   induction r with
   | nil=>simp only [List.map_nil,PyData.canLayAll0]
   | cons x l ih =>
     simp only [List.map_cons,PyData.canLayAll0,Bool.and_eq_true]
     exact ⟨h x (List.mem_cons_self ..),ih fun y hy=>h y (List.mem_cons_of_mem _ hy)⟩
 have h2:∀ r:List Str,PyData.depthAll (cn r) <= 0:=fun r=>by
   unfold cn
   induction r with
   | nil=>simp only [List.map_nil,PyData.depthAll]; exact Nat.le_refl _
   | cons x l ih=>simp only [List.map_cons,PyData.depthAll,PyData.depth]; exact Nat.max_le.mpr ⟨Nat.le_refl _,ih⟩
 have h3:∀ rs:List (List Str),(∀ r ∈ rs,∀ y ∈ r,Ok y) -> PyData.canLayAll0 (rs.map dRow) = true:=fun rs h=>by
   induction rs with
   | nil=>simp only [List.map_nil,PyData.canLayAll0]
   | cons r l ih =>
     simp only [List.map_cons,PyData.canLayAll0,Bool.and_eq_true,dRow,PyData.canLay0]
     exact ⟨h1 r (h r (List.mem_cons_self ..)),ih fun r' hr'=>h r' (List.mem_cons_of_mem _ hr')⟩
 have h4:∀ rs:List (List Str),PyData.depthAll (rs.map dRow) <= 1:=fun rs=>by
   induction rs with
   | nil=>simp only [List.map_nil,PyData.depthAll]; lia
   | cons r l ih =>
     have:=h2 r
     simp only [List.map_cons,PyData.depthAll,dRow,PyData.depth]
     lia
 constructor
 . simp only [PyData.canLay0]
   exact h3 rs h
 . have:=h4 rs
   simp only [PyData.depth]
   lia
inductive spMixedS (vs:List V) (H:Hp) (Q:VK):Prop
 | mk (c:Int) (k:Nat) (h0:vs = [.int c,.int (k:Int)]) (h1:k <= 500) (h2:∀ n:Int,0 <= n -> Q (.int n) H):spMixedS vs H Q
noncomputable def wu:Sp:=fun vs H Q _=>spMixedS vs H Q
inductive tLeftS (D:Ends) (σ:St) (H:Hp):Prop
 | mk (c:Int) (k:Nat) (l:Int) (h0:σ = [some (.int c),some (.int (k:Int)),some (.int l),none,none]) (h1:k <= 500) (h2:∀ l z3,D.nx [some (.int c),some (.int (k:Int)),some (.int l),z3,none] H):tLeftS D σ H
noncomputable def a8q:TS:=fun D σ H=>tLeftS D σ H
inductive tOwnS (D:Ends) (σ:St) (H:Hp):Prop
 | mk (c l:Int) (z1 z3:Option V) (h0:σ = [some (.int c),z1,some (.int l),z3,none]) (h1:(∀ n:Int,0 <= n -> D.rt (.int n) H)) (h2:D.nx σ H):tOwnS D σ H
noncomputable def tOwn:TS:=fun D σ H=>tOwnS D σ H
section
variable {P:Program} {w:World} {K:PySem.W.Frag} {mg:Str -> Option Value} {base:Heap} {f:Addr} {fd:FuncData}
theorem scMixed:FnScope ["_law_cell", "_law_k", "_law_left", "_law_j", "_law_number"] ["_law_cell", "_law_k"] (ao ua):=⟨rfl,rfl,rfl,by decide +kernel,rfl,by decide +kernel,by decide +kernel⟩
theorem a2g (C:Con K mg w) (F:Fun K "_law_mixed" "_law_mixed" ua f fd):FnOk P w K mg base CX0 1 f fd ["_law_cell", "_law_k"] wu:=by
 refine F.okQ scMixed (fun vs H Q E h=>?_) (fun cdv A outer s0 H vs Q E hr h=>?_)
 . obtain ⟨c,k,rfl,_⟩:=h; rfl
 obtain ⟨c,k,rfl,hk,q⟩:=h
 have nd:=scMixed.nd
 refine ⟨_,ac (ak (i:=2) nd rfl (Or.inl rfl) (aj d0 (qv 0) ad))
   (ac (fb (t':=a8q) (bg PassesOwn.never rfl (cw rfl C.range (dt (aj ca (aj d0 (qv 1) ad) (aj bo (qv 1) ad)) ab)) (au (i:=3) nd rfl (Or.inl rfl)) (ac (bf (QW.qt (fg (ar bw (qv 2) ad (aq _)) (ft (ar bw (qv 2) (yz uh ad) (aq _))))) (ah a3m) bc)
   (ah (ak (i:=2) nd rfl (Or.inl rfl) (aj ug (qv 2) ad))))) (fun D σ H hh=>by
     obtain ⟨c,k,l,rfl,hk,go⟩:=hh
     refine ⟨_,rfl,_,_,rfl,rfl,(show CDiv _ 70 from ⟨by decide,by decide⟩),_,rfl,_,_,rfl,rfl,(show (0:Int) < 70 by decide),_,_,rfl,rfl,_,rfl,?_,?_,?_⟩
     . lia
     . lia
     refine fj (lo:=0) (n:=((k:Int) / 70 + (k:Int) % 70).toNat) (fun _ σ H' => ∃ (l:Int) (z3:Option V),H' = H /\ σ = [some (.int c),some (.int (k:Int)),some (.int l),z3,none]) ⟨_,none,rfl,rfl⟩ ?_ ?_
     . rintro i σ H' hi ⟨l,z3,rfl,rfl⟩
       refine ⟨_,rfl,rfl,_,rfl,iteB (fun _=>go _ _) (fun _=>?_)⟩
       refine ⟨_,rfl,_,rfl,rfl,_,rfl,iteB (fun _=>go _ _) (fun _=>?_)⟩
       exact ⟨_,rfl,_,_,rfl,rfl,(show yy _ 2147483587 from ⟨by decide,by decide⟩),_,_,rfl,rfl⟩
     . rintro σ H' ⟨l,z3,rfl,rfl⟩
       exact go _ _))
   (ac (fb (t':=tOwn) (bf (QW.qt (gy (ar bw (aj bo (qv 0) ad) ad (aq _)) (gy (ar gf (qv 2) ad (aq _)) (gm (ar gf (qv 2) (yz uh ad) (aq _)))))) (ah (aw (aj bo (qv 2) ad))) bc) (fun D σ H hh=>by
     obtain ⟨c,l,z1,z3,rfl,go,nx⟩:=hh
     refine ⟨_,rfl,_,_,rfl,rfl,(show (0:Int) < 2 by decide),rfl,_,rfl,iteB (fun _=>?_) (fun _=>nx)⟩
     refine ⟨_,rfl,rfl,_,rfl,iteB (fun _=>?_) (fun _=>nx)⟩
     refine ⟨_,rfl,_,rfl,rfl,_,rfl,iteB (fun _=>?_) (fun _=>nx)⟩
     exact ⟨_,rfl,_,_,rfl,rfl,(show (0:Int) < 2147483587 by decide),go _ (Int.emod_nonneg _ (by decide))⟩))
   (ac (ak (i:=4) nd rfl (Or.inl rfl) (aj bo (aj ca (aj ca (aj g6 (aj bo (qv 0) ad) ad) (aj g6 (aj g6 (qv 1) (qv 1)) ad)) ad) ad))
   (ac (ak (i:=4) nd rfl (Or.inl rfl) (aj bo (aj g6 (qv 4) (qv 4)) ad))
   (ah (aw (aj bo (aj g6 (qv 4) (aj ca (qv 4) ad)) ad))))))),?_⟩
 refine ⟨_,rfl,_,_,rfl,rfl,(show CDiv _ 2 from ⟨by decide,by decide⟩),?_⟩
 refine ⟨c,k,_,rfl,hk,fun l z3=>?_⟩
 refine ⟨c,l,_,_,rfl,q,?_⟩
 have b1:=Int.emod_nonneg c (show (2147483647:Int) ≠ 0 by decide)
 have b2:=Int.emod_lt_of_pos c (show (0:Int) < 2147483647 by decide)
 refine ⟨_,rfl,_,_,rfl,rfl,(show (0:Int) < 2147483647 by decide),_,_,rfl,rfl,.inl ⟨by lia,by lia⟩,_,rfl,_,rfl,_,_,rfl,rfl,.inl ⟨by lia,by lia⟩,_,_,rfl,rfl,.inr ⟨by decide,by decide⟩,_,_,rfl,rfl,_,_,rfl,rfl,_,_,rfl,rfl,(show (0:Int) < 2147483629 by decide),?_⟩
 generalize (c % 2147483647 * 48271 + (k:Int) * (k:Int) * 69621 + 7919) = y
 have b3:=Int.emod_nonneg y (show (2147483629:Int) ≠ 0 by decide)
 have b4:=Int.emod_lt_of_pos y (show (0:Int) < 2147483629 by decide)
 refine ⟨_,rfl,_,rfl,_,_,rfl,rfl,.inl ⟨by lia,by lia⟩,_,_,rfl,rfl,(show (0:Int) < 2147483587 by decide),?_⟩
 generalize (y % 2147483629) * (y % 2147483629) = y2
 have b5:=Int.emod_nonneg y2 (show (2147483587:Int) ≠ 0 by decide)
 have b6:=Int.emod_lt_of_pos y2 (show (0:Int) < 2147483587 by decide)
 refine ⟨_,rfl,_,rfl,_,_,rfl,rfl,_,_,rfl,rfl,.inl ⟨by lia,by lia⟩,_,_,rfl,rfl,(show (0:Int) < 2147483563 by decide),?_⟩
 exact q _ (Int.emod_nonneg _ (by decide))
end
end K23
namespace L2
open PySem PySem.Spec
theorem a3k {z:Str} {g:TG} {tb:TS} {D:Ends} {σ:St} {H:Hp} (Pv:Nat -> St -> Hp -> Prop) (h0:Pv 0 σ H)
   (hs:∀ i c σ H,i < z.cps.size -> z.cps.toList[i]? = some c -> Pv i σ H -> g (.str ⟨#[c]⟩) σ H fun σ2 H2=>tb { D with nx:=Pv (i + 1),ct:=Pv (i + 1),bk:=D.nx } σ2 H2) (hd:∀ σ H,Pv z.cps.size σ H -> D.nx σ H) :
   ∃ W:Nat -> Nat -> St -> Hp -> Prop,(∃ m,W 0 m σ H) /\ ∀ i m σ H,W i m σ H ->
     ((Its z).stop i H /\ D.nx σ H) \/ ((Its z).go i H /\ ∃ N:St -> Hp -> Prop,(∀ σ' H',N σ' H' -> ∃ m',m' < m /\ W (i + 1) m' σ' H') /\ ∀ x H',(Its z).yld i H x H' -> g x σ H' fun σ2 H2=>tb { D with nx:=N,ct:=N,bk:=D.nx } σ2 H2):=by
 refine ⟨fun i m σ H=>m = z.cps.size - i /\ i <= z.cps.size /\ Pv i σ H,⟨z.cps.size,by simp,Nat.zero_le _,h0⟩,?_⟩
 rintro i m σ H ⟨rfl,hi,p⟩
 by_cases hlt:i < z.cps.size
 . refine .inr ⟨hlt,Pv (i + 1),fun σ' H' p'=>⟨z.cps.size - (i + 1),by lia,rfl,hlt,p'⟩,fun x H' y=>?_⟩
   obtain ⟨e,c,hc,y⟩:=y
   subst e y
   exact hs i c σ _ hlt (by rw [Array.getElem?_toList]; exact hc) p
 . have e:i = z.cps.size:=by lia
   subst e
   exact .inl ⟨Nat.le_refl _,hd σ H p⟩
end L2
namespace K23
open PySem PySem.Spec L2 Mir Kn
noncomputable abbrev zh:Stmt:=top 17
noncomputable abbrev uz:Stmt:=top 18
structure Nm (k:Nat) (x:Str):Prop where
 len:x.length <= k
 ok:Ok x
theorem Nm.mono {k k':Nat} {x:Str} (h:Nm k x) (hk:k <= k'):Nm k' x:=⟨Nat.le_trans h.len hk,h.ok⟩
theorem ok_iff {x:Str}:Ok x ↔ ∀ c ∈ x.cps.toList,c < 0x110000:=by
 unfold Ok
 simp only [PyData.canLay0]
 unfold PyData.strOk
 rw [<- Array.all_toList,List.all_eq_true]
 simp only [decide_eq_true_eq]
theorem k8 {z:Str} (h:Ok z) {c:Nat} (hc:c ∈ z.cps.toList):Nm 1 ⟨#[c]⟩:=⟨Nat.le_refl _,ok_iff.mpr fun d hd=>by
 simp only [List.mem_cons,List.not_mem_nil,or_false] at hd
 subst hd
 exact ok_iff.mp h _ hc⟩
theorem Nm.app {j k:Nat} {x y:Str} (hx:Nm j x) (hy:Nm k y):Nm (j + k) (x ++ y):=⟨by
 have h1:=hx.len; have h2:=hy.len
 have:(x ++ y).length = x.length + y.length:=Str.length_append x y
 lia,hx.ok.app hy.ok⟩
theorem Nm.cut {k:Nat} {x:Str} (hx:Nm k x) (lo hi:Option Int):Nm k (cutS x lo hi):=by
 constructor
 . have:=hx.len
   have e:(cutS x lo hi).length <= x.length:=by
     show ((x.cps.toList.drop (HT.sIx x.length 0 lo)).take _).toArray.size <= x.cps.size
     rw [List.size_toArray,List.length_take,List.length_drop,Array.length_toList]
     lia
   lia
 . refine ok_iff.mpr fun c hc=>ok_iff.mp hx.ok c ?_
   have hc':c ∈ (x.cps.toList.drop (HT.sIx x.length 0 lo)).take (HT.sIx x.length x.length hi - HT.sIx x.length 0 lo):=hc
   exact List.mem_of_mem_drop (List.mem_of_mem_take hc')
theorem zc {α:Type} {xs:List α} {i:Int} (h0:0 <= i) (h1:i < xs.length):∃ v,atI xs i = some v /\ v ∈ xs:=by
 obtain ⟨j,rfl⟩:∃ j:Nat,i = (j:Int):=⟨i.toNat,by lia⟩
 have hj:j < xs.length:=by lia
 exact ⟨xs[j],ie (by rw [List.getElem?_eq_getElem hj]),List.getElem_mem hj⟩
theorem ii {n:Nat} (h:n <= 1000):n <= sizeLine:=Nat.le_trans h (by decide)
theorem bm {n:Nat} (h:n <= 1000):n < sizeLine:=Nat.lt_of_le_of_lt h (by decide)
inductive spNamesS (K:PySem.W.Frag) (vs:List V) (H:Hp) (Q:VK):Prop
 | mk (c:Int) (n:Nat) (h0:vs = [.int c,.int (n:Int)]) (h1:n <= 10) (h2:∀ l xs H',Same H H' -> H' l = some (.lst ((xs:List Str).map V.str)) -> xs.length = n -> (∀ x ∈ xs,Nm 40 x /\ ¬ x ∈ Mir.noNames) -> Q (.ref l) H'):spNamesS K vs H Q
noncomputable def ky (K:PySem.W.Frag):Sp:=fun vs H Q _=>spNamesS K vs H Q
noncomputable def signsT:Str := "abcdefghijklmnopqrstuvwxyz0123456789"
noncomputable def wordsT:List Str:=["nil", "any", "is", "not", "cell", "stretch", "tree", "nothing", "then", "with"]
theorem a2r:wordsT = Mir.noNames:=by decide +kernel
theorem sn {x:Str} {pre:List Nat} {c:Nat} (h:x.cps.toList = pre ++ [c]) (d:Nat):cutS x none (some (-1)) ++ (⟨#[d]⟩:Str) = ⟨(pre ++ [d]).toArray⟩:=by
 have hl:x.length = pre.length + 1:=by
   have:x.cps.toList.length = pre.length + 1:=by rw [h,List.length_append]; rfl
   rw [Array.length_toList] at this
   exact this
 have h1:(cutS x none (some (-1))).cps = pre.toArray:=by
   show (List.take (HT.sIx x.length x.length (some (-1)) - HT.sIx x.length 0 none) (List.drop (HT.sIx x.length 0 none) x.cps.toList)).toArray = _
   have e1:HT.sIx x.length x.length (some (-1)) = pre.length:=by
     unfold HT.sIx
     simp only [hl]
     rw [if_pos (by decide)]
     lia
   have e2:HT.sIx x.length 0 none = 0:=rfl
   rw [e1,e2,List.drop_zero,Nat.sub_zero,h,List.take_left']
   rfl
 have h2:(cutS x none (some (-1)) ++ (⟨#[d]⟩:Str)).cps = (cutS x none (some (-1))).cps ++ #[d]:=Str.cps_append _ _
 have h3:∀ a b:Str,a.cps = b.cps -> a = b:=fun a b e=>by cases a; cases b; cases e; rfl
 refine h3 _ _ ?_
 rw [h2,h1]
 show pre.toArray ++ #[d] = (pre ++ [d]).toArray
 simp
theorem ot {α:Type} [DecidableEq α]:∀ {l m:List α},l.Nodup -> (∀ x ∈ l,x ∈ m) -> l.length <= m.length
 | [],_,_,_=>Nat.zero_le _
 | x :: l,m,hn,hm=>by
   have hx:=hm x (List.mem_cons_self ..)
   obtain ⟨h1,h2⟩:=List.nodup_cons.mp hn
   have h3:=ot (l:=l) (m:=m.erase x) h2 fun y hy=>(List.mem_erase_of_ne (fun z=>h1 (by rw [<- z]; exact hy))).mpr (hm y (List.mem_cons_of_mem _ hy))
   rw [List.length_erase_of_mem hx] at h3
   have:=List.length_pos_of_mem hx
   rw [List.length_cons]
   lia
theorem a71 {pre:List Nat} {ns:List Str} {z:Str} (hz:z.cps.toList.Nodup) (hl:z.cps.size = 26) (hn:ns.length < 26):¬ ∀ k c,k < 26 -> z.cps.toList[k]? = some c -> (⟨(pre ++ [c]).toArray⟩:Str) ∈ ns:=by
 intro h
 have h1:(z.cps.toList.map fun c=>(⟨(pre ++ [c]).toArray⟩:Str)).Nodup:=List.pairwise_map.mpr (List.Pairwise.imp (fun {a b} hab e=>hab (by
   have e2:=congrArg (fun s:Str=>s.cps.toList) e
   simpa using e2)) hz)
 have h2:=ot (m:=ns) h1 fun x hx=>by
   obtain ⟨c,hc,rfl⟩:=List.mem_map.mp hx
   obtain ⟨k,hk,e⟩:=List.getElem_of_mem hc
   rw [Array.length_toList,hl] at hk
   exact h k c hk (List.getElem?_eq_some_iff.mpr ⟨by rw [Array.length_toList]; lia,e⟩)
 rw [List.length_map,Array.length_toList,hl] at h2
 lia
theorem mq:Ok signsT:=show (PyData.str signsT).canLay0 = true by decide +kernel
theorem a36:∀ x ∈ wordsT,Nm 40 x:=fun x hx=>by
 have h1:wordsT.all (fun x=>decide (x.length <= 40) && (PyData.str x).canLay0) = true:=by decide +kernel
 have h2:=List.all_eq_true.mp h1 x hx
 rw [Bool.and_eq_true] at h2
 exact ⟨of_decide_eq_true h2.1,h2.2⟩
section
variable {P:Program} {w:World} {K:PySem.W.Frag} {mg:Str -> Option Value} {base:Heap} {f:Addr} {fd:FuncData}
theorem scFree:FnScope ["_law_cell", "_law_many", "_law_signs", "_law_names_here", "_law_k", "_law_name", "_law_left", "_law_j", "_law_sign"] ["_law_cell", "_law_many"] (ao zh):=⟨rfl,rfl,rfl,by decide +kernel,rfl,by decide +kernel,by decide +kernel⟩
theorem a6j (C:Con K mg w) (F:Fun K "_law_free_names" "_law_free_names" zh f fd):FnOk P w K mg base CX0 1 f fd ["_law_cell", "_law_many"] (ky K):=by
 refine F.okQ scFree (fun vs H Q E h=>?_) (fun cdv A outer s0 H vs Q E hr h=>?_)
 . obtain ⟨c,k,rfl,_⟩:=h; rfl
 obtain ⟨c,n,rfl,hn,q⟩:=h
 have nd:=scFree.nd
 refine ⟨_,ac (ak (i:=2) nd rfl (Or.inl rfl) bt)
   (ac (ak (i:=3) nd rfl (Or.inl rfl) (bp (bd (bd (bd (bd (bd (bd (bd (bd (bd (bd ab))))))))))))
   (ac (bg PassesOwn.never rfl (cw rfl C.range (af (qv 1) ab)) (au (i:=4) nd rfl (Or.inl rfl)) (ac (ak (i:=5) nd rfl (Or.inl rfl) (ai my (qv 2) (aj bo (aj d0 (qv 0) ad) ad) (fun _ _=>rfl)))
   (ac (ak (i:=6) nd rfl (Or.inl rfl) (aj d0 (qv 0) ad))
   (ac (bg PassesOwn.never rfl (cw rfl C.range (dt (aj bo (qv 0) ad) ab)) (au (i:=7) nd rfl (Or.inl rfl)) (ac (ak (i:=5) nd rfl (Or.inl rfl) (aj ia (qv 5) (ai my (qv 2) (aj bo (qv 6) ad) (fun _ _=>rfl))))
   (ah (ak (i:=6) nd rfl (Or.inl rfl) (aj d0 (qv 6) ad)))))
   (ac (bg PassesOwn.never rfl (a76 (ei a0f (qv 2) ge (dk ad))) (au (i:=8) nd rfl (Or.inl rfl)) (ah (bf (ar (inSk (K:=K) rfl) (qv 5) (qv 3) (by with_unfolding_all rfl)) (ah (ak (i:=5) nd rfl (Or.inl rfl) (aj ia (ei a0f (qv 5) ge (dk (yz uh ad))) (qv 8)))) bc)))
   (ac (bq (gh (K:=K) rfl PySem.F.plainAttrs_list PySem.F.slot_list_append PySem.F.type_list_append du (qv 3) (af (qv 5) ab)))
   (ah (ak (i:=0) nd rfl (Or.inl rfl) (aj ug (qv 0) (aj g6 ad (aj a77 ad ad)))))))))))
   (ah (aw (ei (slLk (K:=K) rfl) (qv 3) (dk ad) ge))))),?_⟩
 refine ⟨(by decide),fun l1 hl1=>?_⟩
 have e0:=ae hl1 (.lst (wordsT.map V.str))
 have hL0:(upd H l1 (.lst (wordsT.map V.str))) l1 = some (.lst (wordsT.map V.str)):=aa
 replace e0:Same H (upd H l1 (.lst (wordsT.map V.str))):=e0
 show tSeq _ _ _ _ (upd H l1 (.lst (wordsT.map V.str)))
 generalize upd H l1 (.lst (wordsT.map V.str)) = H1 at e0 hL0 |-
 refine ⟨_,rfl,_,rfl,by lia,(by lia),?_⟩
 refine fj (lo:=0) (n:=(n:Int).toNat) (fun i σ H2=>Ex7 fun (c:Int) (ns:List Str) (z4 z5 z6 z7 z8:Option V)=>And7 (σ = [some (.int c),some (.int (n:Int)),some (.str signsT),some (.ref l1),z4,z5,z6,z7,z8]) (Same H H2) (H2 l1 = some (.lst (ns.map V.str))) (ns.length = 10 + i) ((∀ x ∈ ns,Nm 40 x)) (ns.take 10 = wordsT) (∀ x ∈ ns.drop 10,¬ x ∈ wordsT)) ⟨c,wordsT,none,none,none,none,none,rfl,e0,hL0,rfl,a36,rfl,fun x hx=>by cases hx⟩ ?_ ?_
 . rintro i σ H2 hi ⟨c,ns,z4,z5,z6,z7,z8,rfl,e2,hL2,hl2,hn2,hw2,hx2⟩
   have hi10:i < 10:=by lia
   have hsl:signsT.length <= sizeLine:=by decide +kernel
   have hs36:signsT.cps.toList.length = 36:=by decide +kernel
   have m26:=Int.emod_nonneg (c / 8) (show (26:Int) ≠ 0 by decide)
   have m26':=Int.emod_lt_of_pos (c / 8) (show (0:Int) < 26 by decide)
   obtain ⟨c1,hc1,hm1⟩:=zc (xs:=signsT.cps.toList) (i:=c / 8 % 26) m26 (by rw [hs36]; lia)
   refine ⟨_,rfl,_,rfl,_,_,rfl,rfl,(show CDiv _ 8 from ⟨by decide,by decide⟩),_,_,rfl,rfl,(show (0:Int) < 26 by decide),signsT,_,c1,rfl,rfl,hsl,hc1,?_⟩
   refine ⟨_,rfl,_,_,rfl,rfl,(show CDiv _ 208 from ⟨by decide,by decide⟩),?_⟩
   have m8:=Int.emod_nonneg c (show (8:Int) ≠ 0 by decide)
   have m8':=Int.emod_lt_of_pos c (show (0:Int) < 8 by decide)
   refine ⟨_,rfl,_,_,rfl,rfl,(show (0:Int) < 8 by decide),_,rfl,by lia,by lia,?_⟩
   refine fj (lo:=0) (n:=(c % 8).toNat) (fun j σ H3=>H3 = H2 /\ Ex3 fun (nm:Str) (l:Int) (z7:Option V)=>And3 (σ = [some (.int c),some (.int (n:Int)),some (.str signsT),some (.ref l1),some (.int (0 + (i:Int))),some (.str nm),some (.int l),z7,z8]) (Nm (1 + j) nm) (∃ pre c,nm.cps.toList = pre ++ [c])) ⟨rfl,_,_,_,rfl,k8 mq hm1,[],c1,rfl⟩ ?_ ?_
   . rintro j σ H3 hj ⟨rfl,nm,l,z7,rfl,hnm,hpr⟩
     obtain ⟨c2,hc2,hm2⟩:=nu (xs:=signsT.cps.toList) (m:=36) (i:=l) (by rw [hs36]; rfl) (by decide)
     have hlen:=hnm.len
     refine ⟨_,rfl,_,rfl,_,rfl,_,_,rfl,rfl,(show (0:Int) < 36 by decide),signsT,_,c2,rfl,rfl,hsl,hc2,nm,_,rfl,rfl,ii (by show nm.length + 1 <= 1000; lia),?_⟩
     exact ⟨_,rfl,_,_,rfl,rfl,(show CDiv _ 36 from ⟨by decide,by decide⟩),rfl,_,_,_,rfl,hnm.app (k8 mq hm2),nm.cps.toList,c2,by rw [Str.cps_append,Array.toList_append]⟩
   rintro σ H3 ⟨rfl,nm,l,z7,rfl,hnm,pre,c0,hpre⟩
   have hnm8:Nm 8 nm:=hnm.mono (by lia)
   clear hnm
   have hcm:∀ d ∈ (cutS signsT none (some 26)).cps.toList,d ∈ signsT.cps.toList:=fun d hd=>by
     have hd':d ∈ (signsT.cps.toList.drop (HT.sIx signsT.length 0 none)).take (HT.sIx signsT.length signsT.length (some 26) - HT.sIx signsT.length 0 none):=hd
     exact List.mem_of_mem_drop (List.mem_of_mem_take hd')
   have hcz:(cutS signsT none (some 26)).cps.size = 26:=by decide +kernel
   refine ⟨_,rfl,_,rfl,signsT,rfl,hsl,_,rfl,?_⟩
   refine a3k (fun j σ H4=>H4 = H3 /\ ∃ (nm:Str) (z8:Option V),σ = [some (.int c),some (.int (n:Int)),some (.str signsT),some (.ref l1),some (.int (0 + (i:Int))),some (.str nm),some (.int l),z7,z8] /\ Nm (8 + j) nm /\ (∃ c,nm.cps.toList = pre ++ [c]) /\ (nm ∈ ns -> ∀ k c,k < j -> (cutS signsT none (some 26)).cps.toList[k]? = some c -> (⟨(pre ++ [c]).toArray⟩:Str) ∈ ns)) ⟨rfl,_,_,rfl,hnm8,⟨c0,hpre⟩,fun _ k c hk=>absurd hk (Nat.not_lt_zero k)⟩ ?_ ?_
   . rintro j d σ H4 hj hdj ⟨rfl,nm,z8,rfl,hnm,⟨c9,hc9⟩,hall⟩
     have hd:=List.mem_of_getElem? hdj
     have hlen:=hnm.len
     rw [hcz] at hj
     refine ⟨_,rfl,_,rfl,l1,_,rfl,.inl (SqL.of hL2),rfl,(by rw [List.all_map]; exact List.all_eq_true.mpr fun _ _=>rfl),_,rfl,iteB (fun cin=>?_) (fun cin=>⟨rfl,_,_,rfl,hnm.mono (by lia),⟨c9,hc9⟩,fun z=>by
       have z':inV (.str nm) (ns.map V.str) = true:=(lj nm ns).trans (decide_eq_true z)
       exact absurd (z'.symm.trans cin) (by decide)⟩)⟩
     have hin:nm ∈ ns:=of_decide_eq_true ((lj nm ns).symm.trans cin)
     have hc:=hnm.cut none (some (-1))
     have hcl:=hc.len
     exact ⟨_,rfl,_,rfl,_,rfl,nm,rfl,ii (by lia),_,rfl,_,_,rfl,rfl,ii (by show _ + 1 <= 1000; lia),rfl,_,_,rfl,hc.app (k8 mq (hcm d hd)),⟨d,by rw [sn hc9 d]⟩,fun z k c hk hkc=>by
       by_cases e:k = j
       . subst e
         rw [hdj] at hkc
         cases hkc
         rw [sn hc9 d] at z
         exact z
       . exact hall hin k c (by lia) hkc⟩
   rintro σ H4 ⟨rfl,nm,z8,rfl,hnm,_,hall⟩
   rw [hcz] at hnm hall
   have hfree:¬ nm ∈ ns:=fun z=>a71 (pre:=pre) (ns:=ns) (z:=cutS signsT none (some 26)) (by decide +kernel) hcz (by lia) (hall z)
   refine ⟨_,rfl,(.inl ⟨rfl,_,SqL.of hL2⟩),_,rfl,l1,ns.map V.str,_,rfl,rfl,hL2,bm (by rw [List.length_map]; lia),?_⟩
   refine ⟨_,rfl,_,_,rfl,rfl,(show CPow 36 7 from ⟨by decide,by decide,by decide⟩),_,_,rfl,rfl,.inl ⟨by decide,by decide⟩,_,_,rfl,rfl,(show yy _ _ from ⟨by decide +kernel,by decide +kernel⟩),?_⟩
   refine ⟨_,ns ++ [nm],_,_,_,_,_,rfl,?_,?_,?_,?_,?_,?_⟩
   . exact fun b o hb=>by rw [ag (az hb hl1)]; exact e2 b o hb
   . rw [aa,List.map_append]; rfl
   . rw [List.length_append,List.length_singleton]; lia
   . intro x hx
     rcases List.mem_append.mp hx with hx | hx
     . exact hn2 x hx
     . rw [List.mem_singleton.mp hx]; exact hnm.mono (by lia)
   . rw [List.take_append_of_le_length (by lia)]; exact hw2
   . intro x hx
     rw [List.drop_append_of_le_length (by lia)] at hx
     rcases List.mem_append.mp hx with hx | hx
     . exact hx2 x hx
     . rw [List.mem_singleton.mp hx,<- hw2]; exact fun z=>hfree (List.mem_of_mem_take z)
 rintro σ H2 ⟨c,ns,z4,z5,z6,z7,z8,rfl,e2,hL2,hl2,hn2,hw2,hx2⟩
 refine ⟨_,rfl,_,rfl,l1,_,rfl,SqL.of hL2,fun p hp=>?_⟩
 have hcv:cutV (ns.map V.str) (some 10) none = (ns.drop 10).map V.str:=by
   unfold cutV
   rw [List.length_map,show HT.sIx ns.length 0 (some 10) = 10 by show min 10 ns.length = 10; lia,show HT.sIx ns.length ns.length none = ns.length from rfl,<- List.map_drop,List.take_of_length_le (by rw [List.length_map,List.length_drop]; lia)]
 rw [hcv]
 refine q p (ns.drop 10) _ (e2.trans (ae hp _)) aa (by rw [List.length_drop]; lia) fun x hx=>⟨hn2 x (List.mem_of_mem_drop hx),a2r ▸ hx2 x hx⟩
theorem j5 {X:Cx}:bx X (.type "int") (fun xs H Q => ∃ b:Bool,xs = [.bl b] /\ Q (.int (if b = true then 1 else 0)) H):=by
 intro pins s σ H xs us Q I r h
 obtain ⟨b,rfl,q⟩:=h
 obtain ⟨u,rfl,ru⟩:=r.one
 cases ru
 exact PySem.call_int_bool ⟨.int _,H,I.tok _,⟨_,rfl⟩,q⟩
theorem scNames:FnScope ["_law_cell", "_law_many", "_law_letters", "_law_at", "_law_names_here", "_law_k", "_law_name", "_law_j", "_law_step"] ["_law_cell", "_law_many"] (ao uz):=⟨rfl,rfl,rfl,by decide +kernel,rfl,by decide +kernel,by decide +kernel⟩
noncomputable def lettT:Str := "abcdefghijkmnopqruvwxz"
noncomputable def figT:Str := "0123456789"
theorem a59:Ok lettT:=show (PyData.str lettT).canLay0 = true by decide +kernel
noncomputable def evenS (x:Str):Prop := ∀ c ∈ x.cps.toList,c ∈ lettT.cps.toList ++ figT.cps.toList
theorem a5l {x:Str} (h:evenS x):¬ x ∈ Mir.noNames:=fun hx=>by
 have h1:Mir.noNames.all (fun y=>y.cps.toList.any fun c => !decide (c ∈ lettT.cps.toList ++ figT.cps.toList)) = true:=by decide +kernel
 obtain ⟨c,hc,hn⟩:=List.any_eq_true.mp (List.all_eq_true.mp h1 x hx)
 rw [decide_eq_true (h c hc)] at hn
 cases hn
theorem evenS.app {x:Str} (h:evenS x) {c:Nat} (hc:c ∈ lettT.cps.toList ++ figT.cps.toList):evenS (x ++ ⟨#[c]⟩):=fun d hd=>by
 rw [Str.cps_append,Array.toList_append] at hd
 rcases List.mem_append.mp hd with z | z
 . exact h d z
 . rw [List.mem_singleton.mp z]; exact hc
theorem a7c:Ok figT:=show (PyData.str figT).canLay0 = true by decide +kernel
inductive EvI (H2:Hp) (c n at0:Int) (l1:Addr) (i j:Nat) (σ:St) (H3:Hp):Prop
 | mk (h0:H3 = H2) (nm:Str) (z8 z9:Option V) (h1:σ = [some (.int c),some (.int n),some (.str lettT),some (.int at0),some (.ref l1),some (.int (0 + (i:Int))),some (.str nm),z8,z9]) (h2:Nm j nm) (h3:evenS nm):EvI H2 c n at0 l1 i j σ H3
theorem a4c {gF:Addr} {dF:FuncData} (C:Con K mg w) (F:Fun K "_law_names" "_law_names" uz f fd) (GF:FnOk P w K mg base CX0 1 gF dF ["_law_cell", "_law_many"] (ky K)) (cF:Cal K mg "_law_free_names" gF dF ["_law_cell", "_law_many"]):FnOk P w K mg base CX0 2 f fd ["_law_cell", "_law_many"] (ky K):=by
 refine F.okQ scNames (fun vs H Q E h=>?_) (fun cdv A outer s0 H vs Q E hr h=>?_)
 . obtain ⟨c,k,rfl,_⟩:=h; rfl
 obtain ⟨c,n,rfl,hn,q⟩:=h
 have nd:=scNames.nd
 refine ⟨_,ac (bf (ar bw (aj bo (qv 0) ad) ad (aq _)) (ah (aw (ax GF hr rfl cF.name cF.keep cF.bind .nil av (dt (aj d0 (qv 0) ad) (af (qv 1) ab))))) bc)
   (ac (ak (i:=0) nd rfl (Or.inl rfl) (aj d0 (qv 0) ad))
   (ac (ak (i:=2) nd rfl (Or.inl rfl) bt)
   (ac (ak (i:=3) nd rfl (Or.inl rfl) (aj bo (aj d0 (qv 0) ad) (aj ca ad (aj bo (qv 0) ad))))
   (ac (ak (i:=4) nd rfl (Or.inl rfl) (bp ab))
   (ac (bg PassesOwn.never rfl (cw rfl C.range (af (qv 1) ab)) (au (i:=5) nd rfl (Or.inl rfl)) (ac (ak (i:=6) nd rfl (Or.inl rfl) bt)
   (ac (bg PassesOwn.never rfl (cw rfl C.range (dt (aj ca ad (aj bo (qv 0) ad)) ab)) (au (i:=7) nd rfl (Or.inl rfl)) (ac (ak (i:=8) nd rfl (Or.inl rfl) (aj ca (aj g6 (qv 7) (aj bo (aj d0 (qv 0) ad) ad)) (aj g6 (qv 5) (cf j5 rfl C.int PyProof.Rows.boot_int (gn (dl bw (qv 7) (qv 3) (aq _)) ab)))))
   (ah (bf (QW.qt (gy (ar a4s (qv 7) ad (aq _)) (gm (ar bw (aj bo (aj ca (aj d0 (qv 0) ad) (qv 7)) ad) ad (aq _))))) (ah (ak (i:=6) nd rfl (Or.inl rfl) (aj ia (qv 6) (ai my bt (aj bo (aj ca (aj d0 (qv 0) ad) (qv 8)) ad) (fun _ _=>rfl))))) (ah (ak (i:=6) nd rfl (Or.inl rfl) (aj ia (qv 6) (ai my (qv 2) (aj bo (aj ca (aj d0 (qv 0) ad) (qv 8)) ad) (fun _ _=>rfl)))))))))
   (ah (bq (gh (K:=K) rfl PySem.F.plainAttrs_list PySem.F.slot_list_append PySem.F.type_list_append du (qv 4) (af (qv 6) ab)))))))
   (ah (aw (qv 4)))))))),?_⟩
 refine ⟨_,rfl,_,_,rfl,rfl,(show (0:Int) < 2 by decide),rfl,_,rfl,iteB (fun _=>?_) (fun _=>?_)⟩
 . exact ⟨_,rfl,_,_,rfl,rfl,(show CDiv _ 2 from ⟨by decide,by decide⟩),_,rfl,c / 2,n,rfl,hn,q⟩
 refine ⟨_,rfl,_,_,rfl,rfl,(show CDiv _ 2 from ⟨by decide,by decide⟩),?_⟩
 have m8:=Int.emod_nonneg (c / 2) (show (8:Int) ≠ 0 by decide)
 refine ⟨_,rfl,_,_,rfl,rfl,(show CDiv _ 8 from ⟨by decide,by decide⟩),_,rfl,_,_,rfl,rfl,(show (0:Int) < 8 by decide),_,_,rfl,rfl,_,_,rfl,rfl,(show (0:Int) < 1 + c / 2 % 8 by lia),?_⟩
 refine ⟨(by decide),fun l1 hl1=>?_⟩
 refine ⟨_,rfl,_,rfl,by lia,(by lia),?_⟩
 refine fj (lo:=0) (n:=(n:Int).toNat) (fun i σ H2=>Ex7 fun (c at0:Int) (ns:List Str) (z6 z7 z8 z9:Option V)=>And5 (σ = [some (.int c),some (.int (n:Int)),some (.str lettT),some (.int at0),some (.ref l1),z6,z7,z8,z9]) (Same H H2) (H2 l1 = some (.lst (ns.map V.str))) (ns.length = i) (∀ x ∈ ns,Nm 40 x /\ ¬ x ∈ Mir.noNames)) ⟨_,_,[],none,none,none,none,rfl,ae hl1 _,aa,rfl,fun x hx=>by cases hx⟩ ?_ ?_
 . rintro i σ H2 hi ⟨c,at0,ns,z6,z7,z8,z9,rfl,e2,hL2,hl2,hn2⟩
   have hi10:i < 10:=by lia
   have m8:=Int.emod_nonneg c (show (8:Int) ≠ 0 by decide)
   have m8':=Int.emod_lt_of_pos c (show (0:Int) < 8 by decide)
   have hsl:lettT.length <= sizeLine:=by decide +kernel
   have hs22:lettT.cps.toList.length = 22:=by decide +kernel
   have hfl:figT.length <= sizeLine:=by decide +kernel
   have hf10:figT.cps.toList.length = 10:=by decide +kernel
   refine ⟨_,rfl,_,_,rfl,rfl,(show (0:Int) < 8 by decide),_,_,rfl,rfl,_,rfl,by lia,by lia,?_⟩
   refine fj (lo:=0) (n:=(1 + c % 8).toNat) (fun j σ H3=>EvI H2 c (n:Int) at0 l1 i j σ H3) ⟨rfl,_,_,_,rfl,⟨Nat.le_refl _,show (PyData.str ("" : Str)).canLay0 = true by decide +kernel⟩,(fun c hc=>by cases hc)⟩ ?_ ?_
   . rintro j σ H3 hj ⟨rfl,nm,z8,z9,rfl,hnm,hev⟩
     have hlen:=hnm.len
     have hj8:j < 8:=by lia
     refine ⟨_,rfl,_,rfl,_,_,rfl,rfl,(show CDiv _ 64 from ⟨by decide,by decide⟩),_,_,rfl,rfl,(show (0:Int) < 5 by decide),_,_,rfl,rfl,.inl ⟨by lia,by lia⟩,?_⟩
     refine ⟨_,rfl,_,rfl,_,rfl,rfl,_,rfl,_,_,rfl,rfl,.inl ⟨by lia,by lia⟩,_,_,rfl,rfl,?_⟩
     generalize (if decide (V.int (0 + (j:Int)) = V.int at0) = true then (1:Int) else 0) = d
     obtain ⟨c1,hc1,hm1⟩:=nu (xs:=lettT.cps.toList) (m:=22) (i:=c / 320 + ((0 + (j:Int)) * (c / 64 % 5) + (0 + (i:Int)) * d)) (by rw [hs22]; rfl) (by decide)
     obtain ⟨c2,hc2,hm2⟩:=nu (xs:=figT.cps.toList) (m:=10) (i:=c / 320 + ((0 + (j:Int)) * (c / 64 % 5) + (0 + (i:Int)) * d)) (by rw [hf10]; rfl) (by decide)
     have go1:EvI H3 c (n:Int) at0 l1 i (j + 1) [some (.int c),some (.int (n:Int)),some (.str lettT),some (.int at0),some (.ref l1),some (.int (0 + (i:Int))),some (.str (nm ++ ⟨#[c1]⟩)),some (.int (0 + (j:Int))),some (.int ((0 + (j:Int)) * (c / 64 % 5) + (0 + (i:Int)) * d))] H3:=⟨rfl,_,_,_,rfl,hnm.app (k8 a59 hm1),hev.app (List.mem_append.mpr (.inl hm1))⟩
     have go2:EvI H3 c (n:Int) at0 l1 i (j + 1) [some (.int c),some (.int (n:Int)),some (.str lettT),some (.int at0),some (.ref l1),some (.int (0 + (i:Int))),some (.str (nm ++ ⟨#[c2]⟩)),some (.int (0 + (j:Int))),some (.int ((0 + (j:Int)) * (c / 64 % 5) + (0 + (i:Int)) * d))] H3:=⟨rfl,_,_,_,rfl,hnm.app (k8 a7c hm2),hev.app (List.mem_append.mpr (.inr hm2))⟩
     refine ⟨_,rfl,_,_,rfl,rfl,_,rfl,iteB (fun _=>?_) (fun _=>?_)⟩
     . refine ⟨_,rfl,_,_,rfl,rfl,(show CDiv _ 7040 from ⟨by decide,by decide⟩),_,rfl,_,_,rfl,rfl,_,_,rfl,rfl,(show (0:Int) < 3 by decide),rfl,_,rfl,iteB (fun _=>?_) (fun _=>?_)⟩
       . exact ⟨_,rfl,_,rfl,_,_,rfl,rfl,(show CDiv _ 320 from ⟨by decide,by decide⟩),_,rfl,_,_,rfl,rfl,_,_,rfl,rfl,(show (0:Int) < 10 by decide),figT,_,c2,rfl,rfl,hfl,hc2,nm,_,rfl,rfl,ii (by show nm.length + 1 <= 1000; lia),go2⟩
       . exact ⟨_,rfl,_,rfl,_,rfl,_,_,rfl,rfl,(show CDiv _ 320 from ⟨by decide,by decide⟩),_,rfl,_,_,rfl,rfl,_,_,rfl,rfl,(show (0:Int) < 22 by decide),lettT,_,c1,rfl,rfl,hsl,hc1,nm,_,rfl,rfl,ii (by show nm.length + 1 <= 1000; lia),go1⟩
     . exact ⟨_,rfl,_,rfl,_,rfl,_,_,rfl,rfl,(show CDiv _ 320 from ⟨by decide,by decide⟩),_,rfl,_,_,rfl,rfl,_,_,rfl,rfl,(show (0:Int) < 22 by decide),lettT,_,c1,rfl,rfl,hsl,hc1,nm,_,rfl,rfl,ii (by show nm.length + 1 <= 1000; lia),go1⟩
   rintro σ H3 ⟨rfl,nm,z8,z9,rfl,hnm,hev⟩
   refine ⟨_,rfl,(.inl ⟨rfl,_,SqL.of hL2⟩),_,rfl,l1,ns.map V.str,_,rfl,rfl,hL2,bm (by rw [List.length_map]; lia),?_⟩
   refine ⟨c,at0,ns ++ [nm],_,_,_,_,rfl,?_,?_,?_,?_⟩
   . exact fun b o hb=>by rw [ag (az hb hl1)]; exact e2 b o hb
   . rw [aa,List.map_append]; rfl
   . rw [List.length_append,List.length_singleton]; lia
   . intro x hx
     rcases List.mem_append.mp hx with hx | hx
     . exact hn2 x hx
     . rw [List.mem_singleton.mp hx]; exact ⟨hnm.mono (by lia),a5l hev⟩
 rintro σ H2 ⟨c,at0,ns,z6,z7,z8,z9,rfl,e2,hL2,hl2,hn2⟩
 exact ⟨_,rfl,q l1 ns _ e2 hL2 (by lia) hn2⟩
end
noncomputable abbrev rq:Stmt:=top 19
noncomputable def PoolRow (xs:List Str) (r:List Str):Prop := ∃ k u v:Str,r = [k,u,v] /\ (k = "is" \/ k = "not") /\ u ∈ xs /\ v ∈ xs
noncomputable def PoolPart (xs:List Str) (r:List Str):Prop:=(∃ a f s,r = [("cell" : Str),a,f,s] /\ a ∈ xs /\ (f ∈ xs \/ f = "any") /\ (s ∈ xs \/ s = "any")) \/ (∃ a b,r = [("stretch" : Str),a,b] /\ a ∈ xs /\ b ∈ xs) \/ ∃ a,r = [("tree" : Str),a] /\ a ∈ xs
theorem l9 (xs:List Str) {n:Nat} {i:Int} (hl:xs.length = n) (h0:0 < n):∃ v:Str,atI (xs.map V.str) (i % (n:Int)) = some (.str v) /\ v ∈ xs:=by
 obtain ⟨v,h1,h2⟩:=nu (xs:=xs.map V.str) (m:=(n:Int)) (i:=i) (by rw [List.length_map,hl]) (by lia)
 obtain ⟨x,hx,rfl⟩:=List.mem_map.mp h2
 exact ⟨x,h1,hx⟩
structure LW (K:PySem.W.Frag) (H0 Hc:Hp) (W:List Str -> Prop) (fl:Addr) (n:Nat):Prop where
 no:H0 fl = none
 at_:∃ as:List Addr,Hc fl = some (.lst (as.map V.ref)) /\ as.length <= n /\ ∀ c ∈ as,∃ r,RowAt K Hc c r /\ W r
theorem LW.grow {K:PySem.W.Frag} {H0 Hc H2:Hp} {W:List Str -> Prop} {fl:Addr} {n:Nat} (h:LW K H0 Hc W fl n) (e:Same Hc H2):LW K H0 H2 W fl n:=by
 obtain ⟨as,h1,h2,h3⟩:=h.at_
 exact ⟨h.no,as,e _ _ h1,h2,fun c hc=>by obtain ⟨r,z1,z2⟩:=h3 c hc; exact ⟨r,e.seqT z1,z2⟩⟩
theorem LW.app {K:PySem.W.Frag} {H0 Hc:Hp} {W:List Str -> Prop} {fl:Addr} {n m:Nat} {as:List Addr} {t:Addr} {r:List Str} (h:LW K H0 Hc W fl n) (ha:Hc fl = some (.lst (as.map V.ref))) (hm:as.length + 1 <= m) (ht:RowAt K Hc t r) (hr:W r):LW K H0 (upd Hc fl (.lst (as.map V.ref ++ [.ref t]))) W fl m:=by
 obtain ⟨as',h1,h2,h3⟩:=h.at_
 have e:as = as':=by
   have:=HO.lst.inj (Option.some.inj (ha.symm.trans h1))
   exact (List.map_inj_right (fun _ _ z=>V.ref.inj z)).mp this
 subst e
 refine ⟨h.no,as ++ [t],by rw [aa,List.map_append]; rfl,by rw [List.length_append,List.length_singleton]; lia,fun c hc=>?_⟩
 rcases List.mem_append.mp hc with z | z
 . obtain ⟨r,z1,z2⟩:=h3 c z
   exact ⟨r,il ha z1,z2⟩
 . rw [List.mem_singleton.mp z]; exact ⟨r,il ha ht,hr⟩
theorem LW.other {K:PySem.W.Frag} {H0 Hc:Hp} {W:List Str -> Prop} {fl gl:Addr} {n:Nat} {us vs:List V} (h:LW K H0 Hc W fl n) (hg:Hc gl = some (.lst us)) (hne:fl ≠ gl):LW K H0 (upd Hc gl (.lst vs)) W fl n:=by
 obtain ⟨as,h1,h2,h3⟩:=h.at_
 exact ⟨h.no,as,by rw [ag hne]; exact h1,h2,fun c hc=>by obtain ⟨r,z1,z2⟩:=h3 c hc; exact ⟨r,il hg z1,z2⟩⟩
theorem wm {K:PySem.W.Frag} {H:Hp} {W:List Str -> Prop}:∀ {as:List Addr},(∀ c ∈ as,∃ r,RowAt K H c r /\ W r) -> ∃ rs,Paired (fun b r=>RowAt K H b r) as rs /\ ∀ r ∈ rs,W r
 | [],_=>⟨[],.nil,fun r hr=>by simp at hr⟩
 | c :: as,h=>by
   obtain ⟨r,h1,h2⟩:=h c (List.mem_cons_self ..)
   obtain ⟨rs,h3,h4⟩:=wm (as:=as) fun c' hc=>h c' (List.mem_cons_of_mem _ hc)
   exact ⟨r :: rs,.cons h1 h3,fun r' hr'=>by
     rcases List.mem_cons.mp hr' with rfl | z
     . exact h2
     . exact h4 r' z⟩
theorem LW.rows {K:PySem.W.Frag} {H0 Hc:Hp} {W:List Str -> Prop} {fl:Addr} {n:Nat} (h:LW K H0 Hc W fl n):∃ rs,RowsAt K Hc fl rs /\ rs.length <= n /\ ∀ r ∈ rs,W r:=by
 obtain ⟨as,h1,h2,h3⟩:=h.at_
 obtain ⟨rs,h4,h5⟩:=wm h3
 exact ⟨rs,⟨as,h1,h4⟩,by rw [<- Paired.length h4]; exact h2,h5⟩
noncomputable def Tps (K:PySem.W.Frag) (Hc:Hp) (W:List Str -> Prop) (ts:List Addr):Prop := ∀ t ∈ ts,∃ r,RowAt K Hc t r /\ W r
theorem Tps.new {K:PySem.W.Frag} {Hc:Hp} {W:List Str -> Prop} {ts:List Addr} (h:Tps K Hc W ts) {t:Addr} (ht:Hc t = none) (r:List Str) (hr:W r):Tps K (upd Hc t (.tup (r.map V.str))) W (ts ++ [t]):=fun c hc=>by
 rcases List.mem_append.mp hc with z | z
 . obtain ⟨r,z1,z2⟩:=h c z
   exact ⟨r,(ae ht _).seqT z1,z2⟩
 . rw [List.mem_singleton.mp z]; exact ⟨r,SqT.of aa,hr⟩
theorem Tps.grow {K:PySem.W.Frag} {Hc H2:Hp} {W:List Str -> Prop} {ts:List Addr} (h:Tps K Hc W ts) (e:Same Hc H2):Tps K H2 W ts:=fun c hc=>by
 obtain ⟨r,z1,z2⟩:=h c hc
 exact ⟨r,e.seqT z1,z2⟩
structure Dr (K:PySem.W.Frag) (H0 G:Hp) (fl ql:Addr) (xs:List Str) (pas ts:List Addr):Prop where
 e:Same H0 G
 lf:LW K H0 G (PoolRow xs) fl 8
 lp:LW K H0 G (PoolPart xs) ql 6
 pa:G ql = some (.lst (pas.map V.ref))
 tp:Tps K G (PoolPart xs) ts
theorem Dr.grow {K:PySem.W.Frag} {H0 G G':Hp} {fl ql:Addr} {xs:List Str} {pas ts:List Addr} (d:Dr K H0 G fl ql xs pas ts) (x:Same G G'):Dr K H0 G' fl ql xs pas ts:=⟨d.e.trans x,d.lf.grow x,d.lp.grow x,x _ _ d.pa,d.tp.grow x⟩
theorem Dr.new {K:PySem.W.Frag} {H0 G:Hp} {fl ql:Addr} {xs:List Str} {pas ts:List Addr} (d:Dr K H0 G fl ql xs pas ts) {t:Addr} (ht:G t = none) (r:List Str) (hr:PoolPart xs r):Dr K H0 (upd G t (.tup (r.map V.str))) fl ql xs pas (ts ++ [t]):=by
 have x:=ae ht (.tup (r.map V.str))
 exact ⟨d.e.trans x,d.lf.grow x,d.lp.grow x,x _ _ d.pa,Tps.new d.tp ht r hr⟩
inductive spDrawnS (K:PySem.W.Frag) (vs:List V) (H:Hp) (Q:VK):Prop
 | mk (a pl:Addr) (ns:List Int) (xs:List Str) (h0:vs = [.ref a,.ref pl]) (h1:SqL K H a (ns.map V.int)) (h2:ns.length <= 14) (h3:H pl = some (.lst (xs.map V.str))) (h4:xs.length = 6) (h5:("nil" : Str) ∈ xs) (h6:∀ t fl ql F P H',Same H H' -> SqT K H' t [.ref fl,.ref ql] -> H' t = some (.tup [.ref fl,.ref ql]) -> RowsAt K H' fl F -> RowsAt K H' ql P -> F.length <= 8 -> P.length <= 6 -> (∀ r ∈ F,PoolRow xs r) -> (∀ r ∈ P,PoolPart xs r) -> Q (.ref t) H'):spDrawnS K vs H Q
noncomputable def xc (K:PySem.W.Frag):Sp:=fun vs H Q _=>spDrawnS K vs H Q
inductive tElifS (K:PySem.W.Frag) (D:Ends) (σ:St) (H:Hp):Prop
 | mk (H0:Hp) (a pl fl ql:Addr) (ns:List Int) (xs:List Str) (i:Nat) (m:Int) (u v:Str) (c:Int) (z8 z9 z10 z11:Option V) (h0:σ = [some (V.ref a),some (.ref pl),some (.ref fl),some (.ref ql),some (.int (i:Int)),some (.int m),some (.str u),some (.str v),z8,z9,z10,z11]) (h1:Same H0 H) (h2:SqL K H0 a (ns.map V.int)) (h3:atI (ns.map V.int) (i:Int) = some (.int c)) (h4:i <= 14) (h5:H0 pl = some (.lst (xs.map V.str))) (h6:xs.length = 6) (h7:("nil" : Str) ∈ xs) (h8:u ∈ xs) (h9:v ∈ xs) (h10:LW K H0 H (PoolRow xs) fl 8) (h11:LW K H0 H (PoolPart xs) ql 6) (h12:fl ≠ ql) (h13:∀ H' (z8 z9 z10 z11:Option V),Same H0 H' -> LW K H0 H' (PoolRow xs) fl 8 -> LW K H0 H' (PoolPart xs) ql 6 -> D.nx [some (V.ref a),some (.ref pl),some (.ref fl),some (.ref ql),some (.int (i:Int)),some (.int m),some (.str u),some (.str v),z8,z9,z10,z11] H'):tElifS K D σ H
noncomputable def a4x (K:PySem.W.Frag):TS:=fun D σ H=>tElifS K D σ H
section
variable {P:Program} {w:World} {K:PySem.W.Frag} {mg:Str -> Option Value} {base:Heap} {f gM:Addr} {fd dM:FuncData}
theorem scDrawn:FnScope ["_law_cells", "_law_pool", "_law_facts", "_law_parts", "_law_k", "_law_m", "_law_a", "_law_b", "_law_some", "_law_f", "_law_s", "_law_row"] ["_law_cells", "_law_pool"] (ao rq):=⟨rfl,rfl,rfl,by decide +kernel,rfl,by decide +kernel,by decide +kernel⟩
theorem a2v (C:Con K mg w) (F:Fun K "_law_drawn" "_law_drawn" rq f fd) (GM:FnOk P w K mg base CX0 1 gM dM ["_law_cell", "_law_k"] wu) (cM:Cal K mg "_law_mixed" gM dM ["_law_cell", "_law_k"]):FnOk P w K mg base CX0 2 f fd ["_law_cells", "_law_pool"] (xc K):=by
 refine F.okQ scDrawn (fun vs H Q E h=>?_) (fun cdv A outer s0 H vs Q E hr h=>?_)
 . obtain ⟨c,k,ns,xs,rfl,_⟩:=h; rfl
 obtain ⟨a,pl,ns,xs,rfl,hA,hns,hX,hx6,hnil,q⟩:=h
 have nd:=scDrawn.nd
 refine ⟨_,ac (ak (i:=2) nd rfl (Or.inl rfl) (bp ab))
   (ac (ak (i:=3) nd rfl (Or.inl rfl) (bp ab))
   (ac (bg PassesOwn.never rfl (cw rfl C.range (bv (b0 (ej (K:=K) rfl) rfl C.len PySem.boot_len (af (qv 0) ab)) ab)) (au (i:=4) nd rfl (Or.inl rfl)) (ac (ak (i:=5) nd rfl (Or.inl rfl) (ax GM hr rfl cM.name cM.keep cM.bind .nil av (ay (ai (ixKk (K:=K) rfl) (qv 0) (qv 4) (fun _ _=>rfl)) (af (qv 4) ab))))
   (ac (ak (i:=6) nd rfl (Or.inl rfl) (ai (ixKk (K:=K) rfl) (qv 1) (aj bo (aj d0 (qv 5) ad) (b0 (ej (K:=K) rfl) rfl C.len PySem.boot_len (af (qv 1) ab))) (fun _ _=>rfl)))
   (ac (ak (i:=7) nd rfl (Or.inl rfl) (ai (ixKk (K:=K) rfl) (qv 1) (aj bo (ax GM hr rfl cM.name cM.keep cM.bind .nil av (ay (ai (ixKk (K:=K) rfl) (qv 0) (qv 4) (fun _ _=>rfl)) (dt (aj ca (qv 4) ad) ab))) (b0 (ej (K:=K) rfl) rfl C.len PySem.boot_len (af (qv 1) ab))) (fun _ _=>rfl)))
   (ah (bf (QW.qt (gy (ar j0 (aj bo (qv 5) ad) ad (aq _)) (gm (ar j0 (b0 (ej (K:=K) rfl) rfl C.len PySem.boot_len (af (qv 2) ab)) ad (aq _))))) (ah (bq (gh (K:=K) rfl PySem.F.plainAttrs_list PySem.F.slot_list_append PySem.F.type_list_append du (qv 2) (gw (ay (ai (ixKk (K:=K) rfl) (bp (bd (bd (bd (bd (bd ab)))))) (aj bo (qv 5) ad) (fun _ _=>rfl)) (af (qv 6) (af (qv 7) ab))) ab)))) (ah (fb (t':=a4x K) (bf (QW.qt (gy (ar a4s (aj bo (qv 5) ad) ad (aq _)) (gm (ar j0 (b0 (ej (K:=K) rfl) rfl C.len PySem.boot_len (af (qv 3) ab)) ad (aq _))))) (ac (ak (i:=8) nd rfl (Or.inl rfl) (aj dw (qv 1) (bp (bd (bd ab)))))
   (ac (ak (i:=9) nd rfl (Or.inl rfl) (ai (ixKk (K:=K) rfl) (qv 8) (aj bo (ax GM hr rfl cM.name cM.keep cM.bind .nil av (ay (ai (ixKk (K:=K) rfl) (qv 0) (qv 4) (fun _ _=>rfl)) (dt (aj ca (qv 4) ad) ab))) (b0 (ej (K:=K) rfl) rfl C.len PySem.boot_len (af (qv 8) ab))) (fun _ _=>rfl)))
   (ac (ak (i:=10) nd rfl (Or.inl rfl) (ai (ixKk (K:=K) rfl) (qv 8) (aj bo (ax GM hr rfl cM.name cM.keep cM.bind .nil av (ay (ai (ixKk (K:=K) rfl) (qv 0) (qv 4) (fun _ _=>rfl)) (dt (aj ca (qv 4) ad) ab))) (b0 (ej (K:=K) rfl) rfl C.len PySem.boot_len (af (qv 8) ab))) (fun _ _=>rfl)))
   (ac (ak (i:=11) nd rfl (Or.inl rfl) (bp (gw (bd (af (qv 6) (af (qv 9) (af (qv 10) ab)))) (gw (bd (af (qv 6) (af (qv 7) ab))) (gw (bd (af (qv 6) ab)) (gw (bd (af (qv 6) (af (qv 9) (af (qv 10) ab)))) (gw (bd (af (qv 6) (af (qv 7) ab))) ab)))))))
   (ah (bq (gh (K:=K) rfl PySem.F.plainAttrs_list PySem.F.slot_list_append PySem.F.type_list_append du (qv 3) (ay (ai (ixKk (K:=K) rfl) (aj dw (qv 11) (bp (gw (bd (af (qv 6) (af (qv 7) ab))) (gw (bd (af (qv 6) (bd ab))) ab)))) (aj a85 (aj bo (qv 5) ad) ad) (fun _ _=>rfl)) ab)))))))) bc) (fun D σ H hh=>by
     obtain ⟨H0,a,pl,fl,ql,ns,xs,i,m,u,v,c,z8,z9,z10,z11,rfl,e,hA,hcell,hi,hX,hx6,hnil,hum,hvm,LF,LP,hfq,go⟩:=hh
     have b1:=Int.emod_nonneg m (show (12:Int) ≠ 0 by decide)
     have b2:=Int.emod_lt_of_pos m (show (0:Int) < 12 by decide)
     obtain ⟨pas,hpa,hpal,_⟩:=LP.at_
     have hpml:(pas.map V.ref).length = pas.length:=List.length_map ..
     refine ⟨_,rfl,_,_,rfl,rfl,(show (0:Int) < 12 by decide),_,_,rfl,rfl,_,rfl,iteB (fun c1=>?_) (fun _=>go H _ _ _ _ e LF LP)⟩
     have c1':4 < m % 12:=of_decide_eq_true c1
     refine ⟨_,rfl,ql,_,rfl,.inl (SqL.of hpa),_,_,rfl,rfl,_,rfl,iteB (fun c2=>?_) (fun _=>go H _ _ _ _ e LF LP)⟩
     have c2':pas.length < 6:=by have:=of_decide_eq_true c2; rw [hpml] at this; lia
     have hX':=e _ _ hX
     refine ⟨_,rfl,(show 2 <= sizeLine by decide),fun l1 hl1=>?_⟩
     have s1:=ae hl1 (.lst ([("any" : Str), "any"].map V.str))
     refine ⟨pl,l1,_,_,rfl,rfl,s1 _ _ hX',aa,(by rw [List.length_map,hx6]; decide),fun so hso=>?_⟩
     have s2:=s1.trans (ae hso (.lst (xs.map V.str ++ [.str "any",.str "any"])))
     have hS:(upd (upd H l1 (.lst ([("any" : Str), "any"].map V.str))) so (.lst (xs.map V.str ++ [.str "any",.str "any"]))) so = some (.lst ((xs ++ [("any" : Str), "any"]).map V.str)):=by rw [aa,List.map_append]; rfl
     replace s2:Same H (upd (upd H l1 (.lst ([("any" : Str), "any"].map V.str))) so (.lst (xs.map V.str ++ [.str "any",.str "any"]))):=s2
     have e2:=e.trans s2
     have LF2:=LF.grow s2
     have LP2:=LP.grow s2
     have hpa2:=s2 _ _ hpa
     clear s1 s2 hX'
     show bh _ _ _ (upd (upd H l1 (.lst ([("any" : Str), "any"].map V.str))) so (.lst (xs.map V.str ++ [.str "any",.str "any"]))) _
     generalize upd (upd H l1 (.lst ([("any" : Str), "any"].map V.str))) so (.lst (xs.map V.str ++ [.str "any",.str "any"])) = H2 at hS e2 LF2 LP2 hpa2 |-
     have hs8:(xs ++ [("any" : Str), "any"]).length = 8:=by rw [List.length_append,hx6]; rfl
     have hs8':(((xs ++ [("any" : Str), "any"]).map V.str).length:Int) = 8:=by rw [List.length_map,hs8]; rfl
     have hsm:∀ {y:Str},y ∈ xs ++ [("any" : Str), "any"] -> y ∈ xs \/ y = "any" := fun {y} hy=>by
       rcases List.mem_append.mp hy with z | z
       . exact .inl z
       . simp only [List.mem_cons,List.not_mem_nil,or_false] at z
         exact .inr (z.elim id id)
     refine ⟨_,rfl,_,rfl,_,rfl,a,_,_,.int c,rfl,rfl,e2.seq hA,hcell,_,rfl,_,_,rfl,rfl,c,i + 140,rfl,by lia,fun m3 hm3=>?_⟩
     refine ⟨_,rfl,so,_,rfl,.inl (SqL.of hS),?_⟩
     rw [hs8']
     obtain ⟨fw,hfw,hfm⟩:=l9 _ (n:=8) (i:=m3) hs8 (by decide)
     refine ⟨_,_,rfl,rfl,(show (0:Int) < 8 by decide),so,_,_,.str fw,rfl,rfl,SqL.of hS,hfw,?_⟩
     refine ⟨_,rfl,_,rfl,_,rfl,a,_,_,.int c,rfl,rfl,e2.seq hA,hcell,_,rfl,_,_,rfl,rfl,c,i + 210,rfl,by lia,fun m4 hm4=>?_⟩
     refine ⟨_,rfl,so,_,rfl,.inl (SqL.of hS),?_⟩
     rw [hs8']
     obtain ⟨sw,hsw,hsm'⟩:=l9 _ (n:=8) (i:=m4) hs8 (by decide)
     refine ⟨_,_,rfl,rfl,(show (0:Int) < 8 by decide),so,_,_,.str sw,rfl,rfl,SqL.of hS,hsw,?_⟩
     have wc:PoolPart xs [("cell" : Str),u,fw,sw] := .inl ⟨u,fw,sw,rfl,hum,hsm hfm,hsm hsm'⟩
     have ws:PoolPart xs [("stretch" : Str),u,v] := .inr (.inl ⟨u,v,rfl,hum,hvm⟩)
     have wt:PoolPart xs [("tree" : Str),u] := .inr (.inr ⟨u,rfl,hum⟩)
     have wn:PoolPart xs [("stretch" : Str),u, "nil"] := .inr (.inl ⟨u, "nil",rfl,hum,hnil⟩)
     have D0:Dr K H0 H2 fl ql xs pas []:=⟨e2,LF2,LP2,hpa2,fun c hc=>by simp at hc⟩
     clear hS hfw hsw e2 LF2 LP2 hpa2
     refine ⟨_,rfl,_,rfl,_,rfl,(show 4 <= sizeLine by decide),fun t1 ht1=>?_⟩
     have D1:Dr K H0 (upd H2 t1 (.tup [.str "cell",.str u,.str fw,.str sw])) fl ql xs pas _:=D0.new ht1 [("cell" : Str),u,fw,sw] wc
     generalize upd H2 t1 (.tup [.str "cell",.str u,.str fw,.str sw]) = G1 at D1 |-
     clear D0 ht1
     refine ⟨_,rfl,_,rfl,(show 3 <= sizeLine by decide),fun t2 ht2=>?_⟩
     have D2:Dr K H0 (upd G1 t2 (.tup [.str "stretch",.str u,.str v])) fl ql xs pas _:=D1.new ht2 [("stretch" : Str),u,v] ws
     generalize upd G1 t2 (.tup [.str "stretch",.str u,.str v]) = G2 at D2 |-
     clear D1 ht2
     refine ⟨_,rfl,(show 2 <= sizeLine by decide),fun t3 ht3=>?_⟩
     have D3:Dr K H0 (upd G2 t3 (.tup [.str "tree",.str u])) fl ql xs pas _:=D2.new ht3 [("tree" : Str),u] wt
     generalize upd G2 t3 (.tup [.str "tree",.str u]) = G3 at D3 |-
     clear D2 ht3
     refine ⟨_,rfl,_,rfl,_,rfl,(show 4 <= sizeLine by decide),fun t4 ht4=>?_⟩
     have D4:Dr K H0 (upd G3 t4 (.tup [.str "cell",.str u,.str fw,.str sw])) fl ql xs pas _:=D3.new ht4 [("cell" : Str),u,fw,sw] wc
     generalize upd G3 t4 (.tup [.str "cell",.str u,.str fw,.str sw]) = G4 at D4 |-
     clear D3 ht4
     refine ⟨_,rfl,_,rfl,(show 3 <= sizeLine by decide),fun t5 ht5=>?_⟩
     have D5:Dr K H0 (upd G4 t5 (.tup [.str "stretch",.str u,.str v])) fl ql xs pas _:=D4.new ht5 [("stretch" : Str),u,v] ws
     generalize upd G4 t5 (.tup [.str "stretch",.str u,.str v]) = G5 at D5 |-
     clear D4 ht5
     refine ⟨(show 5 <= sizeLine by decide),fun l5 hl5=>?_⟩
     have x0:Same G5 (upd G5 l5 (.lst [.ref t1,.ref t2,.ref t3,.ref t4,.ref t5])):=ae hl5 _
     have D5':=D5.grow x0
     have R5:(upd G5 l5 (.lst [.ref t1,.ref t2,.ref t3,.ref t4,.ref t5])) l5 = some (.lst [.ref t1,.ref t2,.ref t3,.ref t4,.ref t5]):=aa
     generalize upd G5 l5 (.lst [.ref t1,.ref t2,.ref t3,.ref t4,.ref t5]) = G6 at x0 D5' R5 |-
     clear x0 D5 hl5
     refine ⟨_,rfl,.inl ⟨rfl,_,SqL.of D5'.pa⟩,_,rfl,?_⟩
     refine ⟨_,rfl,_,rfl,(show 3 <= sizeLine by decide),fun t6 ht6=>?_⟩
     have D6:Dr K H0 (upd G6 t6 (.tup [.str "stretch",.str u,.str v])) fl ql xs pas _:=D5'.new ht6 [("stretch" : Str),u,v] ws
     have R6:=ae ht6 (.tup [.str "stretch",.str u,.str v]) _ _ R5
     generalize upd G6 t6 (.tup [.str "stretch",.str u,.str v]) = G7 at D6 R6 |-
     clear D5' R5 ht6
     refine ⟨_,rfl,(show 3 <= sizeLine by decide),fun t7 ht7=>?_⟩
     have D7:Dr K H0 (upd G7 t7 (.tup [.str "stretch",.str u,.str "nil"])) fl ql xs pas _:=D6.new ht7 [("stretch" : Str),u, "nil"] wn
     have R7:=ae ht7 (.tup [.str "stretch",.str u,.str "nil"]) _ _ R6
     generalize upd G7 t7 (.tup [.str "stretch",.str u,.str "nil"]) = G8 at D7 R7 |-
     clear D6 R6 ht7
     refine ⟨(show 2 <= sizeLine by decide),fun l6 hl6=>?_⟩
     have x0:Same G8 (upd G8 l6 (.lst [.ref t6,.ref t7])):=ae hl6 _
     refine ⟨l5,l6,_,_,rfl,rfl,x0 _ _ R7,aa,(show 7 <= sizeLine by decide),fun l7 hl7=>?_⟩
     have x1:=x0.trans (ae hl7 (.lst ([t1,t2,t3,t4,t5,t6,t7].map V.ref)))
     obtain ⟨tv,htv,htm⟩:=zc (xs:=[t1,t2,t3,t4,t5,t6,t7].map V.ref) (i:=m % 12 - 5) (by lia) (by show m % 12 - 5 < 7; lia)
     obtain ⟨t,ht,rfl⟩:=List.mem_map.mp htm
     obtain ⟨r,hr1,hr2⟩:=D7.tp t ht
     have P8:=x1 _ _ D7.pa
     refine ⟨_,rfl,_,_,rfl,rfl,(show (0:Int) < 12 by decide),_,_,rfl,rfl,l7,_,_,.ref t,rfl,rfl,SqL.of aa,htv,ql,_,.ref t,rfl,rfl,P8,by rw [hpml]; exact bm (by lia),?_⟩
     exact go _ _ _ _ _ (bi LP.no (D7.e.trans x1) _) ((D7.lf.grow x1).other P8 hfq) ((D7.lp.grow x1).app P8 (by lia) (x1.seqT hr1) hr2))))))))))
   (ah (aw (br (af (qv 2) (af (qv 3) ab))))))),?_⟩
 refine ⟨Nat.zero_le _,fun fl hfl=>?_⟩
 have s1:=ae hfl (.lst [])
 have hf1:(upd H fl (.lst [])) fl = some (.lst []):=aa
 generalize upd H fl (.lst []) = H1 at s1 hf1 |-
 refine ⟨Nat.zero_le _,fun ql hql=>?_⟩
 have s2:=s1.trans (ae hql (.lst []))
 have hfq:fl ≠ ql:=az hf1 hql
 have hql0:H ql = none:=by
   cases hz:H ql with
   | none=>rfl
   | some o=>rw [s1 _ _ hz] at hql; cases hql
 have LF0:LW K H (upd H1 ql (.lst [])) (PoolRow xs) fl 8:=⟨hfl,[],by rw [ag hfq]; exact hf1,Nat.zero_le _,fun c hc=>by simp at hc⟩
 have LP0:LW K H (upd H1 ql (.lst [])) (PoolPart xs) ql 6:=⟨hql0,[],aa,Nat.zero_le _,fun c hc=>by simp at hc⟩
 generalize upd H1 ql (.lst []) = H2 at s2 LF0 LP0 |-
 have hml:(ns.map V.int).length = ns.length:=List.length_map ..
 refine ⟨_,rfl,a,_,rfl,.inl (s2.seq hA),_,rfl,(by rw [hml]; lia),(by rw [hml]; lia),?_⟩
 rw [hml]
 refine fj (lo:=0) (n:=(ns.length:Int).toNat) (fun i σ H'=>Same H H' /\ LW K H H' (PoolRow xs) fl 8 /\ LW K H H' (PoolPart xs) ql 6 /\ ∃ (z4 z5 z6 z7 z8 z9 z10 z11:Option V),σ = [some (.ref a),some (.ref pl),some (.ref fl),some (.ref ql),z4,z5,z6,z7,z8,z9,z10,z11])
   ⟨s2,LF0,LP0,none,none,none,none,none,none,none,none,rfl⟩ ?_ ?_
 . rintro i σ H' hi ⟨e,LF,LP,z4,z5,z6,z7,z8,z9,z10,z11,rfl⟩
   rw [Int.zero_add]
   have hi':i < ns.length:=by lia
   have hcell:atI (ns.map V.int) (i:Int) = some (.int ns[i]):=ie (by rw [List.getElem?_map,List.getElem?_eq_getElem hi']; rfl)
   refine ⟨_,rfl,_,rfl,a,_,_,.int ns[i],rfl,rfl,e.seq hA,hcell,_,rfl,ns[i],i,rfl,by lia,fun m hm=>?_⟩
   have hX':=e _ _ hX
   have hl6:((xs.map V.str).length:Int) = 6:=by rw [List.length_map,hx6]; rfl
   obtain ⟨u,hu,hum⟩:=l9 xs (n:=6) (i:=m / 12) hx6 (by decide)
   refine ⟨_,rfl,_,rfl,_,_,rfl,rfl,(show CDiv _ 12 from ⟨by decide,by decide⟩),_,rfl,pl,_,rfl,.inl (SqL.of hX'),?_⟩
   rw [hl6]
   refine ⟨_,_,rfl,rfl,(show (0:Int) < 6 by decide),pl,_,_,.str u,rfl,rfl,SqL.of hX',hu,?_⟩
   refine ⟨_,rfl,_,rfl,_,rfl,a,_,_,.int ns[i],rfl,rfl,e.seq hA,hcell,_,rfl,_,_,rfl,rfl,ns[i],i + 70,rfl,by lia,fun m2 hm2=>?_⟩
   obtain ⟨v,hv,hvm⟩:=l9 xs (n:=6) (i:=m2) hx6 (by decide)
   refine ⟨_,rfl,pl,_,rfl,.inl (SqL.of hX'),?_⟩
   rw [hl6]
   refine ⟨_,_,rfl,rfl,(show (0:Int) < 6 by decide),pl,_,_,.str v,rfl,rfl,SqL.of hX',hv,?_⟩
   have b1:=Int.emod_nonneg m (show (12:Int) ≠ 0 by decide)
   have b2:=Int.emod_lt_of_pos m (show (0:Int) < 12 by decide)
   obtain ⟨fas,hfa,hfal,_⟩:=LF.at_
   obtain ⟨pas,hpa,hpal,_⟩:=LP.at_
   have hfml:(fas.map V.ref).length = fas.length:=List.length_map ..
   have hpml:(pas.map V.ref).length = pas.length:=List.length_map ..
   have go:∀ H' (z8 z9 z10 z11:Option V),Same H H' -> LW K H H' (PoolRow xs) fl 8 -> LW K H H' (PoolPart xs) ql 6 -> (Same H H' /\ LW K H H' (PoolRow xs) fl 8 /\ LW K H H' (PoolPart xs) ql 6 /\ ∃ (y4 y5 y6 y7 y8 y9 y10 y11:Option V),[some (V.ref a),some (.ref pl),some (.ref fl),some (.ref ql),some (.int (i:Int)),some (.int m),some (.str u),some (.str v),z8,z9,z10,z11] = [some (.ref a),some (.ref pl),some (.ref fl),some (.ref ql),y4,y5,y6,y7,y8,y9,y10,y11]):=fun H' z8 z9 z10 z11 h1 h2 h3=>⟨h1,h2,h3,_,_,_,_,_,_,_,_,rfl⟩
   have el:∀ D:Ends,(∀ H' (z8 z9 z10 z11:Option V),Same H H' -> LW K H H' (PoolRow xs) fl 8 -> LW K H H' (PoolPart xs) ql 6 -> D.nx [some (V.ref a),some (.ref pl),some (.ref fl),some (.ref ql),some (.int (i:Int)),some (.int m),some (.str u),some (.str v),z8,z9,z10,z11] H') -> a4x K D [some (V.ref a),some (.ref pl),some (.ref fl),some (.ref ql),some (.int (i:Int)),some (.int m),some (.str u),some (.str v),z8,z9,z10,z11] H':=fun D h=>⟨H,a,pl,fl,ql,ns,xs,i,m,u,v,ns[i],z8,z9,z10,z11,rfl,e,hA,hcell,by lia,hX,hx6,hnil,hum,hvm,LF,LP,hfq,h⟩
   refine ⟨_,rfl,_,_,rfl,rfl,(show (0:Int) < 12 by decide),_,_,rfl,rfl,_,rfl,iteB (fun c1=>?_) (fun _=>el _ fun H' z8 z9 z10 z11=>go H' z8 z9 z10 z11)⟩
   have c1':m % 12 < 5:=of_decide_eq_true c1
   refine ⟨_,rfl,fl,_,rfl,.inl (SqL.of hfa),_,_,rfl,rfl,_,rfl,iteB (fun c2=>?_) (fun _=>el _ fun H' z8 z9 z10 z11=>go H' z8 z9 z10 z11)⟩
   have c2':fas.length < 8:=by have:=of_decide_eq_true c2; rw [hfml] at this; lia
   refine ⟨_,rfl,.inl ⟨rfl,_,SqL.of hfa⟩,(show 5 <= sizeLine by decide),fun l2 hl2=>?_⟩
   have s3:=ae hl2 (.lst ([("is" : Str), "not", "not", "is", "not"].map V.str))
   obtain ⟨wv,hw,hwm⟩:=zc (xs:=[("is" : Str), "not", "not", "is", "not"].map V.str) (i:=m % 12) b1 (by show m % 12 < 5; exact c1')
   obtain ⟨wd,rfl,hwd⟩:∃ wd:Str,wv = .str wd /\ (wd = "is" \/ wd = "not"):=by
     obtain ⟨y,hy,rfl⟩:=List.mem_map.mp hwm
     refine ⟨y,rfl,?_⟩
     simp only [List.mem_cons,List.not_mem_nil,or_false] at hy
     rcases hy with z | z | z | z | z
     . exact .inl z
     . exact .inr z
     . exact .inr z
     . exact .inl z
     . exact .inr z
   refine ⟨_,rfl,_,_,rfl,rfl,(show (0:Int) < 12 by decide),l2,_,_,.str wd,rfl,rfl,SqL.of aa,hw,_,rfl,_,rfl,(show 3 <= sizeLine by decide),fun t ht=>?_⟩
   have s4:=s3.trans (ae ht (.tup [.str wd,.str u,.str v]))
   have hfa4:=s4 _ _ hfa
   have hpa4:=s4 _ _ hpa
   refine ⟨fl,_,.ref t,rfl,rfl,hfa4,by rw [hfml]; exact bm (by lia),?_⟩
   exact go _ _ _ _ _ (bi hfl (e.trans s4) _) ((LF.grow s4).app hfa4 (by lia) (r:=[wd,u,v]) (SqT.of aa) ⟨wd,u,v,rfl,hwd,hum,hvm⟩) ((LP.grow s4).other hfa4 (Ne.symm hfq))
 . rintro σ H' ⟨e,LF,LP,z4,z5,z6,z7,z8,z9,z10,z11,rfl⟩
   obtain ⟨F,hF,hF8,hFW⟩:=LF.rows
   obtain ⟨Pt,hP,hP6,hPW⟩:=LP.rows
   refine ⟨_,rfl,_,rfl,(show 2 <= sizeLine by decide),fun t ht=>?_⟩
   have s3:=ae ht (.tup [.ref fl,.ref ql])
   exact q t fl ql F Pt _ (e.trans s3) (SqT.of aa) aa (hF.same s3) (hP.same s3) hF8 hP6 hFW hPW
end
noncomputable abbrev sm:Stmt:=top 20
noncomputable abbrev sPut:Stmt:=top 21
noncomputable abbrev p6:Stmt:=top 22
noncomputable abbrev tm:Stmt:=top 23
noncomputable def InT (kv:List (List Key × V)) (a b:Str):Prop:=(valV kv [Sum.inr a,Sum.inr b]).isSome = true
theorem l4 {α:Type} [DecidableEq α]:∀ {l m:List α},l.Nodup -> (∀ x ∈ l,x ∈ m) -> l.length <= m.length
 | [],_,_,_=>Nat.zero_le _
 | x :: l,m,hn,hm=>by
   have hx:=hm x (List.mem_cons_self ..)
   obtain ⟨h1,h2⟩:=List.nodup_cons.mp hn
   have:=l4 (l:=l) (m:=m.erase x) h2 fun y hy=>(List.mem_erase_of_ne (a:=y) (b:=x) (fun e=>h1 (by rw [<- e]; exact hy))).mpr (hm y (List.mem_cons_of_mem _ hy))
   rw [List.length_erase_of_mem hx] at this
   have hp:0 < m.length:=List.length_pos_of_mem hx
   rw [List.length_cons]
   lia
structure Tab (xs:List Str) (kv:List (List Key × V)):Prop where
 pr:∀ q ∈ kv,∃ a b:Str,q.1 = [Sum.inr a,Sum.inr b] /\ a ∈ xs /\ b ∈ xs
 nd:(kv.map (·.1)).Nodup
 sym:∀ a b,InT kv a b -> InT kv b a
noncomputable def oo (xs:List Str):List (List Key):=xs.flatMap fun a=>xs.map fun b=>[Sum.inr a,Sum.inr b]
theorem va (xs:List Str):(oo xs).length = xs.length * xs.length:=by
 unfold oo
 have:∀ ys:List Str,(ys.flatMap fun a=>xs.map fun b=>([Sum.inr a,Sum.inr b]:List Key)).length = ys.length * xs.length:=fun ys=>by
   induction ys with
   | nil=>simp
   | cons y ys ih=>rw [List.flatMap_cons,List.length_append,ih,List.length_map,List.length_cons,Nat.succ_mul]; lia
 exact this xs
theorem Tab.len {xs:List Str} {kv:List (List Key × V)} (T:Tab xs kv):kv.length <= xs.length * xs.length:=by
 have:=l4 (m:=oo xs) T.nd fun k hk=>by
   obtain ⟨q,hq,rfl⟩:=List.mem_map.mp hk
   obtain ⟨a,b,e,ha,hb⟩:=T.pr q hq
   rw [e]
   exact List.mem_flatMap.mpr ⟨a,ha,List.mem_map.mpr ⟨b,hb,rfl⟩⟩
 rw [List.length_map,va] at this
 exact this
theorem inT_key {kv:List (List Key × V)} {a b:Str}:InT kv a b ↔ ([Sum.inr a,Sum.inr b]:List Key) ∈ kv.map (·.1):=by
 unfold InT
 constructor
 . intro h
   obtain ⟨v,hv⟩:=Option.isSome_iff_exists.mp h
   exact p4 hv
 . intro h
   cases e:valV kv ([Sum.inr a,Sum.inr b]:List Key) with
   | some v=>rfl
   | none=>exact absurd h (uj e)
theorem Tab.words {xs:List Str} {kv:List (List Key × V)} (T:Tab xs kv) {a b:Str} (h:InT kv a b):a ∈ xs /\ b ∈ xs:=by
 obtain ⟨q,hq,e⟩:=List.mem_map.mp (inT_key.mp h)
 obtain ⟨a',b',e',ha,hb⟩:=T.pr q hq
 rw [e'] at e
 simp only [List.cons.injEq,Sum.inr.injEq,and_true] at e
 exact ⟨e.1 ▸ ha,e.2 ▸ hb⟩
theorem Tab.stay {xs:List Str} {kv kv':List (List Key × V)} (T:Tab xs kv) (T':Tab xs kv') (hs:∀ a b,InT kv a b -> InT kv' a b) (hl:kv'.length <= kv.length) {a b:Str} (h:InT kv' a b):InT kv a b:=by
 refine Classical.byContradiction fun hn=>?_
 have hk:¬ ([Sum.inr a,Sum.inr b]:List Key) ∈ kv.map (·.1):=fun z=>hn (inT_key.mpr z)
 have:=l4 (l:=([Sum.inr a,Sum.inr b]:List Key) :: kv.map (·.1)) (m:=kv'.map (·.1)) (List.nodup_cons.mpr ⟨hk,T.nd⟩) fun x hx=>by
   rcases List.mem_cons.mp hx with rfl | z
   . exact inT_key.mp h
   . obtain ⟨q,hq,rfl⟩:=List.mem_map.mp z
     obtain ⟨a',b',e',_,_⟩:=T.pr q hq
     rw [e']
     exact inT_key.mp (hs a' b' (inT_key.mpr (by rw [<- e']; exact List.mem_map.mpr ⟨q,hq,rfl⟩)))
 rw [List.length_cons,List.length_map,List.length_map] at this
 lia
theorem ju {kv:List (List Key × V)} {k:List Key} {v:V} (hn:(kv.map (·.1)).Nodup):((putK kv k v).map (·.1)).Nodup /\ ∀ q ∈ putK kv k v,q.1 = k \/ ∃ p ∈ kv,q.1 = p.1:=by
 unfold putK
 split
 . rename_i hc
   constructor
   . have e:(kv.map fun kv=>if kv.1 = k then (kv.1,v) else kv).map (·.1) = kv.map (·.1):=by
       rw [List.map_map]
       refine List.map_congr_left fun p _=>?_
       show (if p.1 = k then (p.1,v) else p).1 = p.1
       split <;> rfl
     rw [e]; exact hn
   . intro q hq
     obtain ⟨p,hp,rfl⟩:=List.mem_map.mp hq
     split
     . exact .inl (by assumption)
     . exact .inr ⟨p,hp,rfl⟩
 . rename_i hc
   constructor
   . rw [List.map_append]
     refine List.nodup_append.mpr ⟨hn,List.nodup_cons.mpr ⟨List.not_mem_nil,.nil⟩,fun a ha b hb e=>?_⟩
     have hb':b = k:=by simpa using hb
     rw [hb'] at e
     obtain ⟨p,hp,e2⟩:=List.mem_map.mp ha
     exact hc (List.any_eq_true.mpr ⟨p,hp,by simpa using e2.trans e⟩)
   . intro q hq
     rcases List.mem_append.mp hq with z | z
     . exact .inr ⟨q,z,rfl⟩
     . rw [List.mem_singleton.mp z]; exact .inl rfl
theorem inT_put2 {kv:List (List Key × V)} {a b c d:Str}:InT (put2 kv a b) c d ↔ InT kv c d \/ (c = a /\ d = b) \/ (c = b /\ d = a):=by
 unfold InT put2
 rw [cx,cx]
 have e1:∀ x y z w':Str,([Sum.inr x,Sum.inr y]:List Key) = [Sum.inr z,Sum.inr w'] ↔ x = z /\ y = w':=fun x y z w'=>by simp
 by_cases c1:c = b /\ d = a
 . rw [if_pos ((e1 _ _ _ _).mpr c1)]
   exact ⟨fun _ => .inr (.inr c1),fun _=>rfl⟩
 . rw [if_neg (fun z=>c1 ((e1 _ _ _ _).mp z))]
   by_cases c2:c = a /\ d = b
   . rw [if_pos ((e1 _ _ _ _).mpr c2)]
     exact ⟨fun _ => .inr (.inl c2),fun _=>rfl⟩
   . rw [if_neg (fun z=>c2 ((e1 _ _ _ _).mp z))]
     exact ⟨fun z => .inl z,fun z=>z.elim id (fun y=>y.elim (fun x=>absurd x c2) (fun x=>absurd x c1))⟩
theorem Tab.put {xs:List Str} {kv:List (List Key × V)} (T:Tab xs kv) {a b:Str} (ha:a ∈ xs) (hb:b ∈ xs):Tab xs (put2 kv a b):=by
 obtain ⟨n1,p1⟩:=ju (k:=[Sum.inr a,Sum.inr b]) (v:=V.bl true) T.nd
 obtain ⟨n2,p2⟩:=ju (k:=[Sum.inr b,Sum.inr a]) (v:=V.bl true) n1
 refine ⟨fun q hq=>?_,n2,fun c d h=>?_⟩
 . rcases p2 q hq with z | ⟨p,hp,z⟩
   . exact ⟨b,a,z,hb,ha⟩
   . rcases p1 p hp with y | ⟨r,hr,y⟩
     . exact ⟨a,b,z.trans y,ha,hb⟩
     . obtain ⟨c,d,e,hc,hd⟩:=T.pr r hr
       exact ⟨c,d,(z.trans y).trans e,hc,hd⟩
 . rcases inT_put2.mp h with z | z | z
   . exact inT_put2.mpr (.inl (T.sym _ _ z))
   . exact inT_put2.mpr (.inr (.inr ⟨z.2,z.1⟩))
   . exact inT_put2.mpr (.inr (.inl ⟨z.2,z.1⟩))
theorem PoolPart.row {xs:List Str} {r:List Str} (h:PoolPart xs r):PartRow r:=by
 rcases h with ⟨a,f,s,h,_⟩ | ⟨a,b,h,_⟩ | ⟨a,h,_⟩
 . exact .inl ⟨a,f,s,h⟩
 . exact .inr (.inl ⟨a,b,h⟩)
 . exact .inr (.inr ⟨a,h⟩)
theorem PoolPart.place {xs:List Str} {r:List Str} (h:PoolPart xs r):place r ∈ xs:=by
 rcases h with ⟨a,f,s,rfl,h,_⟩ | ⟨a,b,rfl,h,_⟩ | ⟨a,rfl,h⟩ <;> exact h
noncomputable def lend (r:List Str):Str:=if r.getD 0 "" = "tree" then "nil" else r.getD 2 ""
theorem uf {r:List Str} (h:PartRow r) (hc:¬ r.getD 0 "" = "cell"):lend r = end2 r:=by
 rcases h with ⟨a,f,s,rfl⟩ | ⟨a,b,rfl⟩ | ⟨a,rfl⟩
 . exact absurd rfl hc
 . have e1:lend [("stretch" : Str),a,b] = b:=if_neg (show ¬ ("stretch" : Str) = "tree" by decide +kernel)
   have e2:end2 [("stretch" : Str),a,b] = b:=if_pos (show ("stretch" : Str) = "stretch" from rfl)
   rw [e1,e2]
 . have e1:lend [("tree" : Str),a] = "nil" := if_pos (show ("tree" : Str) = "tree" from rfl)
   have e2:end2 [("tree" : Str),a] = "nil" := if_neg (show ¬ ("tree" : Str) = "stretch" by decide +kernel)
   rw [e1,e2]
inductive spLEndsS (K:PySem.W.Frag) (vs:List V) (H:Hp) (Q:VK):Prop
 | mk (b:Addr) (r:List Str) (h0:vs = [.ref b]) (h1:RowAt K H b r) (h2:PartRow r) (h3:∀ t H',Same H H' -> H' t = some (.tup [.str (place r),.str (lend r)]) -> Q (.ref t) H'):spLEndsS K vs H Q
noncomputable def oy (K:PySem.W.Frag):Sp:=fun vs H Q _=>spLEndsS K vs H Q
inductive spPutS (vs:List V) (H:Hp) (Q:VK):Prop
 | mk (t:Addr) (kv:List (List Key × V)) (a b:Str) (h0:vs = [.ref t,.str a,.str b]) (h1:H t = some (.dT kv)) (h2:kv.length <= 900) (h3:∀ H',Kp (· = t) H H' -> H' t = some (.dT (put2 kv a b)) -> Q .non H'):spPutS vs H Q
noncomputable def xq:Sp:=fun vs H Q _=>spPutS vs H Q
inductive spIsFullS (K:PySem.W.Frag) (vs:List V) (H:Hp) (Q:VK):Prop
 | mk (b t:Addr) (r:List Str) (kv:List (List Key × V)) (h0:vs = [.ref b,.ref t]) (h1:RowAt K H b r) (h2:PartRow r) (h3:H t = some (.dT kv)) (h4:∀ (c:Bool) H',Same H H' -> (c = true ↔ FullR (InT kv) r) -> Q (.bl c) H'):spIsFullS K vs H Q
noncomputable def ul (K:PySem.W.Frag):Sp:=fun vs H Q _=>spIsFullS K vs H Q
section
variable {P:Program} {w:World} {K:PySem.W.Frag} {mg:Str -> Option Value} {base:Heap} {f gE gF gP:Addr} {fd dE dF dP:FuncData}
theorem a5j:FnScope ["_law_part"] ["_law_part"] (ao sm):=⟨rfl,rfl,rfl,by decide +kernel,rfl,by decide +kernel,by decide +kernel⟩
theorem a4f (F:Fun K "_law_ends" "_law_ends" sm f fd):FnOk P w K mg base CX0 1 f fd ["_law_part"] (oy K):=by
 refine F.okQ a5j (fun vs H Q E h=>?_) (fun cdv A outer s0 H vs Q E hr h=>?_)
 . obtain ⟨b,r,rfl,_⟩:=h; rfl
 obtain ⟨b,r,rfl,hR,hp,q⟩:=h
 refine ⟨_,ac (bf (ar bw (ai (ixTk (K:=K) rfl) (qv 0) ad (fun _ _=>rfl)) bt (aq _)) (ah (aw (br (ay (ai (ixTk (K:=K) rfl) (qv 0) ad (fun _ _=>rfl)) (bd ab))))) bc)
   (ah (aw (br (ay (ai (ixTk (K:=K) rfl) (qv 0) ad (fun _ _=>rfl)) (ay (ai (ixTk (K:=K) rfl) (qv 0) ad (fun _ _=>rfl)) ab))))),?_⟩
 refine ⟨_,rfl,b,_,0,_,rfl,rfl,hR,hp.at0,rfl,_,rfl,iteB (fun c=>?_) (fun c=>?_)⟩
 . have c':r.getD 0 "" = "tree" := by simpa using c
   refine ⟨_,rfl,b,_,1,_,rfl,rfl,hR,hp.at1,(show 2 <= sizeLine by decide),fun t ht=>?_⟩
   have e:lend r = "nil" := by unfold lend; rw [if_pos c']
   refine q t _ (ae ht _) ?_
   rw [e]
   exact aa
 . have c':¬ r.getD 0 "" = "tree" := by simpa using c
   have h2:atI (r.map V.str) (2:Int) = some (.str (r.getD 2 "")):=by
     rcases hp with ⟨a,f,s,rfl⟩ | ⟨a,b,rfl⟩ | ⟨a,rfl⟩
     . rfl
     . rfl
     . exact absurd rfl c'
   refine ⟨_,rfl,b,_,1,_,rfl,rfl,hR,hp.at1,_,rfl,b,_,2,_,rfl,rfl,hR,h2,(show 2 <= sizeLine by decide),fun t ht=>?_⟩
   have e:lend r = r.getD 2 "" := by unfold lend; rw [if_neg c']
   refine q t _ (ae ht _) ?_
   rw [e]
   exact aa
theorem a8f:FnScope ["_law_table", "_law_one", "_law_other"] ["_law_table", "_law_one", "_law_other"] (ao sPut):=⟨rfl,rfl,rfl,by decide +kernel,rfl,by decide +kernel,by decide +kernel⟩
theorem a6v (F:Fun K "_law_put" "_law_put" sPut f fd):FnOk P w K mg base CX0 1 f fd ["_law_table", "_law_one", "_law_other"] xq:=by
 refine F.okQ a8f (fun vs H Q E h=>?_) (fun cdv A outer s0 H vs Q E hr h=>?_)
 . obtain ⟨t,kv,a,b,rfl,_⟩:=h; rfl
 obtain ⟨t,kv,a,b,rfl,hT,hl,q⟩:=h
 have hu1:=df hr
 refine ⟨_,ac (fc hu1 (qv 0) (br (af (qv 1) (af (qv 2) ab))) dg)
   (ah (fc hu1 (qv 0) (br (af (qv 2) (af (qv 1) ab))) dg)),?_⟩
 refine ⟨_,rfl,_,rfl,_,rfl,(show 2 <= sizeLine by decide),fun t1 ht1=>?_⟩
 have s1:=ae ht1 (.tup [.str a,.str b])
 refine ⟨t,_,rfl,DPut.t (k:=[Sum.inr a,Sum.inr b]) (s1 _ _ hT) aa (bm (by lia)),?_⟩
 have hl1:(putK kv [Sum.inr a,Sum.inr b] (V.bl true)).length <= kv.length + 1:=ck _ _ _
 have k1:Kp (· = t) H (upd (upd H t1 (.tup [.str a,.str b])) t (.dT (putK kv [Sum.inr a,Sum.inr b] (.bl true)))):=fun b o hb n=>by rw [ag n]; exact s1 _ _ hb
 have hT1:(upd (upd H t1 (.tup [.str a,.str b])) t (.dT (putK kv [Sum.inr a,Sum.inr b] (.bl true)))) t = some (.dT (putK kv [Sum.inr a,Sum.inr b] (.bl true))):=aa
 generalize upd (upd H t1 (.tup [.str a,.str b])) t (.dT (putK kv [Sum.inr a,Sum.inr b] (.bl true))) = H1 at k1 hT1 |-
 refine ⟨_,rfl,_,rfl,_,rfl,(show 2 <= sizeLine by decide),fun t2 ht2=>?_⟩
 have s2:=ae ht2 (.tup [.str b,.str a])
 refine ⟨t,_,rfl,DPut.t (k:=[Sum.inr b,Sum.inr a]) (s2 _ _ hT1) aa (bm (by lia)),?_⟩
 exact q _ (fun b o hb n=>by rw [ag n]; exact s2 _ _ (k1 b o hb n)) aa
theorem a2d:FnScope ["_law_part", "_law_unlike"] ["_law_part", "_law_unlike"] (ao p6):=⟨rfl,rfl,rfl,by decide +kernel,rfl,by decide +kernel,by decide +kernel⟩
theorem a1o (F:Fun K "_law_is_full" "_law_is_full" p6 f fd) (GE:FnOk P w K mg base CX0 1 gE dE ["_law_part"] (oy K)) (cE:Cal K mg "_law_ends" gE dE ["_law_part"]):FnOk P w K mg base CX0 2 f fd ["_law_part", "_law_unlike"] (ul K):=by
 refine F.okQ a2d (fun vs H Q E h=>?_) (fun cdv A outer s0 H vs Q E hr h=>?_)
 . obtain ⟨b,t,r,kv,rfl,_⟩:=h; rfl
 obtain ⟨b,t,r,kv,rfl,hR,hp,hT,q⟩:=h
 have hu1:=df hr
 refine ⟨_,(ah (aw (a4k (dl bw (ai (ixTk (K:=K) rfl) (qv 0) ad (fun _ _=>rfl)) bt (aq _)) (km (u4 hu1 (ax GE hr rfl cE.name cE.keep cE.bind .nil av (af (qv 0) ab)) (qv 1)))))),?_⟩
 refine ⟨_,rfl,b,_,0,_,rfl,rfl,hR,hp.at0,rfl,_,rfl,iteB (fun c=>?_) (fun c=>?_)⟩
 . have c':r.getD 0 "" = "cell" := by simpa using c
   exact q true H (Same.refl _) ⟨fun _ => .inl c',fun _=>rfl⟩
 . have c':¬ r.getD 0 "" = "cell" := by simpa using c
   refine ⟨_,rfl,b,r,rfl,hR,hp,fun t1 H1 e1 hT1=>?_⟩
   rw [uf hp c'] at hT1
   refine ⟨_,rfl,t,_,rfl,DGet.t (k:=[Sum.inr (place r),Sum.inr (end2 r)]) (e1 _ _ hT) hT1,?_⟩
   exact q _ H1 e1 ⟨fun z => .inr z,fun z=>z.resolve_left c'⟩
end
theorem ixK {X:Cx} {K:PySem.W.Frag} (h:X.K = K):IxR X (rIxL K):=by subst h; exact vx
open Classical in
noncomputable def nb (P:List (List Str)) (kv:List (List Key × V)) (n:Nat):Bool:=decide (∃ r,P[n]? = some r /\ FullR (InT kv) r)
open Classical in
theorem qq {P:List (List Str)} {kv:List (List Key × V)} {n:Nat}:nb P kv n = true ↔ ∃ r,P[n]? = some r /\ FullR (InT kv) r:=by
 unfold nb
 exact ⟨fun z=>of_decide_eq_true z,fun z=>decide_eq_true z⟩
theorem a3x {P:List (List Str)} {kv:List (List Key × V)} {n:Nat} {r:List Str} {b:Bool} (hn:P[n]? = some r) (hb:b = true ↔ FullR (InT kv) r):nb P kv n = b:=by
 rw [Bool.eq_iff_iff,qq,hb]
 constructor
 . rintro ⟨r',h1,h2⟩
   rw [hn] at h1
   cases h1
   exact h2
 . exact fun z=>⟨r,hn,z⟩
structure More (F P:List (List Str)) (xs:List Str) (kv kv':List (List Key × V)):Prop where
 tab:Tab xs kv'
 sub:∀ a b,InT kv a b -> InT kv' a b
 sound:(∀ a b,InT kv a b -> Un F P a b) -> ∀ a b,InT kv' a b -> Un F P a b
theorem More.refl {F P:List (List Str)} {xs:List Str} {kv:List (List Key × V)} (T:Tab xs kv):More F P xs kv kv:=⟨T,fun _ _ z=>z,fun h=>h⟩
theorem More.put {F P:List (List Str)} {xs:List Str} {kv kv':List (List Key × V)} (M:More F P xs kv kv') {a b:Str} (ha:a ∈ xs) (hb:b ∈ xs) (hu:(∀ a b,InT kv a b -> Un F P a b) -> Un F P a b):More F P xs kv (put2 kv' a b):=by
 refine ⟨M.tab.put ha hb,fun c d h=>inT_put2.mpr (.inl (M.sub c d h)),fun h c d hc=>?_⟩
 rcases inT_put2.mp hc with z | ⟨rfl,rfl⟩ | ⟨rfl,rfl⟩
 . exact M.sound h c d z
 . exact hu h
 . exact (cu F P).symm _ _ (hu h)
inductive spApartS (K:PySem.W.Frag) (vs:List V) (H:Hp) (Q:VK):Prop
 | mk (ql ut:Addr) (F P:List (List Str)) (xs:List Str) (kv:List (List Key × V)) (h0:vs = [.ref ql,.ref ut]) (h1:RowsAt K H ql P) (h2:P.length <= 6) (h3:(∀ r ∈ P,PoolPart xs r)) (h4:xs.length <= 8) (h5:("nil" : Str) ∈ xs) (h6:H ut = some (.dT kv)) (h7:Tab xs kv) (h8:∀ kv' H',Kp (· = ut) H H' -> H' ut = some (.dT kv') -> More F P xs kv kv' -> (∀ p ∈ P,FullR (InT kv) p -> InT kv' (place p) "nil") -> (∀ (i j:Nat) p q,P[i]? = some p -> P[j]? = some q -> i ≠ j -> FullR (InT kv) p -> FullR (InT kv) q -> InT kv' (place p) (place q)) -> Q .non H'):spApartS K vs H Q
noncomputable def vn (K:PySem.W.Frag):Sp:=fun vs H Q _=>spApartS K vs H Q
section
variable {P:Program} {w:World} {K:PySem.W.Frag} {mg:Str -> Option Value} {base:Heap} {f gE gF gP:Addr} {fd dE dF dP:FuncData}
theorem scApart:FnScope ["_law_parts", "_law_unlike", "_law_full", "_law_k", "_law_j"] ["_law_parts", "_law_unlike"] (ao tm):=⟨rfl,rfl,rfl,by decide +kernel,rfl,by decide +kernel,by decide +kernel⟩
theorem a3t (C:Con K mg w) (F:Fun K "_law_places_apart" "_law_places_apart" tm f fd) (GF:FnOk P w K mg base CX0 2 gF dF ["_law_part", "_law_unlike"] (ul K)) (cF:Cal K mg "_law_is_full" gF dF ["_law_part", "_law_unlike"])
   (GP:FnOk P w K mg base CX0 1 gP dP ["_law_table", "_law_one", "_law_other"] xq) (cP:Cal K mg "_law_put" gP dP ["_law_table", "_law_one", "_law_other"]):FnOk P w K mg base CX0 3 f fd ["_law_parts", "_law_unlike"] (vn K):=by
 refine F.okQ scApart (fun vs H Q E h=>?_) (fun cdv A outer s0 H vs Q E hr h=>?_)
 . obtain ⟨ql,ut,F,P,xs,kv,rfl,_⟩:=h; rfl
 obtain ⟨ql,ut,Fs,Ps,xs,kv,rfl,hQ,hP6,hPW,hx6,hnil,hU,hT,q⟩:=h
 have nd:=scApart.nd
 have hr1:=hr.mono (j:=1) (by lia)
 refine ⟨_,ac (jg ["_law_k", "_law_unlike", "_law_parts"] [1,0] (i:=2) nd rfl (Or.inl rfl) (cw rfl C.range (bv (b0 (ej (K:=K) rfl) rfl C.len PySem.boot_len (af (qv 0) ab)) ab)) (fun _ _ _ _=>(fe (db (ax GF hr rfl cF.name cF.keep cF.bind .nil av (ay (ai (ixK (K:=K) rfl) (qv 2) (qv 0) (fun _ _=>rfl)) (af (qv 1) ab)))))) (fun _ _ _ _=>(qv 0)))
   (ah (bg PassesOwn.never rfl (b8 (K:=K) rfl (qv 2)) (au (i:=3) nd rfl (Or.inl rfl)) (ac (bq (ax GP hr1 rfl cP.name cP.keep cP.bind .nil av (af (qv 1) (ay (ai (ixTk (K:=K) rfl) (ai (ixKk (K:=K) rfl) (qv 0) (qv 3) (fun _ _=>rfl)) ad (fun _ _=>rfl)) (bd ab)))))
   (ah (bg PassesOwn.never rfl (b8 (K:=K) rfl (qv 2)) (au (i:=4) nd rfl (Or.inl rfl)) (ah (bf (ar gf (qv 4) (qv 3) (aq _)) (ah (bq (ax GP hr1 rfl cP.name cP.keep cP.bind .nil av (af (qv 1) (ay (ai (ixTk (K:=K) rfl) (ai (ixKk (K:=K) rfl) (qv 0) (qv 3) (fun _ _=>rfl)) ad (fun _ _=>rfl)) (ay (ai (ixTk (K:=K) rfl) (ai (ixKk (K:=K) rfl) (qv 0) (qv 4) (fun _ _=>rfl)) ad (fun _ _=>rfl)) ab)))))) bc))))))),?_⟩
 obtain ⟨pas,hpl,hpp⟩:=id hQ
 have hpal:=Paired.length hpp
 have hml:(pas.map V.ref).length = Ps.length:=by rw [List.length_map]; exact hpal
 refine ⟨_,rfl,ql,_,rfl,.inl (SqL.of hpl),_,rfl,(by rw [hml]; lia),(by rw [hml]; lia),?_⟩
 rw [hml,Int.toNat_natCast]
 refine i0 (List.range Ps.length) (nb Ps kv) (by rw [<- lx]; exact lh) trivial (by rw [List.length_range]; lia) (fun n hn H2 e2 Q' q'=>?_) (fun n H2 Q' q'=>⟨_,rfl,q'⟩) fun D H1 hD e1 hd1=>?_
 . have hn':n < Ps.length:=List.mem_range.mp hn
   have hs:Ps[n]? = some Ps[n]:=List.getElem?_eq_getElem hn'
   obtain ⟨as,b,hpl2,hat,hR⟩:=em (hQ.same e2) hs
   refine ⟨_,rfl,_,rfl,ql,_,_,.ref b,rfl,rfl,SqL.of hpl2,hat,_,rfl,b,ut,_,kv,rfl,hR,(hPW _ (List.getElem_mem hn')).row,e2 _ _ hU,fun c H3 e3 hc=>⟨c,rfl,?_⟩⟩
   have:=q' H3 e3
   rw [a3x hs hc] at this
   exact this
 obtain ⟨fo,hfo⟩:∃ fo,(List.range Ps.length).filter (nb Ps kv) = fo:=⟨_,rfl⟩
 rw [hfo] at hd1
 have hfm:∀ k,k ∈ fo ↔ ∃ r,Ps[k]? = some r /\ FullR (InT kv) r:=fun k=>by
   rw [<- hfo,List.mem_filter,qq]
   exact ⟨fun z=>z.2,fun ⟨r,h1,h2⟩=>⟨List.mem_range.mpr (List.getElem?_eq_some_iff.mp h1).1,r,h1,h2⟩⟩
 have hU1:=e1 _ _ hU
 have hDu:D ≠ ut:=i9 hd1 hU1 (fun z=>nomatch z)
 have hQ1:=hQ.same e1
 have kq:∀ {H3:Hp},Kp (· = ut) H1 H3 -> RowsAt K H3 ql Ps:=fun k=>iu hQ1 k fun b hb=>⟨.dT kv,by rw [show b = ut from hb]; exact hU1,.inr (.inl ⟨_,rfl⟩)⟩
 have un_nil:∀ {r:List Str},r ∈ Ps -> FullR (InT kv) r -> (∀ a b,InT kv a b -> Un Fs Ps a b) -> Un Fs Ps (place r) "nil" := fun hr hf h=>(cu Fs Ps).nil _ hr (hf.mono h)
 refine ⟨_,rfl,D,rfl,⟨_,SqL.of hd1⟩,?_⟩
 refine bj (xs:=fo.map natV) (fun i σ H3=>Kp (· = ut) H1 H3 /\ Ex3 fun (kv3:List (List Key × V)) (z3 z4:Option V)=>And4 (H3 ut = some (.dT kv3)) (More Fs Ps xs kv kv3) ((∀ k ∈ fo.take i,∀ r,Ps[k]? = some r -> InT kv3 (place r) "nil" /\ ∀ j ∈ fo,j ≠ k -> ∀ s,Ps[j]? = some s -> InT kv3 (place r) (place s))) (σ = [some (.ref ql),some (.ref ut),some (.ref D),z3,z4]))
   ⟨fun _ _ z _=>z,kv,none,none,hU1,.refl hT,fun k hk=>by simp at hk,rfl⟩ (fun i σ H3 _ pv=>SqL.of (pv.1 _ _ hd1 hDu)) ?_ ?_
 . rintro i x σ H3 hx ⟨k3,kv3,z3,z4,hU3,M3,hc3,rfl⟩
   have hil:i < fo.length:=by have:=(List.getElem?_eq_some_iff.mp hx).1; rw [List.length_map] at this; exact this
   obtain rfl:x = .int ((fo[i]:Nat):Int):=by
     rw [List.getElem?_map,List.getElem?_eq_getElem hil] at hx
     exact (Option.some.inj hx).symm
   obtain ⟨r,hr1',hrf⟩:=(hfm _).mp (List.getElem_mem hil)
   have hrP:=List.mem_of_getElem? hr1'
   have hrW:=hPW r hrP
   obtain ⟨as3,b3,hpl3,hat3,hR3⟩:=em (kq k3) hr1'
   have hl3:=M3.tab.len
   replace hl3:=Nat.le_trans hl3 (Nat.mul_le_mul hx6 hx6)
   refine ⟨_,rfl,_,rfl,_,rfl,ql,_,_,.ref b3,rfl,rfl,SqL.of hpl3,hat3,b3,_,1,_,rfl,rfl,hR3,hrW.row.at1,ut,kv3,place r, "nil",rfl,hU3,by lia,fun H4 k4 hU4=>?_⟩
   have M4:More Fs Ps xs kv (put2 kv3 (place r) "nil"):=M3.put hrW.place hnil (un_nil hrP hrf)
   have k14:Kp (· = ut) H1 H4:=fun b o hb hn=>k4 b o (k3 b o hb hn) hn
   have hc4:∀ k ∈ fo.take i,∀ r',Ps[k]? = some r' -> InT (put2 kv3 (place r) "nil") (place r') "nil" /\ ∀ j ∈ fo,j ≠ k -> ∀ s,Ps[j]? = some s -> InT (put2 kv3 (place r) "nil") (place r') (place s):=fun k hk r' hr'=>by
     obtain ⟨g1,g2⟩:=hc3 k hk r' hr'
     exact ⟨inT_put2.mpr (.inl g1),fun j hj hjk s hs=>inT_put2.mpr (.inl (g2 j hj hjk s hs))⟩
   have hn4:InT (put2 kv3 (place r) "nil") (place r) "nil" := inT_put2.mpr (.inr (.inl ⟨rfl,rfl⟩))
   generalize put2 kv3 (place r) "nil" = kv4 at hU4 M4 hc4 hn4
   clear hc3 M3 hl3 hU3
   refine ⟨_,rfl,D,rfl,⟨_,SqL.of (k14 _ _ hd1 hDu)⟩,?_⟩
   refine bj (xs:=fo.map natV) (fun j σ H5=>Kp (· = ut) H1 H5 /\ Ex2 fun (kv5:List (List Key × V)) (z4:Option V)=>And5 (H5 ut = some (.dT kv5)) (More Fs Ps xs kv kv5) ((∀ a b,InT kv4 a b -> InT kv5 a b)) ((∀ j' ∈ fo.take j,j' ≠ fo[i] -> ∀ s,Ps[j']? = some s -> InT kv5 (place r) (place s))) (σ = [some (.ref ql),some (.ref ut),some (.ref D),some (.int ((fo[i]:Nat):Int)),z4]))
     ⟨k14,kv4,_,hU4,M4,fun _ _ z=>z,fun j' hj'=>by simp at hj',rfl⟩ (fun j σ H5 _ pv=>SqL.of (pv.1 _ _ hd1 hDu)) ?_ ?_
   . rintro j x σ H5 hx ⟨k5,kv5,z4,hU5,M5,hs5,hc5,rfl⟩
     have hjl:j < fo.length:=by have:=(List.getElem?_eq_some_iff.mp hx).1; rw [List.length_map] at this; exact this
     obtain rfl:x = .int ((fo[j]:Nat):Int):=by
       rw [List.getElem?_map,List.getElem?_eq_getElem hjl] at hx
       exact (Option.some.inj hx).symm
     have et:fo.take (j + 1) = fo.take j ++ [fo[j]]:=by rw [List.take_add_one,List.getElem?_eq_getElem hjl]; rfl
     refine ⟨_,rfl,_,rfl,rfl,_,rfl,iteB (fun c=>?_) (fun c=>?_)⟩
     . have c':fo[j] ≠ fo[i]:=fun z=>by rw [z] at c; simp at c
       obtain ⟨s,hs1,hsf⟩:=(hfm _).mp (List.getElem_mem hjl)
       have hsP:=List.mem_of_getElem? hs1
       have hsW:=hPW s hsP
       obtain ⟨as5,b5,hpl5,hat5,hR5⟩:=em (kq k5) hr1'
       obtain ⟨as6,b6,hpl6,hat6,hR6⟩:=em (kq k5) hs1
       have hl5:=M5.tab.len
       replace hl5:=Nat.le_trans hl5 (Nat.mul_le_mul hx6 hx6)
       refine ⟨_,rfl,_,rfl,_,rfl,ql,_,_,.ref b5,rfl,rfl,SqL.of hpl5,hat5,b5,_,1,_,rfl,rfl,hR5,hrW.row.at1,_,rfl,_,rfl,ql,_,_,.ref b6,rfl,rfl,SqL.of hpl6,hat6,b6,_,1,_,rfl,rfl,hR6,hsW.row.at1,ut,kv5,place r,place s,rfl,hU5,by lia,fun H6 k6 hU6=>?_⟩
       refine ⟨fun b o hb hn=>k6 b o (k5 b o hb hn) hn,_,_,hU6,M5.put hrW.place hsW.place (fun h=>(cu Fs Ps).two _ _ r s hr1' hs1 (Ne.symm c') (hrf.mono h) (hsf.mono h)),fun a b z=>inT_put2.mpr (.inl (hs5 a b z)),fun j' hj' hne s' hs'=>?_,rfl⟩
       rw [et] at hj'
       rcases List.mem_append.mp hj' with z | z
       . exact inT_put2.mpr (.inl (hc5 j' z hne s' hs'))
       . rw [List.mem_singleton.mp z,hs1] at hs'
         cases hs'
         exact inT_put2.mpr (.inr (.inl ⟨rfl,rfl⟩))
     . have c':fo[j] = fo[i]:=by
         have:((fo[j]:Nat):Int) = ((fo[i]:Nat):Int):=by simpa using c
         lia
       refine ⟨k5,kv5,_,hU5,M5,hs5,fun j' hj' hne s' hs'=>?_,rfl⟩
       rw [et] at hj'
       rcases List.mem_append.mp hj' with z | z
       . exact hc5 j' z hne s' hs'
       . exact absurd ((List.mem_singleton.mp z).trans c') hne
   . rintro σ H5 ⟨k5,kv5,z4,hU5,M5,hs5,hc5,rfl⟩
     rw [List.length_map,List.take_length] at hc5
     refine ⟨k5,kv5,_,_,hU5,M5,fun k hk r' hr'=>?_,rfl⟩
     rw [List.take_add_one,List.getElem?_eq_getElem hil] at hk
     rcases List.mem_append.mp hk with z | z
     . obtain ⟨g1,g2⟩:=hc4 k z r' hr'
       exact ⟨hs5 _ _ g1,fun j hj hjk s hs=>hs5 _ _ (g2 j hj hjk s hs)⟩
     . have ek:k = fo[i]:=by simpa using z
       subst ek
       rw [hr1'] at hr'
       cases hr'
       exact ⟨hs5 _ _ hn4,hc5⟩
 . rintro σ H3 ⟨k3,kv3,z3,z4,hU3,M3,hc3,rfl⟩
   rw [List.length_map,List.take_length] at hc3
   refine q kv3 H3 (fun b o hb hn=>k3 b o (e1 b o hb) hn) hU3 M3 (fun p hp hf=>?_) (fun i j p s hi hj hne hfp hfs=>?_)
   . obtain ⟨k,hk⟩:=List.getElem?_of_mem hp
     exact (hc3 k ((hfm k).mpr ⟨p,hk,hf⟩) p hk).1
   . exact (hc3 i ((hfm i).mpr ⟨p,hi,hfp⟩) p hi).2 j ((hfm j).mpr ⟨s,hj,hfs⟩) (Ne.symm hne) s hj
end
noncomputable abbrev pd:Stmt:=top 24
theorem inT_put1 {kv:List (List Key × V)} {a b c d:Str}:InT (putK kv [Sum.inr a,Sum.inr b] (.bl true)) c d ↔ InT kv c d \/ (c = a /\ d = b):=by
 unfold InT
 rw [cx]
 have e1:∀ x y z w':Str,([Sum.inr x,Sum.inr y]:List Key) = [Sum.inr z,Sum.inr w'] ↔ x = z /\ y = w':=fun x y z w'=>by simp
 by_cases c2:c = a /\ d = b
 . rw [if_pos ((e1 _ _ _ _).mpr c2)]
   exact ⟨fun _ => .inr c2,fun _=>rfl⟩
 . rw [if_neg (fun z=>c2 ((e1 _ _ _ _).mp z))]
   exact ⟨fun z => .inl z,fun z=>z.elim id (fun x=>absurd x c2)⟩
theorem Tab.put1 {xs:List Str} {kv:List (List Key × V)} (T:Tab xs kv) {a:Str} (ha:a ∈ xs):Tab xs (putK kv [Sum.inr a,Sum.inr a] (.bl true)):=by
 obtain ⟨n1,p1⟩:=ju (k:=[Sum.inr a,Sum.inr a]) (v:=V.bl true) T.nd
 refine ⟨fun q hq=>?_,n1,fun c d h=>?_⟩
 . rcases p1 q hq with z | ⟨p,hp,z⟩
   . exact ⟨a,a,z,ha,ha⟩
   . obtain ⟨c,d,e,hc,hd⟩:=T.pr p hp
     exact ⟨c,d,z.trans e,hc,hd⟩
 . rcases inT_put1.mp h with z | z
   . exact inT_put1.mpr (.inl (T.sym _ _ z))
   . exact inT_put1.mpr (.inr ⟨z.2,z.1⟩)
theorem Tab.mono_len {xs:List Str} {kv kv':List (List Key × V)} (T:Tab xs kv) (hs:∀ a b,InT kv a b -> InT kv' a b):kv.length <= kv'.length:=by
 have:=l4 (l:=kv.map (·.1)) (m:=kv'.map (·.1)) T.nd fun x hx=>by
   obtain ⟨q,hq,rfl⟩:=List.mem_map.mp hx
   obtain ⟨a',b',e',_,_⟩:=T.pr q hq
   rw [e']
   exact inT_key.mp (hs a' b' (inT_key.mpr (by rw [<- e']; exact List.mem_map.mpr ⟨q,hq,rfl⟩)))
 rw [List.length_map,List.length_map] at this
 exact this
theorem vw {a b:Str}:¬ InT [] a b:=fun h=>by unfold InT at h; cases h
theorem w9 (xs:List Str):Tab xs []:=⟨fun q hq=>by simp at hq,.nil,fun a b h=>by unfold InT at h; cases h⟩
structure Two (F P:List (List Str)) (xs:List Str) (ka ku:List (List Key × V)):Prop where
 ta:Tab xs ka
 tu:Tab xs ku
 sa:∀ a b,InT ka a b -> Conn F a b
 su:∀ a b,InT ku a b -> Un F P a b
 self:∀ a ∈ xs,InT ka a a
 is_:∀ u v,[("is" : Str),u,v] ∈ F -> InT ka u v
 not_:∀ u v,[("not" : Str),u,v] ∈ F -> InT ku u v
structure Closed (P:List (List Str)) (ka ku:List (List Key × V)):Prop where
 tr:∀ a b c,InT ka a b -> InT ka b c -> InT ka a c
 un:∀ a b c,InT ka a b -> InT ku b c -> InT ku a c
 nil:∀ p ∈ P,FullR (InT ku) p -> InT ku (place p) "nil"
 two:∀ (i j:Nat) p q,P[i]? = some p -> P[j]? = some q -> i ≠ j -> FullR (InT ku) p -> FullR (InT ku) q -> InT ku (place p) (place q)
structure Grow (F P:List (List Str)) (xs:List Str) (ka ku1 ka' ku':List (List Key × V)):Prop where
 ta:Tab xs ka'
 tu:Tab xs ku'
 sa:∀ a b,InT ka' a b -> Conn F a b
 su:∀ a b,InT ku' a b -> Un F P a b
 suba:∀ a b,InT ka a b -> InT ka' a b
 subu:∀ a b,InT ku1 a b -> InT ku' a b
theorem Grow.puta {F P:List (List Str)} {xs:List Str} {ka ku1 ka' ku':List (List Key × V)} (G:Grow F P xs ka ku1 ka' ku') {x z:Str} (hx:x ∈ xs) (hz:z ∈ xs) (c:Conn F x z):Grow F P xs ka ku1 (put2 ka' x z) ku':=by
 refine ⟨G.ta.put hx hz,G.tu,fun a b h=>?_,G.su,fun a b h=>inT_put2.mpr (.inl (G.suba a b h)),G.subu⟩
 rcases inT_put2.mp h with w | ⟨rfl,rfl⟩ | ⟨rfl,rfl⟩
 . exact G.sa a b w
 . exact c
 . exact c.symm
theorem Grow.putu {F P:List (List Str)} {xs:List Str} {ka ku1 ka' ku':List (List Key × V)} (G:Grow F P xs ka ku1 ka' ku') {x z:Str} (hx:x ∈ xs) (hz:z ∈ xs) (c:Un F P x z):Grow F P xs ka ku1 ka' (put2 ku' x z):=by
 refine ⟨G.ta,G.tu.put hx hz,G.sa,fun a b h=>?_,G.suba,fun a b h=>inT_put2.mpr (.inl (G.subu a b h))⟩
 rcases inT_put2.mp h with w | ⟨rfl,rfl⟩ | ⟨rfl,rfl⟩
 . exact G.su a b w
 . exact c
 . exact (cu F P).symm _ _ c
noncomputable def Proc (xs:List Str) (ka ku:List (List Key × V)) (i:Nat) (ka' ku':List (List Key × V)):Prop := ∀ q ∈ ka.take i,∀ a b:Str,q.1 = [Sum.inr a,Sum.inr b] -> ∀ c ∈ xs,(InT ka b c -> InT ka' a c) /\ (InT ku b c -> InT ku' a c)
theorem Proc.mono {xs:List Str} {ka ku:List (List Key × V)} {i:Nat} {ka' ku' ka2 ku2:List (List Key × V)} (h:Proc xs ka ku i ka' ku') (h1:∀ a b,InT ka' a b -> InT ka2 a b) (h2:∀ a b,InT ku' a b -> InT ku2 a b):Proc xs ka ku i ka2 ku2:=fun q hq a b e c hc=>⟨fun z=>h1 _ _ ((h q hq a b e c hc).1 z),fun z=>h2 _ _ ((h q hq a b e c hc).2 z)⟩
theorem xa {F P:List (List Str)} {xs:List Str} {ka ku:List (List Key × V)} (T:Two F P xs ka ku) (C:Closed P ka ku) {a b:Str} (c:Conn F a b):a = b \/ InT ka a b:=by
 induction c with
 | refl x=>exact .inl rfl
 | fact h=>exact .inr (T.is_ _ _ h)
 | symm _ ih=>exact ih.imp Eq.symm (T.ta.sym _ _)
 | trans _ _ i1 i2 =>
   rcases i1 with rfl | i1
   . exact i2
   . rcases i2 with rfl | i2
     . exact .inr i1
     . exact .inr (C.tr _ _ _ i1 i2)
theorem a8t {F P:List (List Str)} {xs:List Str} {ka ku:List (List Key × V)} (T:Two F P xs ka ku) (C:Closed P ka ku) {a b:Str} (u:Un F P a b):InT ku a b:=by
 refine u _ ⟨T.not_,T.tu.sym,fun a b c hc h=>?_,C.nil,C.two⟩
 rcases xa T C hc with rfl | z
 . exact h
 . exact C.un _ _ _ z h
inductive LW1 (H:Hp) (at_ ut fl ql pl:Addr) (Fs Ps:List (List Str)) (xs:List Str) (m:Nat) (σ:St) (H5:Hp):Prop
 | mk (e:Same H H5) (ka ku:List (List Key × V)) (n:Nat) (z5 z6 z7 z9:Option V) (h1:H5 at_ = some (.dT ka)) (h2:H5 ut = some (.dT ku)) (h3:Two Fs Ps xs ka ku) (h4:n <= ka.length + ku.length) (h5:n = ka.length + ku.length -> Closed Ps ka ku) (h6:m = 200 - n) (h7:σ = [some (.ref fl),some (.ref ql),some (.ref pl),some (.ref at_),some (.ref ut),z5,z6,z7,some (.int (n:Int)),z9]):LW1 H at_ ut fl ql pl Fs Ps xs m σ H5
inductive LI (H:Hp) (D at_ ut fl ql pl:Addr) (bs:List Addr) (ka ku ku1:List (List Key × V)) (Fs Ps:List (List Str)) (xs:List Str) (i:Nat) (σ:St) (H8:Hp):Prop
 | mk (e:Same H H8) (h1:H8 D = some (.lst (bs.map V.ref))) (h2:Paired (fun (q:List Key × V) b=>H8 b = some (.tup (q.1.map kV))) ka bs) (ka' ku':List (List Key × V)) (z5 z6 z7 z9:Option V) (h3:H8 at_ = some (.dT ka')) (h4:H8 ut = some (.dT ku')) (h5:Grow Fs Ps xs ka ku1 ka' ku') (h6:Proc xs ka ku i ka' ku') (h7:σ = [some (.ref fl),some (.ref ql),some (.ref pl),some (.ref at_),some (.ref ut),z5,z6,z7,some (.int ((ka.length:Int) + (ku.length:Int))),z9]):LI H D at_ ut fl ql pl bs ka ku ku1 Fs Ps xs i σ H8
inductive LJ (H:Hp) (D at_ ut fl ql pl:Addr) (bs:List Addr) (ka ku ku1:List (List Key × V)) (Fs Ps:List (List Str)) (xs:List Str) (x y:Str) (i j:Nat) (σ:St) (H9:Hp):Prop
 | mk (e:Same H H9) (h1:H9 D = some (.lst (bs.map V.ref))) (h2:Paired (fun (q:List Key × V) b=>H9 b = some (.tup (q.1.map kV))) ka bs) (ka' ku':List (List Key × V)) (z6 z9:Option V) (h3:H9 at_ = some (.dT ka')) (h4:H9 ut = some (.dT ku')) (h5:Grow Fs Ps xs ka ku1 ka' ku') (h6:Proc xs ka ku i ka' ku') (h7:∀ c ∈ xs.take j,(InT ka y c -> InT ka' x c) /\ (InT ku y c -> InT ku' x c)) (h8:σ = [some (.ref fl),some (.ref ql),some (.ref pl),some (.ref at_),some (.ref ut),some (.str x),z6,some (.str y),some (.int ((ka.length:Int) + (ku.length:Int))),z9]):LJ H D at_ ut fl ql pl bs ka ku ku1 Fs Ps xs x y i j σ H9
inductive spKnownLS (K:PySem.W.Frag) (vs:List V) (H:Hp) (Q:VK):Prop
 | mk (fl ql pl:Addr) (F P:List (List Str)) (xs:List Str) (h0:vs = [.ref fl,.ref ql,.ref pl]) (h1:RowsAt K H fl F) (h2:F.length <= 8) (h3:(∀ r ∈ F,PoolRow xs r)) (h4:RowsAt K H ql P) (h5:P.length <= 6) (h6:(∀ r ∈ P,PoolPart xs r)) (h7:H pl = some (.lst (xs.map V.str))) (h8:xs.length <= 8) (h9:("nil" : Str) ∈ xs) (h10:∀ t at_ ut ka ku H',Same H H' -> H' t = some (.tup [.ref at_,.ref ut]) -> H' at_ = some (.dT ka) -> H' ut = some (.dT ku) -> (∀ a ∈ xs,∀ b,InT ka a b ↔ Conn F a b) -> (∀ a b,InT ku a b ↔ Un F P a b) -> Tab xs ku -> Q (.ref t) H'):spKnownLS K vs H Q
noncomputable def lr (K:PySem.W.Frag):Sp:=fun vs H Q _=>spKnownLS K vs H Q
inductive tIfTS (t:Nat) (D:Ends) (σ:St) (H:Hp):Prop
 | mk (tt:Addr) (kv:List (List Key × V)) (a b c:Str) (h0:σ[t]? = some (some (.ref tt))) (h1:σ[5]? = some (some (.str a))) (h2:σ[7]? = some (some (.str b))) (h3:σ[9]? = some (some (.str c))) (h4:H tt = some (.dT kv)) (h5:kv.length <= 900) (h6:(¬ InT kv b c -> ∀ H',Same H H' -> D.nx σ H')) (h7:(InT kv b c -> ∀ H',Kp (· = tt) H H' -> H' tt = some (.dT (put2 kv a c)) -> D.nx σ H')):tIfTS t D σ H
noncomputable def tIfT (t:Nat):TS:=fun D σ H=>tIfTS t D σ H
section
variable {P:Program} {w:World} {K:PySem.W.Frag} {mg:Str -> Option Value} {base:Heap} {f gA gP:Addr} {fd dA dP:FuncData}
theorem scKnownL:FnScope ["_law_facts", "_law_parts", "_law_pool", "_law_alike", "_law_unlike", "_law_a", "_law_word", "_law_b", "_law_many", "_law_c"] ["_law_facts", "_law_parts", "_law_pool"] (ao pd):=⟨rfl,rfl,rfl,by decide +kernel,rfl,by decide +kernel,by decide +kernel⟩
theorem a0c (C:Con K mg w) (F:Fun K "_law_known" "_law_known" pd f fd) (GA:FnOk P w K mg base CX0 3 gA dA ["_law_parts", "_law_unlike"] (vn K)) (cA:Cal K mg "_law_places_apart" gA dA ["_law_parts", "_law_unlike"])
   (GP:FnOk P w K mg base CX0 1 gP dP ["_law_table", "_law_one", "_law_other"] xq) (cP:Cal K mg "_law_put" gP dP ["_law_table", "_law_one", "_law_other"]):FnOk P w K mg base CX0 4 f fd ["_law_facts", "_law_parts", "_law_pool"] (lr K):=by
 refine F.okQ scKnownL (fun vs H Q E h=>?_) (fun cdv A outer s0 H vs Q E hr h=>?_)
 . obtain ⟨fl,ql,pl,F,P,xs,rfl,_⟩:=h; rfl
 obtain ⟨fl,ql,pl,Fs,Ps,xs,rfl,hF,hF8,hFr,hQ,hP6,hPW,hX,hx6,hnil,q⟩:=h
 have nd:=scKnownL.nd
 have hu1:=df hr
 have hr1:=hr.mono (j:=1) (by lia)
 refine ⟨_,ac (ak (i:=3) nd rfl (Or.inl rfl) mn)
   (ac (ak (i:=4) nd rfl (Or.inl rfl) mn)
   (ac (bg PassesOwn.never rfl (b8 (K:=K) rfl (qv 2)) (au (i:=5) nd rfl (Or.inl rfl)) (ah (fc hu1 (qv 3) (br (af (qv 5) (af (qv 5) ab))) dg)))
   (ac (bg PassesOwn.never rfl (b8 (K:=K) rfl (qv 0)) (rm (K:=K) rfl (au (i:=6) nd rfl (Or.inl rfl)) (au (i:=5) nd rfl (Or.inl rfl)) (au (i:=7) nd rfl (Or.inl rfl))) (ah (bq (ax GP hr1 rfl cP.name cP.keep cP.bind .nil av (ay (ai (ixKk (K:=K) rfl) (bp (af (qv 4) (af (qv 3) ab))) (cf j5 rfl C.int PyProof.Rows.boot_int (gn (dl bw (qv 6) bt (aq _)) ab)) (fun _ _=>rfl)) (af (qv 5) (af (qv 7) ab)))))))
   (ac (ak (i:=8) nd rfl (Or.inl rfl) ad)
   (ac (mo PassesOwn.never (ar j0 (qv 8) (aj ca (b0 iz rfl C.len PySem.boot_len (af (qv 3) ab)) (b0 iz rfl C.len PySem.boot_len (af (qv 4) ab))) (aq _)) (ac (ak (i:=8) nd rfl (Or.inl rfl) (aj ca (b0 iz rfl C.len PySem.boot_len (af (qv 3) ab)) (b0 iz rfl C.len PySem.boot_len (af (qv 4) ab))))
   (ac (bq (ax GA hr rfl cA.name cA.keep cA.bind .nil av (af (qv 1) (af (qv 4) ab))))
   (ah (bg PassesOwn.never rfl (b8 (K:=K) rfl (cf (mw rfl) rfl C.list PyProof.Rows.boot_list (af (qv 3) ab))) (gr (K:=K) rfl (au (i:=5) nd rfl (Or.inl rfl)) (au (i:=7) nd rfl (Or.inl rfl))) (ah (bg PassesOwn.never rfl (b8 (K:=K) rfl (qv 2)) (au (i:=9) nd rfl (Or.inl rfl)) (ac (fb (t':=tIfT 3) (bf (io hu1 (br (af (qv 7) (af (qv 9) ab))) (qv 3)) (ah (bq (ax GP hr1 rfl cP.name cP.keep cP.bind .nil av (af (qv 3) (af (qv 5) (af (qv 9) ab)))))) bc) (fun D σ H hh=>by
     obtain ⟨tt,kv,a,b,c,g3,g5,g7,g9,hT,hl,no,yes⟩:=hh
     refine ⟨_,g7,_,g9,(show 2 <= sizeLine by decide),fun t ht=>?_⟩
     have s1:=ae ht (.tup [.str b,.str c])
     refine ⟨_,g3,tt,_,rfl,DGet.t (k:=[Sum.inr b,Sum.inr c]) (s1 _ _ hT) aa,_,rfl,iteB (fun cc=>?_) (fun cc=>no (fun z=>by rw [show (valV kv [Sum.inr b,Sum.inr c]).isSome = true from z] at cc; cases cc) _ s1)⟩
     exact ⟨_,g3,_,g5,_,g9,tt,kv,a,c,rfl,s1 _ _ hT,hl,fun H' k' e'=>yes cc H' (fun b o hb hn=>k' b o (s1 b o hb) hn) e'⟩))
   (ah (fb (t':=tIfT 4) (bf (io hu1 (br (af (qv 7) (af (qv 9) ab))) (qv 4)) (ah (bq (ax GP hr1 rfl cP.name cP.keep cP.bind .nil av (af (qv 4) (af (qv 5) (af (qv 9) ab)))))) bc) (fun D σ H hh=>by
     obtain ⟨tt,kv,a,b,c,g3,g5,g7,g9,hT,hl,no,yes⟩:=hh
     refine ⟨_,g7,_,g9,(show 2 <= sizeLine by decide),fun t ht=>?_⟩
     have s1:=ae ht (.tup [.str b,.str c])
     refine ⟨_,g3,tt,_,rfl,DGet.t (k:=[Sum.inr b,Sum.inr c]) (s1 _ _ hT) aa,_,rfl,iteB (fun cc=>?_) (fun cc=>no (fun z=>by rw [show (valV kv [Sum.inr b,Sum.inr c]).isSome = true from z] at cc; cases cc) _ s1)⟩
     exact ⟨_,g3,_,g5,_,g9,tt,kv,a,c,rfl,s1 _ _ hT,hl,fun H' k' e'=>yes cc H' (fun b o hb hn=>k' b o (s1 b o hb) hn) e'⟩)))))))))))
   (ah (aw (br (af (qv 3) (af (qv 4) ab)))))))))),?_⟩
 intro at_ hat0
 have s1:=ae hat0 (.dT [])
 have hat1:(upd H at_ (.dT [])) at_ = some (.dT []):=aa
 generalize upd H at_ (.dT []) = H1 at s1 hat1 |-
 intro ut hut1
 have s2:=s1.trans (ae hut1 (.dT []))
 have hut0:H ut = none:=by
   cases hz:H ut with
   | none=>rfl
   | some o=>rw [s1 _ _ hz] at hut1; cases hut1
 have hau:at_ ≠ ut:=az hat1 hut1
 have ha2:(upd H1 ut (.dT [])) at_ = some (.dT []):=by rw [ag hau]; exact hat1
 have hu2:(upd H1 ut (.dT [])) ut = some (.dT []):=aa
 generalize upd H1 ut (.dT []) = H2 at s2 ha2 hu2 |-
 have ka_:∀ {Hx Hy:Hp},Same H Hx -> Kp (· = at_) Hx Hy -> Same H Hy:=fun e k b o hb=>k b o (e b o hb) (fun z=>by have z':b = at_:=z; rw [z',hat0] at hb; cases hb)
 have ku_:∀ {Hx Hy:Hp},Same H Hx -> Kp (· = ut) Hx Hy -> Same H Hy:=fun e k b o hb=>k b o (e b o hb) (fun z=>by have z':b = ut:=z; rw [z',hut0] at hb; cases hb)
 dsimp only [bh]
 refine ce (a:=tFor _ _ _) fun D1 hN1 hR1_ hC1_=>?_
 refine ⟨_,rfl,pl,rfl,⟨_,SqL.of (s2 _ _ hX)⟩,?_⟩
 refine bj (xs:=xs.map V.str) (fun i σ H3=>Same H H3 /\ ∃ (ka:List (List Key × V)) (z5:Option V),H3 at_ = some (.dT ka) /\ H3 ut = some (.dT []) /\ Tab xs ka /\ (∀ a b,InT ka a b -> a = b) /\ (∀ a ∈ xs.take i,InT ka a a) /\ σ = [some (.ref fl),some (.ref ql),some (.ref pl),some (.ref at_),some (.ref ut),z5,none,none,none,none])
   ⟨s2,[],none,ha2,hu2,w9 xs,fun a b h=>absurd h vw,(fun a ha=>by simp at ha),rfl⟩ (fun i σ H3 _ pv=>SqL.of (pv.1 _ _ hX)) ?_ ?_
 . rintro i x σ H3 hi ⟨e3,ka,z5,ha3,hu3,T3,se3,sl3,rfl⟩
   obtain ⟨y,hy,rfl⟩:∃ y,xs[i]? = some y /\ x = .str y:=by
     rw [List.getElem?_map] at hi
     cases hz:xs[i]? with
     | none=>rw [hz] at hi; cases hi
     | some nm=>rw [hz] at hi; exact ⟨nm,rfl,(Option.some.inj hi).symm⟩
   have hyx:=List.mem_of_getElem? hy
   have hl3:=T3.len
   replace hl3:=Nat.le_trans hl3 (Nat.mul_le_mul hx6 hx6)
   refine ⟨_,rfl,_,rfl,_,rfl,(show 2 <= sizeLine by decide),fun t1 ht1=>?_⟩
   have s4:=ae ht1 (.tup [.str y,.str y])
   refine ⟨at_,_,rfl,DPut.t (k:=[Sum.inr y,Sum.inr y]) (s4 _ _ ha3) aa (bm (by lia)),?_⟩
   refine ⟨ka_ (e3.trans s4) (fun b o hb hn=>by rw [ag hn]; exact hb),_,_,aa,by rw [ag (Ne.symm hau)]; exact s4 _ _ hu3,T3.put1 hyx,fun a b h=>?_,fun a ha=>?_,rfl⟩
   . rcases inT_put1.mp h with z | z
     . exact se3 a b z
     . rw [z.1,z.2]
   . rw [List.take_add_one,hy] at ha
     rcases List.mem_append.mp ha with z | z
     . exact inT_put1.mpr (.inl (sl3 a z))
     . have:a = y:=by simpa using z
       exact inT_put1.mpr (.inr ⟨this,this⟩)
 rintro σ H3 ⟨e3,ka0,z5,ha3,hu3,T3,se3,sl3,rfl⟩
 refine hN1 _ _ ?_
 clear hN1 hR1_ hC1_ D1
 rw [List.length_map,List.take_length] at sl3
 obtain ⟨fas,hfl,hfp⟩:=id hF
 have hfal:=Paired.length hfp
 refine ce (a:=tFor _ _ _) fun D1 hN1 hR1_ hC1_=>?_
 refine ⟨_,rfl,fl,rfl,⟨_,SqL.of (e3 _ _ hfl)⟩,?_⟩
 refine bj (xs:=fas.map V.ref) (fun i σ H4=>Same H H4 /\ ∃ (ka ku:List (List Key × V)) (z5 z6 z7:Option V),H4 at_ = some (.dT ka) /\ H4 ut = some (.dT ku) /\ Tab xs ka /\ Tab xs ku /\ (∀ a b,InT ka a b -> Conn Fs a b) /\ (∀ a b,InT ku a b -> Un Fs Ps a b) /\ (∀ a ∈ xs,InT ka a a) /\ (∀ u v,[("is" : Str),u,v] ∈ Fs.take i -> InT ka u v) /\ (∀ u v,[("not" : Str),u,v] ∈ Fs.take i -> InT ku u v) /\ σ = [some (.ref fl),some (.ref ql),some (.ref pl),some (.ref at_),some (.ref ut),z5,z6,z7,none,none])
   ⟨e3,ka0,[],z5,none,none,ha3,hu3,T3,w9 xs,(fun a b h=>by rw [se3 a b h]; exact .refl b),(fun a b h=>absurd h vw),sl3,(fun u v h=>by simp at h),(fun u v h=>by simp at h),rfl⟩ (fun i σ H4 _ pv=>SqL.of (pv.1 _ _ hfl)) ?_ ?_
 . rintro i x σ H4 hi ⟨e4,ka,ku,z5,z6,z7,ha4,hu4,Ta,Tu,sa,su,sl,his,hnot,rfl⟩
   obtain ⟨b',hb,rfl⟩:=ee hi
   obtain ⟨r,hr1',hr2'⟩:=Paired.nth hfp hb
   have hrm:=List.mem_of_getElem? hr1'
   obtain ⟨k,u,v,rfl,hk,hum,hvm⟩:=hFr r hrm
   have htk:Fs.take (i + 1) = Fs.take i ++ [[k,u,v]]:=by rw [List.take_add_one,hr1']; rfl
   have hla:=Ta.len
   have hlu:=Tu.len
   replace hla:=Nat.le_trans hla (Nat.mul_le_mul hx6 hx6)
   replace hlu:=Nat.le_trans hlu (Nat.mul_le_mul hx6 hx6)
   refine ⟨b',_,rfl,hr2'.same e4,rfl,_,_,rfl,_,_,rfl,_,_,rfl,rfl,?_⟩
   refine ⟨_,rfl,_,rfl,(show 2 <= sizeLine by decide),fun l5 hl5=>?_⟩
   have s5:=ae hl5 (.lst [.ref ut,.ref at_])
   refine ⟨_,rfl,rfl,_,rfl,?_⟩
   by_cases hc:k = "is"
   . subst hc
     have ec:decide (V.str "is" = V.str "is") = true:=by simp
     refine ⟨l5,_,_,.ref at_,rfl,rfl,SqL.of aa,by rw [ec]; rfl,_,rfl,_,rfl,at_,ka,u,v,rfl,s5 _ _ ha4,by lia,fun H6 k6 ha6=>?_⟩
     refine ⟨ka_ (e4.trans s5) k6,_,ku,_,_,_,ha6,k6 _ _ (s5 _ _ hu4) (Ne.symm hau),Ta.put hum hvm,Tu,fun a b h=>?_,su,fun a ha=>inT_put2.mpr (.inl (sl a ha)),fun u' v' h=>?_,fun u' v' h=>?_,rfl⟩
     . rcases inT_put2.mp h with z | ⟨rfl,rfl⟩ | ⟨rfl,rfl⟩
       . exact sa a b z
       . exact .fact hrm
       . exact (Conn.fact hrm).symm
     . rw [htk] at h
       rcases List.mem_append.mp h with z | z
       . exact inT_put2.mpr (.inl (his u' v' z))
       . have z':=List.mem_singleton.mp z
         simp only [List.cons.injEq,and_true,true_and] at z'
         exact inT_put2.mpr (.inr (.inl z'))
     . rw [htk] at h
       rcases List.mem_append.mp h with z | z
       . exact hnot u' v' z
       . have z':=List.mem_singleton.mp z
         simp only [List.cons.injEq,and_true] at z'
         exact absurd z'.1 (by decide +kernel)
   . have hk':k = "not" := hk.resolve_left hc
     subst hk'
     have ec:decide (V.str "not" = V.str "is") = false:=by
       rw [decide_eq_false_iff_not]
       intro z
       exact hc (V.str.inj z)
     refine ⟨l5,_,_,.ref ut,rfl,rfl,SqL.of aa,by rw [ec]; rfl,_,rfl,_,rfl,ut,ku,u,v,rfl,s5 _ _ hu4,by lia,fun H6 k6 hu6=>?_⟩
     refine ⟨ku_ (e4.trans s5) k6,ka,_,_,_,_,k6 _ _ (s5 _ _ ha4) hau,hu6,Ta,Tu.put hum hvm,sa,fun a b h=>?_,sl,fun u' v' h=>?_,fun u' v' h=>?_,rfl⟩
     . rcases inT_put2.mp h with z | ⟨rfl,rfl⟩ | ⟨rfl,rfl⟩
       . exact su a b z
       . exact (cu Fs Ps).fact _ _ hrm
       . exact (cu Fs Ps).symm _ _ ((cu Fs Ps).fact _ _ hrm)
     . rw [htk] at h
       rcases List.mem_append.mp h with z | z
       . exact his u' v' z
       . have z':=List.mem_singleton.mp z
         simp only [List.cons.injEq,and_true] at z'
         exact absurd z'.1 (by decide +kernel)
     . rw [htk] at h
       rcases List.mem_append.mp h with z | z
       . exact inT_put2.mpr (.inl (hnot u' v' z))
       . have z':=List.mem_singleton.mp z
         simp only [List.cons.injEq,and_true,true_and] at z'
         exact inT_put2.mpr (.inr (.inl z'))
 rintro σ H4 ⟨e4,ka,ku,z5,z6,z7,ha4,hu4,Ta,Tu,sa,su,sl,his,hnot,rfl⟩
 refine hN1 _ _ ?_
 clear hN1 hR1_ hC1_ D1
 rw [List.length_map,hfal,List.take_length] at his hnot
 have W0:Two Fs Ps xs ka ku:=⟨Ta,Tu,sa,su,sl,his,hnot⟩
 clear Ta Tu sa su sl his hnot T3 se3 sl3 ha3 hu3 e3 ha2 hu2 s2
 refine vo (fun m σ H5=>LW1 H at_ ut fl ql pl Fs Ps xs m σ H5)
   (m0:=200) ⟨e4,ka,ku,0,z5,z6,z7,none,ha4,hu4,W0,Nat.zero_le _,fun hz=>?_,rfl,rfl⟩ ?_ ?_
 . have:=W0.self _ hnil
   have hk0:ka = []:=List.eq_nil_of_length_eq_zero (by lia)
   rw [hk0] at this
   unfold InT at this
   cases this
 . rintro m σ H5 ⟨e5,ka,ku,n,z5,z6,z7,z9,ha5,hu5,W,hn,hcl,rfl,rfl⟩
   refine ⟨_,rfl,_,rfl,at_,ka,rfl,ha5,_,rfl,ut,ku,rfl,hu5,_,_,rfl,rfl,_,_,rfl,rfl,_,rfl,iteB (fun c=>?_) (fun c=>?_)⟩
   . have c':n < ka.length + ku.length:=by have:=of_decide_eq_true c; lia
     have hla:=W.ta.len
     have hlu:=W.tu.len
     replace hla:=Nat.le_trans hla (Nat.mul_le_mul hx6 hx6)
     replace hlu:=Nat.le_trans hlu (Nat.mul_le_mul hx6 hx6)
     refine ⟨_,rfl,at_,ka,rfl,ha5,_,rfl,ut,ku,rfl,hu5,_,_,rfl,rfl,?_⟩
     refine ⟨_,rfl,_,rfl,ql,ut,Fs,Ps,xs,ku,rfl,hQ.same e5,hP6,hPW,hx6,hnil,hu5,W.tu,fun ku1 H6 k6 hu6 M6 n6 t6=>?_⟩
     have e6:=ku_ e5 k6
     have ha6:=k6 _ _ ha5 hau
     refine ⟨_,rfl,at_,ka,rfl,ha6,fun D bs hD hbs=>⟨D,rfl,⟨_,SqL.of aa⟩,?_⟩⟩
     have s7:=ae hD (.lst (bs.map V.ref))
     have hbl:=Paired.length hbs
     have stp:∀ {Hx Hy:Hp} {tt:Addr} {kv:List (List Key × V)},Hx tt = some (.dT kv) -> Kp (· = tt) Hx Hy -> Hx D = some (.lst (bs.map V.ref)) -> Paired (fun (q:List Key × V) b=>Hx b = some (.tup (q.1.map kV))) ka bs -> Hy D = some (.lst (bs.map V.ref)) /\ Paired (fun (q:List Key × V) b=>Hy b = some (.tup (q.1.map kV))) ka bs:=fun {Hx Hy tt kv} ht k h1 h2 =>
       ⟨k _ _ h1 (fun z=>by have z':D = tt:=z; rw [z',ht] at h1; cases h1),Paired.mapP h2 fun q b hb=>k _ _ hb (fun z=>by have z':b = tt:=z; rw [z',ht] at hb; cases hb)⟩
     have sts:∀ {Hx Hy:Hp},Same Hx Hy -> Hx D = some (.lst (bs.map V.ref)) -> Paired (fun (q:List Key × V) b=>Hx b = some (.tup (q.1.map kV))) ka bs -> Hy D = some (.lst (bs.map V.ref)) /\ Paired (fun (q:List Key × V) b=>Hy b = some (.tup (q.1.map kV))) ka bs:=fun {Hx Hy} k h1 h2=>⟨k _ _ h1,Paired.mapP h2 fun q b hb=>k _ _ hb⟩
     refine bj (xs:=bs.map V.ref) (fun i σ H8=>LI H D at_ ut fl ql pl bs ka ku ku1 Fs Ps xs i σ H8)
       ⟨e6.trans s7,aa,Paired.mapP hbs fun q b hb=>s7 _ _ hb,ka,ku1,_,_,_,_,s7 _ _ ha6,s7 _ _ hu6,⟨W.ta,M6.tab,W.sa,M6.sound W.su,fun _ _ z=>z,fun _ _ z=>z⟩,(fun q hq=>by simp at hq),rfl⟩ (fun i σ H8 _ pv=>by obtain ⟨_,h,_⟩:=pv; exact SqL.of h) ?_ ?_
     . rintro i xv σ H8 hi ⟨e8,hD8,hb8,ka',ku',z5,z6,z7,z9,ha8,hu8,G8,p8,rfl⟩
       obtain ⟨b,hb,rfl⟩:=ee hi
       have hil:i < ka.length:=by rw [hbl]; exact (List.getElem?_eq_some_iff.mp hb).1
       have hqi:ka[i]? = some ka[i]:=List.getElem?_eq_getElem hil
       obtain ⟨x,y,hxy,hx,hy⟩:=W.ta.pr _ (List.getElem_mem hil)
       have hbt:=Paired.at2 hb8 hqi hb
       rw [hxy] at hbt
       have hin:InT ka x y:=inT_key.mpr (by rw [<- hxy]; exact List.mem_map.mpr ⟨_,List.getElem_mem hil,rfl⟩)
       refine ⟨b,[.str x,.str y],rfl,SqT.of hbt,rfl,_,_,rfl,_,_,rfl,rfl,?_⟩
       refine ⟨_,rfl,pl,rfl,⟨_,SqL.of (e8 _ _ hX)⟩,?_⟩
       refine bj (xs:=xs.map V.str) (fun j σ H9=>LJ H D at_ ut fl ql pl bs ka ku ku1 Fs Ps xs x y i j σ H9)
         ⟨e8,hD8,hb8,ka',ku',_,_,ha8,hu8,G8,p8,(fun c hc=>by simp at hc),rfl⟩ (fun j σ H9 _ pv=>by obtain ⟨e,_⟩:=pv; exact SqL.of (e _ _ hX)) ?_ ?_
       . clear p8 G8 ha8 hu8 hD8 hb8 e8 ka' ku'
         rintro j zv σ H9 hj ⟨e9,hD9,hb9,ka',ku',z6,z9,ha9,hu9,G9,p9,pj,rfl⟩
         obtain ⟨z,hz,rfl⟩:∃ y,xs[j]? = some y /\ zv = .str y:=by
           rw [List.getElem?_map] at hj
           cases hz:xs[j]? with
           | none=>rw [hz] at hj; cases hj
           | some nm=>rw [hz] at hj; exact ⟨nm,rfl,(Option.some.inj hj).symm⟩
         have hzx:=List.mem_of_getElem? hz
         have htk:∀ c,c ∈ xs.take (j + 1) -> c ∈ xs.take j \/ c = z:=fun c hc=>by
           rw [List.take_add_one,hz] at hc
           rcases List.mem_append.mp hc with w | w
           . exact .inl w
           . exact .inr (by simpa using w)
         have hl1:=G9.ta.len
         have hl2:=G9.tu.len
         replace hl1:=Nat.le_trans hl1 (Nat.mul_le_mul hx6 hx6)
         replace hl2:=Nat.le_trans hl2 (Nat.mul_le_mul hx6 hx6)
         have snd:∀ (ka2:List (List Key × V)) (H10:Hp),Same H H10 -> H10 D = some (.lst (bs.map V.ref)) -> Paired (fun (q:List Key × V) b=>H10 b = some (.tup (q.1.map kV))) ka bs -> H10 at_ = some (.dT ka2) -> H10 ut = some (.dT ku') -> Grow Fs Ps xs ka ku1 ka2 ku' -> Proc xs ka ku i ka2 ku' -> (∀ c ∈ xs.take j,(InT ka y c -> InT ka2 x c) /\ (InT ku y c -> InT ku' x c)) -> (InT ka y z -> InT ka2 x z) -> ∀ D':Ends,(∀ σ H11,LJ H D at_ ut fl ql pl bs ka ku ku1 Fs Ps xs x y i (j + 1) σ H11 -> D'.nx σ H11) ->
             tIfT 4 D' [some (.ref fl),some (.ref ql),some (.ref pl),some (.ref at_),some (.ref ut),some (.str x),z6,some (.str y),some (.int ((ka.length:Int) + (ku.length:Int))),some (.str z)] H10:=fun ka2 H10 e10 hD10 hb10 ha10 hu10 G10 p10 pj10 hz10 D' hD'=>by
           refine ⟨ut,ku',x,y,z,rfl,rfl,rfl,rfl,hu10,by lia,fun no H11 s11=>?_,fun yes H11 k11 hu11=>?_⟩
           . obtain ⟨d1,d2⟩:=sts s11 hD10 hb10
             refine hD' _ _ ⟨e10.trans s11,d1,d2,ka2,ku',_,_,s11 _ _ ha10,s11 _ _ hu10,G10,p10,fun c hc=>?_,rfl⟩
             rcases htk c hc with w | rfl
             . exact pj10 c w
             . exact ⟨hz10,fun w=>absurd (G10.subu _ _ (M6.sub _ _ w)) no⟩
           . obtain ⟨d1,d2⟩:=stp hu10 k11 hD10 hb10
             refine hD' _ _ ⟨ku_ e10 k11,d1,d2,ka2,_,_,_,k11 _ _ ha10 hau,hu11,G10.putu hx hzx ((cu Fs Ps).conn _ _ _ (W.sa _ _ hin) (G10.su _ _ yes)),p10.mono (fun _ _ w=>w) (fun _ _ w=>inT_put2.mpr (.inl w)),fun c hc=>?_,rfl⟩
             rcases htk c hc with w | rfl
             . exact ⟨(pj10 c w).1,fun v=>inT_put2.mpr (.inl ((pj10 c w).2 v))⟩
             . exact ⟨hz10,fun _=>inT_put2.mpr (.inr (.inl ⟨rfl,rfl⟩))⟩
         refine ⟨at_,ka',x,y,z,rfl,rfl,rfl,rfl,ha9,by lia,fun no H10 s10=>?_,fun yes H10 k10 ha10=>?_⟩
         . obtain ⟨d1,d2⟩:=sts s10 hD9 hb9
           exact snd ka' H10 (e9.trans s10) d1 d2 (s10 _ _ ha9) (s10 _ _ hu9) G9 p9 pj (fun w=>absurd (G9.suba _ _ w) no) _ (fun _ _ w=>w)
         . obtain ⟨d1,d2⟩:=stp ha9 k10 hD9 hb9
           exact snd (put2 ka' x z) H10 (ka_ e9 k10) d1 d2 ha10 (k10 _ _ hu9 (Ne.symm hau)) (G9.puta hx hzx ((W.sa _ _ hin).trans (G9.sa _ _ yes))) (p9.mono (fun _ _ w=>inT_put2.mpr (.inl w)) (fun _ _ w=>w)) (fun c hc=>⟨fun v=>inT_put2.mpr (.inl ((pj c hc).1 v)),(pj c hc).2⟩) (fun _=>inT_put2.mpr (.inr (.inl ⟨rfl,rfl⟩))) _ (fun _ _ w=>w)
       . rintro σ H9 ⟨e9,hD9,hb9,ka',ku',z6,z9,ha9,hu9,G9,p9,pj,rfl⟩
         rw [List.length_map,List.take_length] at pj
         refine ⟨e9,hD9,hb9,ka',ku',_,_,_,_,ha9,hu9,G9,fun q hq a b e c hc=>?_,rfl⟩
         rw [List.take_add_one,hqi] at hq
         rcases List.mem_append.mp hq with w | w
         . exact p9 q w a b e c hc
         . have hqe:q = ka[i]:=by simpa using w
           rw [hqe,hxy] at e
           simp only [List.cons.injEq,Sum.inr.injEq,and_true] at e
           rw [<- e.1,<- e.2]
           exact pj c hc
     . rintro σ H8 ⟨e8,hD8,hb8,ka',ku',z5,z6,z7,z9,ha8,hu8,G8,p8,rfl⟩
       rw [List.length_map,<- hbl,Proc,List.take_length] at p8
       have hsubu:∀ a b,InT ku a b -> InT ku' a b:=fun a b h=>G8.subu a b (M6.sub a b h)
       have l1:=W.ta.mono_len G8.suba
       have l2:=W.tu.mono_len hsubu
       have proc:∀ a b c,InT ka a b -> c ∈ xs -> (InT ka b c -> InT ka' a c) /\ (InT ku b c -> InT ku' a c):=fun a b c h hc=>by
         obtain ⟨q,hq,e⟩:=List.mem_map.mp (inT_key.mp h)
         exact p8 q hq a b e c hc
       refine ⟨200 - (ka.length + ku.length),by lia,e8,ka',ku',ka.length + ku.length,_,_,_,_,ha8,hu8,⟨G8.ta,G8.tu,G8.sa,G8.su,fun a ha=>G8.suba _ _ (W.self a ha),fun u v h=>G8.suba _ _ (W.is_ u v h),fun u v h=>hsubu _ _ (W.not_ u v h)⟩,by lia,fun heq=>?_,rfl,rfl⟩
       have ba:∀ a b,InT ka' a b -> InT ka a b:=fun a b h=>W.ta.stay G8.ta G8.suba (by lia) h
       have bu:∀ a b,InT ku' a b -> InT ku a b:=fun a b h=>W.tu.stay G8.tu hsubu (by lia) h
       refine ⟨fun a b c h1 h2=>(proc a b c (ba _ _ h1) (G8.ta.words h2).2).1 (ba _ _ h2),fun a b c h1 h2=>(proc a b c (ba _ _ h1) (G8.tu.words h2).2).2 (bu _ _ h2),fun p hp hf=>G8.subu _ _ (n6 p hp (hf.mono bu)),fun i j p q hi hj hne h1 h2=>G8.subu _ _ (t6 i j p q hi hj hne (h1.mono bu) (h2.mono bu))⟩
   . have c':¬ n < ka.length + ku.length:=by have:=of_decide_eq_false c; lia
     have Cl:=hcl (by lia)
     refine ⟨_,rfl,_,rfl,(show 2 <= sizeLine by decide),fun t ht=>?_⟩
     have s6:=ae ht (.tup [.ref at_,.ref ut])
     refine q t at_ ut ka ku _ (e5.trans s6) aa (s6 _ _ ha5) (s6 _ _ hu5) (fun a ha b=>⟨W.sa a b,fun h=>?_⟩) (fun a b=>⟨W.su a b,a8t W Cl⟩) W.tu
     rcases xa W Cl h with rfl | z
     . exact W.self a ha
     . exact z
 . rintro σ H1 Q Q' hQ hh
   obtain ⟨v,h1,w1,h2,a1,k1,h3,h4,w2,h5,a2,k2,h6,h7,i1,j1,h8,h9,i2,j2,h10,h11,b,h12,h13⟩:=hh
   exact ⟨v,h1,w1,h2,a1,k1,h3,h4,w2,h5,a2,k2,h6,h7,i1,j1,h8,h9,i2,j2,h10,h11,b,h12,hQ _ _ h13⟩
end
structure NeAt (C:Addr) (H:Hp) (p pl hd un fu D:Addr) (ns:List Nat):Prop where
 at_:∃ dx fs,H p = some (.ins C dx fs) /\ KFs fs pl hd un fu /\ fs.lookup ("not_empty" : Str) = some (.ref D)
 lst:H D = some (.lst (ns.map natV))
noncomputable def w8 (F P:List (List Str)) (ns:List Nat) (n:Nat) (r:List Str):Prop:=(∃ j ∈ ns,j ≠ n /\ ∃ s,P[j]? = some s /\ ap F (place r) = ap F (place s)) \/ ap F (place r) = ap F "nil"
noncomputable def neOf (F P:List (List Str)):List Nat:=(List.range P.length).filter fun n => !dz P (ap F) n
theorem gt {F P:List (List Str)} {j:Nat} {r:List Str} (h:P[j]? = some r):j ∈ neOf F P ↔ ¬ fi r (ap F) []:=by
 unfold neOf
 rw [List.mem_filter]
 constructor
 . rintro ⟨_,h2⟩ he
   have:=emptyB_iff.mpr ⟨r,h,he⟩
   rw [this] at h2; cases h2
 . intro hn
   refine ⟨List.mem_range.mpr (List.getElem?_eq_some_iff.mp h).1,?_⟩
   cases hz:dz P (ap F) j with
   | false=>rfl
   | true =>
     obtain ⟨r',h1,h2⟩:=emptyB_iff.mp hz
     rw [h] at h1
     cases h1
     exact absurd h2 hn
end K23
namespace L2
open PySem PySem.Spec
section
variable {X:Cx} {pins:List (Addr × Obj)} {σ:St} {H:Hp} {s:Shared} {a b:Addr} {A:Around} {E:Value -> Shared -> Prop}
theorem a42 {kvs more:List (Key × V)} {Q:Value -> Shared -> Prop} (I:Inv X pins σ H s) (e:H a = some (.dK kvs)) (e2:H b = some (.dK more)) (hne:a ≠ b) (hl:kvs.length + more.length <= sizeLine)
   (h:∀ s',Inv X pins σ (upd H a (.dK (cr kvs more))) s' -> Q .none s'):wpAny (model X.prog X.w) A (call (.builtin "dict.update") [.ref a,.ref b]) Q E s:=by
 obtain ⟨z,hd,vs,rel,dd⟩:=j4 I.hok e
 obtain ⟨z2,hd2,vs2,rel2,dd2⟩:=j4 I.hok e2
 refine call_meetsIn PySem.F.slot_dict_update dd.typeIs PySem.F.entry_dict_update (PySem.F.args_dict_update_2 _ _) (meets_dict_update (bn X.prog X.w) a b hne hd2) ⟨vs,vs2,dd,dd2,by rw [<- rel.length,<- rel2.length]; exact hl,fun h' dd' _ hs=>?_⟩
 refine h _ ?_
 have he:∃ q,h'.get? a = some q:=let ⟨q,_,_,hq,_⟩:=dd'; ⟨q,hq⟩
 have hl2:(cr kvs more).length <= sizeLine:=by have:=i5 more kvs; lia
 exact gp I (by rw [e]; exact True.intro) hs he (im hl2 hd (rel2.merge rel) dd')
end
noncomputable def a52 (td ty:TE):TE:=fun σ H Q=>td σ H fun x H1 => ∃ a,x = .ref a /\ IsD H1 a /\ ty σ H1 fun y H2 => ∃ b kvs more,y = .ref b /\ H2 a = some (.dK kvs) /\ H2 b = some (.dK more) /\ a ≠ b /\ kvs.length + more.length <= sizeLine /\ Q .non (upd H2 a (.dK (cr kvs more)))
section
variable {X:Cx} {o e f:Expr} {apos cpos:Pos} {td ty tx:TE}
theorem a5q (ho:PE X o td) (he:PE X e ty) (m:M1 X o "update" apos e cpos):PE X (.Call (.Attribute o "update" apos) [e] [] cpos) (a52 td ty):=by
 intro pins s σ H Q I h
 refine wpAny_Call_method m.base m.few m.line PySem.F.plainAttrs_dict PySem.F.slot_dict_update PySem.F.type_dict_update (thn (ho pins s σ H _ I h) fun u s1 zq=>?_)
 obtain ⟨x,H1,I1,rx,a,ex,d,q1⟩:=zq
 subst ex
 obtain rfl:u = Value.ref a:=rx
 obtain ⟨t1,t2,_⟩:=nw I1 d
 refine ⟨t1,t2,?_⟩
 rw [m.trees]
 refine Calls.callWith_builtin rfl (Calls.evalArgs_plain (Calls.spliced_cons (thn (he pins s1 σ H1 _ I1 q1) fun iv s2 ⟨y,H2,I2,ry,b,kvs,more,ey,ea,eb,hne,hl,q2⟩=>Calls.spliced_nil ?_)))
 subst ey
 obtain rfl:iv = Value.ref b:=ry
 exact a42 I2 ea eb hne hl fun s3 I3=>⟨.non,_,I3,rfl,q2⟩
theorem a6r (ho:QE X o td) (he:QE X e ty) (m:autoParam (M1 X o "update" apos e cpos) L2.a7_):QE X (.Call (.Attribute o "update" apos) [e] [] cpos) (a52 td ty):=⟨a5q ho.run he.run m⟩
theorem a4e {pos:Pos} {k v k' v' k2 v2:Expr} {tk tv tk' tv' tk2 tv2:TE} (hk:QE X k tk) (hv:QE X v tv) (hk':QE X k' tk') (hv':QE X v' tv') (hk2:QE X k2 tk2) (hv2:QE X v2 tv2):QE X (.Dict [some k,some k',some k2] [v,v',v2] pos) (qy [(tk,tv),(tk',tv'),(tk2,tv2)]):=⟨pb (gs hk.run hv.run (gs hk'.run hv'.run (gs hk2.run hv2.run oa))) rfl rfl (by simp) (by simp)⟩
end
end L2
namespace K23
open PySem PySem.Spec L2 Mir Kn
noncomputable abbrev jy:Stmt:=top 9
noncomputable abbrev lq:Stmt:=top 10
noncomputable abbrev md:Stmt:=top 11
noncomputable abbrev ma:Stmt:=top 12
noncomputable def ival (o:Option V):Int:=match o with | some (.int n)=>n | _=>0
noncomputable def Dom (zs:List Str) (x:Str):Prop:=x = "nil" \/ x ∈ zs
structure NumOk (h:Str -> Str) (zs:List Str) (kv:List (Key × V)):Prop where
 at_:∀ x,Dom zs x -> valV kv (Sum.inr x) = some (.int (ival (valV kv (Sum.inr x))))
 no:∀ k,(valV kv k).isSome = true -> ∃ x,k = Sum.inr x /\ Dom zs x
 nil:valV kv (Sum.inr "nil") = some (.int 0)
 inj:∀ x y,Dom zs x -> Dom zs y -> (valV kv (Sum.inr x) = valV kv (Sum.inr y) ↔ h x = h y)
 lt:∀ x,Dom zs x -> 0 <= ival (valV kv (Sum.inr x)) /\ ival (valV kv (Sum.inr x)) <= zs.length
 len:kv.length <= zs.length + 1
structure NumI (h:Str -> Str) (zs:List Str) (n:Nat) (kv kn:List (Key × V)):Prop where
 s:∀ x,Dom zs x -> valV kv (Sum.inr x) = valV kn (Sum.inr (h x)) /\ (valV kn (Sum.inr (h x))).isSome = true
 z:valV kn (Sum.inr (h "nil")) = some (.int 0)
 n1:∀ k v,valV kn k = some v -> ∃ m:Nat,v = .int (m:Int) /\ m < kn.length
 n2:∀ k k' v,valV kn k = some v -> valV kn k' = some v -> k = k'
 d:∀ k,(valV kv k).isSome = true -> ∃ x,k = Sum.inr x /\ Dom zs x
 ln:kn.length <= n + 1
 lv:kv.length <= n + 1
theorem gq {kn:List (Key × V)} {k:Key} {v:V} (h:valV kn k = none):putK kn k v = kn ++ [(k,v)]:=by
 unfold putK
 rw [ef,h]
 rfl
theorem NumI.ok {h:Str -> Str} {zs:List Str} {kv kn:List (Key × V)} (I:NumI h zs zs.length kv kn):NumOk h zs kv:=by
 have at0:∀ x,Dom zs x -> ∃ m:Nat,valV kv (Sum.inr x) = some (.int (m:Int)) /\ m <= zs.length:=fun x hx=>by
   obtain ⟨h1,h2⟩:=I.s x hx
   obtain ⟨v,hv⟩:=Option.isSome_iff_exists.mp h2
   obtain ⟨m,rfl,hm⟩:=I.n1 _ _ hv
   exact ⟨m,h1.trans hv,by have:=I.ln; lia⟩
 refine ⟨fun x hx=>?_,I.d,?_,fun x y hx hy=>?_,fun x hx=>?_,I.lv⟩
 . obtain ⟨m,hm,_⟩:=at0 x hx
   rw [hm]; rfl
 . rw [(I.s "nil" (.inl rfl)).1]; exact I.z
 . obtain ⟨h1,h2⟩:=I.s x hx
   obtain ⟨h3,h4⟩:=I.s y hy
   rw [h1,h3]
   constructor
   . intro e
     obtain ⟨v,hv⟩:=Option.isSome_iff_exists.mp h2
     exact Sum.inr.inj (I.n2 _ _ v hv (e ▸ hv))
   . intro e; rw [e]
 . obtain ⟨m,hm,hl⟩:=at0 x hx
   rw [hm]
   exact ⟨Int.natCast_nonneg m,Int.ofNat_le.mpr hl⟩
theorem NumI.step {h:Str -> Str} {zs:List Str} {n:Nat} {kv kn:List (Key × V)} (I:NumI h zs n kv kn) (x:Str) (v:V) (hv:valV kn (Sum.inr (h x)) = some v):NumI h (zs ++ [x]) (n + 1) (putK kv (Sum.inr x) v) kn:=by
 refine ⟨fun y hy=>?_,I.z,I.n1,I.n2,fun k hk=>?_,by have:=I.ln; lia,by have:=ck kv (Sum.inr x) v; have:=I.lv; lia⟩
 . rw [cx]
   by_cases e:y = x
   . subst e
     rw [if_pos rfl,hv]
     exact ⟨rfl,rfl⟩
   . rw [if_neg (fun z=>e (Sum.inr.inj z))]
     refine I.s y ?_
     rcases hy with z | z
     . exact .inl z
     . rcases List.mem_append.mp z with w | w
       . exact .inr w
       . exact absurd (List.mem_singleton.mp w) e
 . rw [cx] at hk
   by_cases e:k = Sum.inr x
   . exact ⟨x,e,.inr (List.mem_append.mpr (.inr (List.mem_singleton.mpr rfl)))⟩
   . rw [if_neg e] at hk
     obtain ⟨y,h1,h2⟩:=I.d k hk
     exact ⟨y,h1,h2.imp id fun z=>List.mem_append.mpr (.inl z)⟩
theorem NumI.more {h:Str -> Str} {zs:List Str} {n:Nat} {kv kn:List (Key × V)} (I:NumI h zs n kv kn) (x:Str) (hv:valV kn (Sum.inr (h x)) = none):NumI h zs (n + 1) kv (putK kn (Sum.inr (h x)) (.int (kn.length:Int))):=by
 have hl:(putK kn (Sum.inr (h x)) (.int (kn.length:Int))).length = kn.length + 1:=by rw [gq hv,List.length_append]; rfl
 have old:∀ {k:Key} {v:V},valV kn k = some v -> valV (putK kn (Sum.inr (h x)) (.int (kn.length:Int))) k = some v:=fun {k v} hk=>by
   rw [cx,if_neg (fun z=>by rw [z,hv] at hk; cases hk)]
   exact hk
 refine ⟨fun y hy=>?_,old I.z,fun k v hk=>?_,fun k k' v hk hk'=>?_,I.d,by have:=I.ln; omega,by have:=I.lv; omega⟩
 . obtain ⟨h1,h2⟩:=I.s y hy
   obtain ⟨v,hv'⟩:=Option.isSome_iff_exists.mp h2
   rw [old hv',h1]
   exact ⟨hv',rfl⟩
 . rw [cx] at hk
   by_cases e:k = Sum.inr (h x)
   . rw [if_pos e] at hk
     cases hk
     exact ⟨kn.length,rfl,by omega⟩
   . rw [if_neg e] at hk
     obtain ⟨m,h1,h2⟩:=I.n1 k v hk
     exact ⟨m,h1,by omega⟩
 . rw [cx] at hk hk'
   have no:∀ k'',valV kn k'' ≠ some (.int (kn.length:Int)):=fun k'' z=>by
     obtain ⟨m,h1,h2⟩:=I.n1 _ _ z
     have:=V.int.inj h1
     omega
   by_cases e:k = Sum.inr (h x)
   . rw [if_pos e] at hk
     cases hk
     by_cases e':k' = Sum.inr (h x)
     . rw [e,e']
     . rw [if_neg e'] at hk'
       exact absurd hk' (no k')
   . rw [if_neg e] at hk
     by_cases e':k' = Sum.inr (h x)
     . rw [if_pos e'] at hk'
       cases hk'
       exact absurd hk (no k)
     . rw [if_neg e'] at hk'
       exact I.n2 k k' v hk hk'
inductive spNumberedS (C:Addr) (vs:List V) (H:Hp) (Q:VK):Prop
 | mk (p nl pl hd un fu:Addr) (hm:List (Str × Str)) (uk:List (List Key × V)) (zs:List Str) (h:Str -> Str) (h0:vs = [.ref p,.ref nl]) (h1:KnAt C H p pl hd un fu hm uk) (h2:HeadsOk hm h) (h3:H nl = some (.lst (zs.map V.str))) (h4:zs.length <= 200) (h5:∀ d kv H',H d = none -> Same H H' -> H' d = some (.dK kv) -> NumOk h zs kv -> Q (.ref d) H'):spNumberedS C vs H Q
noncomputable def o8 (C:Addr):Sp:=fun vs H Q _=>spNumberedS C vs H Q
section
variable {P:Program} {w:World} {K:PySem.W.Frag} {mg:Str -> Option Value} {base:Heap} {f C fI gH:Addr} {fd dH:FuncData}
theorem scNumbered:FnScope ["knowledge", "names", "numbers", "values", "name"] ["knowledge", "names"] (ao jy):=⟨rfl,rfl,rfl,by decide +kernel,rfl,by decide +kernel,by decide +kernel⟩
theorem v8 (Cn:Con K mg w) (T:Txt K mg C fI) (F:Fun K "numbered" "numbered" jy f fd) (GH:FnOk P w K mg base CX0 1 gH dH ["self", "word"] (jv C)) (cH:MCal K C "head" gH dH ["self", "word"]):FnOk P w K mg base CX0 2 f fd ["knowledge", "names"] (o8 C):=by
 refine F.okQ scNumbered (fun vs H Q E h=>?_) (fun cdv A outer s0 H vs Q E hr h=>?_)
 . obtain ⟨p,nl,pl,hd,un,fu,hm,uk,zs,h,rfl,_⟩:=h; rfl
 obtain ⟨p,nl,pl,hd,un,fu,hm,uk,zs,h,rfl,hK,hok,hN,hz,q⟩:=h
 have nd:=scNumbered.nd
 have hu1:=df hr
 refine ⟨_,ac (ak (i:=2) nd rfl (Or.inl rfl) (ls (c7 (qv 0) T.cl cH.meth GH hr cH.bind .nil av (bd ab)) ad))
   (ac (ak (i:=3) nd rfl (Or.inl rfl) (ls bt ad))
   (ac (bg PassesOwn.never rfl (b8 (K:=K) rfl (qv 1)) (au (i:=4) nd rfl (Or.inl rfl)) (ah (fc hu1 (qv 3) (qv 4) (o9 (qv 2) (c7 (qv 0) T.cl cH.meth GH hr cH.bind .nil av (af (qv 4) ab)) (b0 lnDk rfl Cn.len PySem.boot_len (af (qv 2) ab))))))
   (ah (aw (qv 3))))),?_⟩
 obtain ⟨⟨dx,fs,h1,h2⟩,h3,h4⟩:=id hK
 intro dn hdn
 have s1:=ae hdn (.dK [])
 refine ⟨_,rfl,p,dx,fs,rfl,s1 _ _ h1,h2.meth "head" (by decide +kernel),p,pl,hd,un,fu,hm,uk, "nil",rfl,hK.same s1,?_⟩
 refine ⟨aa,[(Sum.inr (hdS hm "nil"),.int 0)],rfl,(show 1 <= 15 by decide),?_⟩
 have s2:Same H (upd (upd H dn (.dK [])) dn (.dK (cr [] [(Sum.inr (hdS hm "nil"),.int 0)]))):=bi hdn s1 _
 have hn2:(upd (upd H dn (.dK [])) dn (.dK (cr [] [(Sum.inr (hdS hm "nil"),.int 0)]))) dn = some (.dK [(Sum.inr (h "nil"),.int 0)]):=by
   rw [aa,hok.hd "nil"]; rfl
 generalize upd (upd H dn (.dK [])) dn (.dK (cr [] [(Sum.inr (hdS hm "nil"),.int 0)])) = H2 at s2 hn2 |-
 intro dv hdv
 have hne:dn ≠ dv:=az hn2 hdv
 have hdv0:H dv = none:=s2.free hdv
 refine ⟨aa,[(Sum.inr "nil",.int 0)],rfl,(show 1 <= 15 by decide),?_⟩
 have s3:Same H (upd (upd H2 dv (.dK [])) dv (.dK (cr [] [(Sum.inr "nil",.int 0)]))):=bi hdv0 (bi hdv0 s2 _) _
 have hv3:(upd (upd H2 dv (.dK [])) dv (.dK (cr [] [(Sum.inr "nil",.int 0)]))) dv = some (.dK [(Sum.inr "nil",.int 0)]):=by rw [aa]; rfl
 have hn3:(upd (upd H2 dv (.dK [])) dv (.dK (cr [] [(Sum.inr "nil",.int 0)]))) dn = some (.dK [(Sum.inr (h "nil"),.int 0)]):=by rw [ag hne,ag hne]; exact hn2
 generalize upd (upd H2 dv (.dK [])) dv (.dK (cr [] [(Sum.inr "nil",.int 0)])) = H3 at s3 hv3 hn3 |-
 have I0:NumI h [] 0 [(Sum.inr "nil",.int 0)] [(Sum.inr (h "nil"),.int 0)]:=by
   have one:∀ {k j:Key} {v:V},valV [(k,V.int 0)] j = some v -> j = k /\ v = .int 0:=fun {k j v} e=>by
     by_cases c:k = j
     . rw [bz (p:=(k,V.int 0)) c] at e
       exact ⟨c.symm,(Option.some.inj e).symm⟩
     . rw [c5 (p:=(k,V.int 0)) c] at e
       cases e
   have self:∀ k:Key,valV [(k,V.int 0)] k = some (.int 0):=fun k=>bz (p:=(k,V.int 0)) rfl
   refine ⟨fun x hx=>?_,self _,fun k v e=>?_,fun k k' v e e'=>(one e).1.trans (one e').1.symm,fun k hk=>?_,Nat.le_refl _,Nat.le_refl _⟩
   . rcases hx with rfl | z
     . rw [self,self]; exact ⟨rfl,rfl⟩
     . cases z
   . exact ⟨0,(one e).2,Nat.zero_lt_one⟩
   . obtain ⟨v,hv⟩:=Option.isSome_iff_exists.mp hk
     exact ⟨"nil",(one hv).1,.inl rfl⟩
 refine ⟨_,rfl,nl,rfl,⟨_,SqL.of (s3 _ _ hN)⟩,?_⟩
 refine bj (xs:=zs.map V.str) (fun i σ H4=>Same H H4 /\ Ex3 fun kv kn z4=>And4 (H4 dn = some (.dK kn)) (H4 dv = some (.dK kv)) (NumI h (zs.take i) i kv kn) (σ = [some (.ref p),some (.ref nl),some (.ref dn),some (.ref dv),z4]))
   ⟨s3,_,_,none,hn3,hv3,I0,rfl⟩ (fun i σ H4 _ pv=>SqL.of (pv.1 _ _ hN)) ?_ ?_
 . rintro i x σ H4 hx ⟨e4,kv,kn,z4,hn4,hv4,I,rfl⟩
   have hil:i < zs.length:=by have:=(List.getElem?_eq_some_iff.mp hx).1; rw [List.length_map] at this; exact this
   obtain rfl:x = .str zs[i]:=by
     rw [List.getElem?_map,List.getElem?_eq_getElem hil] at hx
     exact (Option.some.inj hx).symm
   have et:zs.take (i + 1) = zs.take i ++ [zs[i]]:=by rw [List.take_add_one,List.getElem?_eq_getElem hil]; rfl
   have hkl:kn.length <= 1000:=by have:=I.ln; lia
   have hvl:kv.length <= 1000:=by have:=I.lv; lia
   have hK4:=hK.same e4
   refine ⟨_,rfl,dn,rfl,.inl ⟨_,.inl hn4⟩,_,rfl,p,dx,fs,rfl,e4 _ _ h1,h2.meth "head" (by decide +kernel),_,rfl,p,pl,hd,un,fu,hm,uk,zs[i],rfl,hK4,?_⟩
   rw [hok.hd]
   refine ⟨_,rfl,dn,kn,rfl,hn4,kn,Sum.inr (h zs[i]),hn4,rfl,bm hkl,fun v hv=>?_,fun hv=>?_⟩
   . refine ⟨_,rfl,_,rfl,dv,_,rfl,DPut.k (k:=Sum.inr zs[i]) hv4 (bm hvl),bi hdv0 e4 _,_,kn,_,by rw [ag hne]; exact hn4,aa,?_,rfl⟩
     rw [et]
     exact I.step zs[i] v hv
   . have hdn0:H dn = none:=hdn
     have hv5:(upd H4 dn (.dK (putK kn (Sum.inr (h zs[i])) (.int (kn.length:Int))))) dv = some (.dK kv):=by rw [ag (Ne.symm hne)]; exact hv4
     refine ⟨_,rfl,_,rfl,dv,_,rfl,DPut.k (k:=Sum.inr zs[i]) hv5 (bm hvl),bi hdv0 (bi hdn0 e4 _) _,_,_,_,by rw [ag hne,aa],aa,?_,rfl⟩
     rw [et]
     have J:=I.more zs[i] hv
     have J2:=J.step zs[i] (.int (kn.length:Int)) (by rw [cx,if_pos rfl])
     exact ⟨J2.s,J2.z,J2.n1,J2.n2,J2.d,by have:=I.ln; rw [gq hv,List.length_append,List.length_singleton]; lia,by have:=I.lv; have:=ck kv (Sum.inr zs[i]) (.int (kn.length:Int)); lia⟩
 . rintro σ H4 ⟨e4,kv,kn,z4,hn4,hv4,I,rfl⟩
   rw [List.length_map,List.take_length] at I
   exact ⟨_,rfl,q dv kv H4 hdv0 e4 hv4 I.ok⟩
end
noncomputable def hv (hp:List (Int × Addr)):List (Key × V):=hp.map fun p=>(Sum.inl p.1,V.ref p.2)
abbrev di:=List (Int × Int × Int)
noncomputable def CellsAt (K:PySem.W.Frag) (H:Hp) (hp:List (Int × Addr)) (cs:di):Prop:=Paired (fun p c=>p.1 = c.1 /\ SqT K H p.2 [.int c.2.1,.int c.2.2]) hp cs
theorem CellsAt.same {K:PySem.W.Frag} {H H':Hp} {hp:List (Int × Addr)} {cs:di} (h:CellsAt K H hp cs) (e:Same H H'):CellsAt K H' hp cs:=Paired.mapP h fun _ _ z=>⟨z.1,e.seqT z.2⟩
noncomputable def vI (kv:List (Key × V)) (x:Str):Int:=ival (valV kv (Sum.inr x))
noncomputable def gI (kv:List (Key × V)) (bs:Int) (x:Str):Int:=if (valV kv (Sum.inr x)).isSome = true then vI kv x else bs
noncomputable def IntsAt (kv:List (Key × V)):Prop := ∀ x,valV kv (Sum.inr x) = none \/ valV kv (Sum.inr x) = some (.int (vI kv x))
theorem IntsAt.get {kv:List (Key × V)} (h:IntsAt kv) (bs:Int) (x:Str):(valV kv (Sum.inr x)).getD (.int bs) = .int (gI kv bs x):=by
 unfold gI
 rcases h x with z | z
 . rw [z]; rfl
 . rw [z]; rfl
theorem IntsAt.at_ {kv:List (Key × V)} (h:IntsAt kv) {x:Str} (hx:(valV kv (Sum.inr x)).isSome = true):valV kv (Sum.inr x) = some (.int (vI kv x)):=by
 rcases h x with z | z
 . rw [z] at hx; cases hx
 . exact z
noncomputable def c6 (kv:List (Key × V)) (bs s0 s1:Int) (r:List Str):di :=
 if r.getD 0 "" = "cell" then [(vI kv (place r),gI kv bs (r.getD 2 ""),gI kv bs (r.getD 3 ""))]
 else if r.getD 0 "" = "stretch" then [(vI kv (place r),bs,s0),(s0,bs,vI kv (r.getD 2 ""))]
 else [(vI kv (place r),s0,s1),(s0,0,0),(s1,0,0)]
theorem i7:∀ (more kvs:List (Key × V)),((kvs ++ more).map (·.1)).Nodup -> cr kvs more = kvs ++ more
 | [],kvs,_=>(List.append_nil _).symm
 | p :: r,kvs,h=>by
   have hn:valV kvs p.1 = none:=by
     cases hz:valV kvs p.1 with
     | none=>rfl
     | some v =>
       have hm:=p4 hz
       rw [List.map_append,List.nodup_append] at h
       exact absurd rfl (h.2.2 _ hm _ (List.mem_map.mpr ⟨p,List.mem_cons_self ..,rfl⟩))
   show cr (putK kvs p.1 p.2) r = _
   rw [gq hn,i7 r (kvs ++ [(p.1,p.2)]) (by rw [List.append_assoc]; exact h),List.append_assoc]
   rfl
inductive spCellsOfS (K:PySem.W.Frag) (vs:List V) (H:Hp) (Q:VK):Prop
 | mk (b d sl:Addr) (bs s0 s1:Int) (r:List Str) (kv:List (Key × V)) (h0:vs = [.ref b,.ref d,.ref sl,.int bs]) (h1:RowAt K H b r) (h2:PartRow r) (h3:H d = some (.dK kv)) (h4:IntsAt kv) (h5:H sl = some (.lst [.int s0,.int s1])) (h6:(valV kv (Sum.inr (place r))).isSome = true) (h7:(r.getD 0 "" = "stretch" -> (valV kv (Sum.inr (r.getD 2 ""))).isSome = true)) (h8:vI kv (place r) ≠ s0) (h9:vI kv (place r) ≠ s1) (h10:s0 ≠ s1) (h11:∀ D hp H',H D = none -> Same H H' -> H' D = some (.dK (hv hp)) -> CellsAt K H' hp (c6 kv bs s0 s1 r) -> Q (.ref D) H'):spCellsOfS K vs H Q
noncomputable def qj (K:PySem.W.Frag):Sp:=fun vs H Q _=>spCellsOfS K vs H Q
section
variable {P:Program} {w:World} {K:PySem.W.Frag} {mg:Str -> Option Value} {base:Heap} {f:Addr} {fd:FuncData}
theorem scCellsOf:FnScope ["part", "values", "spares", "beside", "place"] ["part", "values", "spares", "beside"] (ao lq):=⟨rfl,rfl,rfl,by decide +kernel,rfl,by decide +kernel,by decide +kernel⟩
theorem yl (F:Fun K "cells_of" "cells_of" lq f fd):FnOk P w K mg base CX0 1 f fd ["part", "values", "spares", "beside"] (qj K):=by
 refine F.okQ scCellsOf (fun vs H Q E h=>?_) (fun cdv A outer s0 H vs Q E hr h=>?_)
 . obtain ⟨b,d,sl,bs,s0,s1,r,kv,rfl,_⟩:=h; rfl
 obtain ⟨b,d,sl,bs,s0,s1,r,kv,rfl,hR,hp,hD,hI,hS,hpl,hen,n0,n1,n2,q⟩:=h
 have nd:=scCellsOf.nd
 have hu1:=df hr
 refine ⟨_,ac (ak (i:=4) nd rfl (Or.inl rfl) (cg hu1 (qv 1) (ai (ixTk (K:=K) rfl) (qv 0) ad (fun _ _=>rfl)) (fun _ _=>rfl)))
   (ac (bf (ar bw (ai (ixTk (K:=K) rfl) (qv 0) ad (fun _ _=>rfl)) bt (aq _)) (ah (aw (ls (qv 4) (br (bv (lu hu1 (qv 1) (ai (ixTk (K:=K) rfl) (qv 0) ad (fun _ _=>rfl)) (qv 3)) (bv (lu hu1 (qv 1) (ai (ixTk (K:=K) rfl) (qv 0) ad (fun _ _=>rfl)) (qv 3)) ab)))))) bc)
   (ac (bf (ar bw (ai (ixTk (K:=K) rfl) (qv 0) ad (fun _ _=>rfl)) bt (aq _)) (ah (aw (a2p (qv 4) (br (af (qv 3) (ay (ai (ixKk (K:=K) rfl) (qv 2) ad (fun _ _=>rfl)) ab))) (ai (ixKk (K:=K) rfl) (qv 2) ad (fun _ _=>rfl)) (br (af (qv 3) (ay (cg hu1 (qv 1) (ai (ixTk (K:=K) rfl) (qv 0) ad (fun _ _=>rfl)) (fun _ _=>rfl)) ab)))))) bc)
   (ah (aw (a4e (qv 4) (br (ay (ai (ixKk (K:=K) rfl) (qv 2) ad (fun _ _=>rfl)) (ay (ai (ixKk (K:=K) rfl) (qv 2) ad (fun _ _=>rfl)) ab))) (ai (ixKk (K:=K) rfl) (qv 2) ad (fun _ _=>rfl)) (br (gg (gg ab))) (ai (ixKk (K:=K) rfl) (qv 2) ad (fun _ _=>rfl)) (br (gg (gg ab)))))))),?_⟩
 refine ⟨_,rfl,_,rfl,b,_,1,_,rfl,rfl,hR,hp.at1,?_⟩
 refine ⟨d,_,rfl,(hI.at_ hpl) ▸ DGet.k (k:=Sum.inr (place r)) hD,?_⟩
 refine ⟨_,rfl,b,_,0,_,rfl,rfl,hR,hp.at0,rfl,_,rfl,iteB (fun c=>?_) (fun c=>?_)⟩
 . have c':r.getD 0 "" = "cell" := by simpa using c
   obtain ⟨x,y,z,rfl⟩:∃ x y z,r = [("cell" : Str),x,y,z]:=by
     rcases hp with z | ⟨x,y,rfl⟩ | ⟨a,rfl⟩
     . exact z
     . exact absurd c' (by show ¬ ("stretch" : Str) = "cell"; decide +kernel)
     . exact absurd c' (by show ¬ ("tree" : Str) = "cell"; decide +kernel)
   intro D hDn
   have e1:=ae hDn (.dK [])
   refine ⟨_,rfl,_,rfl,d,rfl,.inl ⟨_,.inl (e1 _ _ hD)⟩,_,rfl,b,_,2,.str y,rfl,rfl,e1.seqT hR,rfl,_,rfl,_,DGet.k (k:=Sum.inr y) (e1 _ _ hD),?_⟩
   refine ⟨_,rfl,d,rfl,.inl ⟨_,.inl (e1 _ _ hD)⟩,_,rfl,b,_,3,.str z,rfl,rfl,e1.seqT hR,rfl,_,rfl,_,DGet.k (k:=Sum.inr z) (e1 _ _ hD),?_⟩
   rw [hI.get,hI.get]
   refine ⟨(show 2 <= sizeLine by decide),fun t ht=>?_⟩
   have e2:=ae ht (.tup [.int (gI kv bs y),.int (gI kv bs z)])
   refine ⟨e2 _ _ aa,[(Sum.inl (vI kv (place [("cell" : Str),x,y,z])),.ref t)],rfl,(show 1 <= 15 by decide),?_⟩
   refine q D [(vI kv (place [("cell" : Str),x,y,z]),t)] _ hDn (bi hDn (e1.trans e2) _) (by rw [aa]; rfl) ?_
   have hcf:c6 kv bs s0 s1 [("cell" : Str),x,y,z] = [(vI kv (place [("cell" : Str),x,y,z]),gI kv bs y,gI kv bs z)]:=if_pos rfl
   rw [hcf]
   have htD:t ≠ D:=fun w=>by rw [w,aa] at ht; cases ht
   exact .cons ⟨rfl,SqT.of (by rw [ag htD]; exact aa)⟩ .nil
 have c':¬ r.getD 0 "" = "cell" := by simpa using c
 refine ⟨_,rfl,b,_,0,_,rfl,rfl,hR,hp.at0,rfl,_,rfl,iteB (fun c2=>?_) (fun c2=>?_)⟩
 . have c2':r.getD 0 "" = "stretch" := by simpa using c2
   obtain ⟨x,y,rfl⟩:∃ x y,r = [("stretch" : Str),x,y]:=by
     rcases hp with ⟨a,f,s,rfl⟩ | z | ⟨a,rfl⟩
     . exact absurd rfl c'
     . exact z
     . exact absurd c2' (by show ¬ ("tree" : Str) = "stretch"; decide +kernel)
   intro D hDn
   have e1:=ae hDn (.dK [])
   refine ⟨_,rfl,_,rfl,_,rfl,sl,_,0,.int s0,rfl,rfl,SqL.of (e1 _ _ hS),rfl,(show 2 <= sizeLine by decide),fun t1 ht1=>?_⟩
   have e2:=ae ht1 (.tup [.int bs,.int s0])
   have e12:=e1.trans e2
   refine ⟨_,rfl,sl,_,0,.int s0,rfl,rfl,SqL.of (e12 _ _ hS),rfl,_,rfl,_,rfl,_,rfl,b,_,2,.str y,rfl,rfl,e12.seqT hR,rfl,d,_,rfl,(hI.at_ (hen rfl)) ▸ DGet.k (k:=Sum.inr y) (e12 _ _ hD),(show 2 <= sizeLine by decide),fun t2 ht2=>?_⟩
   have e3:=ae ht2 (.tup [.int bs,.int (vI kv y)])
   have e13:=e12.trans e3
   have hDD:H D = none:=hDn
   have t1D:t1 ≠ D:=fun z=>by rw [z,aa] at ht1; cases ht1
   have t2D:t2 ≠ D:=fun z=>by rw [z,e2 _ _ aa] at ht2; cases ht2
   refine ⟨e3 _ _ (e2 _ _ aa),[(Sum.inl (vI kv x),.ref t1),(Sum.inl s0,.ref t2)],rfl,(show 2 <= 15 by decide),?_⟩
   refine q D [(vI kv x,t1),(s0,t2)] _ hDn (bi hDn e13 _) ?_ ?_
   . rw [aa,i7]
     . rfl
     . refine List.nodup_cons.mpr ⟨fun z=>?_,List.nodup_cons.mpr ⟨(by simp),.nil⟩⟩
       have z':(Sum.inl (vI kv x):Key) ∈ [(Sum.inl s0:Key)]:=z
       exact n0 (Sum.inl.inj (List.mem_singleton.mp z'))
   . have hcf:c6 kv bs s0 s1 [("stretch" : Str),x,y] = [(vI kv x,bs,s0),(s0,bs,vI kv y)]:=by
       unfold c6
       rw [if_neg c',if_pos c2']
       rfl
     rw [hcf]
     exact .cons ⟨rfl,SqT.of (by rw [ag t1D]; exact e3 _ _ aa)⟩ (.cons ⟨rfl,SqT.of (by rw [ag t2D]; exact aa)⟩ .nil)
 . have c2':¬ r.getD 0 "" = "stretch" := by simpa using c2
   intro D hDn
   have e1:=ae hDn (.dK [])
   refine ⟨_,rfl,_,rfl,sl,_,0,.int s0,rfl,rfl,SqL.of (e1 _ _ hS),rfl,_,rfl,sl,_,1,.int s1,rfl,rfl,SqL.of (e1 _ _ hS),rfl,(show 2 <= sizeLine by decide),fun t1 ht1=>?_⟩
   have e2:=ae ht1 (.tup [.int s0,.int s1])
   have e12:=e1.trans e2
   refine ⟨_,rfl,sl,_,0,.int s0,rfl,rfl,SqL.of (e12 _ _ hS),rfl,(show 2 <= sizeLine by decide),fun t2 ht2=>?_⟩
   have e3:=ae ht2 (.tup [.int 0,.int 0])
   have e13:=e12.trans e3
   refine ⟨_,rfl,sl,_,1,.int s1,rfl,rfl,SqL.of (e13 _ _ hS),rfl,(show 2 <= sizeLine by decide),fun t3 ht3=>?_⟩
   have e4:=ae ht3 (.tup [.int 0,.int 0])
   have e14:=e13.trans e4
   have t1D:t1 ≠ D:=fun z=>by rw [z,aa] at ht1; cases ht1
   have t2D:t2 ≠ D:=fun z=>by rw [z,e2 _ _ aa] at ht2; cases ht2
   have t3D:t3 ≠ D:=fun z=>by rw [z,e3 _ _ (e2 _ _ aa)] at ht3; cases ht3
   refine ⟨e4 _ _ (e3 _ _ (e2 _ _ aa)),[(Sum.inl (vI kv (place r)),.ref t1),(Sum.inl s0,.ref t2),(Sum.inl s1,.ref t3)],rfl,(show 3 <= 15 by decide),?_⟩
   refine q D [(vI kv (place r),t1),(s0,t2),(s1,t3)] _ hDn (bi hDn e14 _) ?_ ?_
   . rw [aa,i7]
     . rfl
     . refine List.nodup_cons.mpr ⟨fun z=>?_,List.nodup_cons.mpr ⟨fun z=>?_,List.nodup_cons.mpr ⟨(by simp),.nil⟩⟩⟩
       . have z':(Sum.inl (vI kv (place r)):Key) ∈ [(Sum.inl s0:Key),Sum.inl s1]:=z
         rcases List.mem_cons.mp z' with y | y
         . exact n0 (Sum.inl.inj y)
         . exact n1 (Sum.inl.inj (List.mem_singleton.mp y))
       . have z':(Sum.inl s0:Key) ∈ [(Sum.inl s1:Key)]:=z
         exact n2 (Sum.inl.inj (List.mem_singleton.mp z'))
   . have hcf:c6 kv bs s0 s1 r = [(vI kv (place r),s0,s1),(s0,0,0),(s1,0,0)]:=by
       unfold c6
       rw [if_neg c',if_neg c2']
     rw [hcf]
     exact .cons ⟨rfl,SqT.of (by rw [ag t1D]; exact e4 _ _ (e3 _ _ aa))⟩ (.cons ⟨rfl,SqT.of (by rw [ag t2D]; exact e4 _ _ aa)⟩ (.cons ⟨rfl,SqT.of (by rw [ag t3D]; exact aa)⟩ .nil))
end
noncomputable def er (kv:List (Key × V)) (bs:Int) (P:List (List Str)) (j:Nat):di:=c6 kv bs (bs + 2 * (j:Int) + 1) (bs + 2 * (j:Int) + 2) (P.getD j [])
noncomputable def c8 (kv:List (Key × V)) (bs:Int) (P:List (List Str)) (ns:List Nat):di:=(ns.map (er kv bs P)).flatten
theorem xx (kv:List (Key × V)) (bs:Int) (P:List (List Str)) (ns:List Nat) (j:Nat):c8 kv bs P (ns ++ [j]) = c8 kv bs P ns ++ er kv bs P j:=by
 unfold c8
 rw [List.map_append,List.flatten_append]
 simp
theorem nk {kv:List (Key × V)} {bs s0 s1:Int} {r:List Str} {a:Int} (h:a ∈ (c6 kv bs s0 s1 r).map (·.1)):a = vI kv (place r) \/ a = s0 \/ a = s1:=by
 unfold c6 at h
 split at h
 . exact .inl (List.mem_singleton.mp h)
 . split at h
   . rcases List.mem_cons.mp h with z | z
     . exact .inl z
     . exact .inr (.inl (List.mem_singleton.mp z))
   . rcases List.mem_cons.mp h with z | z
     . exact .inl z
     . rcases List.mem_cons.mp z with y | y
       . exact .inr (.inl y)
       . exact .inr (.inr (List.mem_singleton.mp y))
theorem u5 {kv:List (Key × V)} {bs s0 s1:Int} {r:List Str} (h0:vI kv (place r) ≠ s0) (h1:vI kv (place r) ≠ s1) (h2:s0 ≠ s1):((c6 kv bs s0 s1 r).map (·.1)).Nodup:=by
 unfold c6
 split
 . simp
 . split
   . simp [h0]
   . simp [h0,h1,h2]
theorem yb (kv:List (Key × V)) (bs s0 s1:Int) (r:List Str):(c6 kv bs s0 s1 r).length <= 3:=by
 unfold c6
 split
 . exact (show 1 <= 3 by decide)
 . split <;> simp
structure Places (kv:List (Key × V)) (bs:Int) (P:List (List Str)) (ns:List Nat):Prop where
 nd:ns.Nodup
 lt:∀ j ∈ ns,vI kv (place (P.getD j [])) < bs
 ne:∀ i ∈ ns,∀ j ∈ ns,i ≠ j -> vI kv (place (P.getD i [])) ≠ vI kv (place (P.getD j []))
theorem gx {kv:List (Key × V)} {bs:Int} {P:List (List Str)}:∀ {ns:List Nat},Places kv bs P ns -> ((c8 kv bs P ns).map (·.1)).Nodup
 | [],_ => .nil
 | j :: ns,h=>by
   have e:c8 kv bs P (j :: ns) = er kv bs P j ++ c8 kv bs P ns:=rfl
   have hj:=List.mem_cons_self (a:=j) (l:=ns)
   obtain ⟨hd,hn⟩:=List.nodup_cons.mp h.nd
   have hl:=h.lt j hj
   rw [e,List.map_append,List.nodup_append]
   refine ⟨u5 (by lia) (by lia) (by lia),gx ⟨hn,fun i hi=>h.lt i (List.mem_cons_of_mem _ hi),fun i hi k hk=>h.ne i (List.mem_cons_of_mem _ hi) k (List.mem_cons_of_mem _ hk)⟩,fun a ha b hb=>?_⟩
   obtain ⟨c,hc,rfl⟩:=List.mem_map.mp hb
   obtain ⟨l,hl',hc'⟩:=List.mem_flatten.mp hc
   obtain ⟨i,hi,rfl⟩:=List.mem_map.mp hl'
   have hij:i ≠ j:=fun z=>hd (z ▸ hi)
   have h1:=nk ha
   have h2:=nk (List.mem_map.mpr ⟨c,hc',rfl⟩)
   have h3:=h.ne j hj i (List.mem_cons_of_mem _ hi) (Ne.symm hij)
   have h4:=h.lt i (List.mem_cons_of_mem _ hi)
   lia
theorem jt (kv:List (Key × V)) (bs:Int) (P:List (List Str)):∀ ns:List Nat,(c8 kv bs P ns).length <= 3 * ns.length
 | []=>Nat.le_refl _
 | j :: ns=>by
   have e:c8 kv bs P (j :: ns) = er kv bs P j ++ c8 kv bs P ns:=rfl
   have h1:=jt kv bs P ns
   have h2:=yb kv bs (bs + 2 * (j:Int) + 1) (bs + 2 * (j:Int) + 2) (P.getD j [])
   rw [e,List.length_append,List.length_cons]
   unfold er
   lia
theorem CellsAt.keys {K:PySem.W.Frag} {H:Hp} {hp:List (Int × Addr)} {cs:di} (h:CellsAt K H hp cs):hp.map (·.1) = cs.map (·.1):=by
 unfold CellsAt at h
 induction h with
 | nil=>rfl
 | cons h t ih=>rw [List.map_cons,List.map_cons,h.1,ih]
theorem a2i {hp hq:List (Int × Addr)} (h:((hp ++ hq).map (·.1)).Nodup):cr (hv hp) (hv hq) = hv (hp ++ hq):=by
 rw [i7]
 . unfold hv
   rw [List.map_append]
 . have e:((hv hp ++ hv hq).map (·.1)) = ((hp ++ hq).map (·.1)).map (Sum.inl:Int -> Key):=by
     unfold hv
     rw [<- List.map_append,List.map_map,List.map_map]
     rfl
   rw [e]
   exact List.pairwise_map.mpr (List.Pairwise.imp (fun hab z=>hab (Sum.inl.inj z)) h)
theorem xi {K:PySem.W.Frag} {H:Hp} {l b:Addr} {kv kv':List (Key × V)} {zs:List V} (hl:H l = some (.dK kv)) (h:SqT K H b zs):SqT K (upd H l (.dK kv')) b zs:=by
 rcases h with (h | ⟨o,h⟩) | h
 . exact .inl (.inl (by rw [ag (fun z=>by rw [z,hl] at h; cases h)]; exact h))
 . exact .inl (.inr ⟨o,by rw [ag (fun z=>by rw [z,hl] at h; cases h)]; exact h⟩)
 . exact .inr h
inductive spStateOfS (K:PySem.W.Frag) (C:Addr) (vs:List V) (H:Hp) (Q:VK):Prop
 | mk (p nl am pl hd un fu D:Addr) (F P:List (List Str)) (L:List (Str × Str)) (ns:List Nat) (zs:List Str) (h0:vs = [.ref p,.ref nl,.ref am]) (h1:KnS K C H p pl hd un fu F P L) (h2:NeAt C H p pl hd un fu D ns) (h3:ns.length <= 15) (h4:H nl = some (.lst (zs.map V.str))) (h5:zs.length <= 200) (h6:H am = some (.dK [])) (h7:(∀ r ∈ P,PartRow r)) (h8:(∀ j ∈ ns,j < P.length)) (h9:ns.Nodup) (h10:(∀ j ∈ ns,Dom zs (place (P.getD j [])) /\ ((P.getD j []).getD 0 "" = "stretch" -> Dom zs ((P.getD j []).getD 2 "")))) (h11:(∀ i ∈ ns,∀ j ∈ ns,i ≠ j -> ap F (place (P.getD i [])) ≠ ap F (place (P.getD j [])))) (h12:∀ t d h kv hp H',Same H H' -> H d = none -> H h = none -> d ≠ h -> H' t = some (.tup [.ref d,.ref h]) -> NumOk (ap F) zs kv -> H' d = some (.dK (dj kv (Sum.inr "nil"))) -> H' h = some (.dK (hv hp)) -> CellsAt K H' hp (c8 kv ((zs.length:Int) + 1) P ns) -> Q (.ref t) H'):spStateOfS K C vs H Q
noncomputable def qk (K:PySem.W.Frag) (C:Addr):Sp:=fun vs H Q _=>spStateOfS K C vs H Q
section
variable {P:Program} {w:World} {K:PySem.W.Frag} {mg:Str -> Option Value} {base:Heap} {f C fI gN gO:Addr} {fd dN dO:FuncData}
theorem scStateOf:FnScope ["knowledge", "names", "amid", "values", "beside", "heap", "number", "spares"] ["knowledge", "names", "amid"] (ao md):=⟨rfl,rfl,rfl,by decide +kernel,rfl,by decide +kernel,by decide +kernel⟩
theorem ze (Cn:Con K mg w) (T:Txt K mg C fI) (F:Fun K "state_of" "state_of" md f fd) (GN:FnOk P w K mg base CX0 2 gN dN ["knowledge", "names"] (o8 C)) (cN:Cal K mg "numbered" gN dN ["knowledge", "names"])
   (GO:FnOk P w K mg base CX0 1 gO dO ["part", "values", "spares", "beside"] (qj K)) (cO:Cal K mg "cells_of" gO dO ["part", "values", "spares", "beside"]):FnOk P w K mg base CX0 3 f fd ["knowledge", "names", "amid"] (qk K C):=by
 refine F.okQ scStateOf (fun vs H Q E h=>?_) (fun cdv A outer s0 H vs Q E hr h=>?_)
 . obtain ⟨p,nl,am,pl,hd,un,fu,D,F,P,L,ns,zs,rfl,_⟩:=h; rfl
 obtain ⟨p,nl,am,pl,hd,un,fu,D,Fs,Ps,L,ns,zs,rfl,hK,hN,hn15,hNl,hz,hA,hpr,hnl,hnd,hdom,hdis,q⟩:=h
 have nd:=scStateOf.nd
 have hu1:=df hr
 have hr1:=hr.mono (j:=1) (by lia)
 refine ⟨_,ac (ak (i:=3) nd rfl (Or.inl rfl) (ax GN hr rfl cN.name cN.keep cN.bind .nil av (af (qv 0) (af (qv 1) ab))))
   (ac (ak (i:=4) nd rfl (Or.inl rfl) (aj ca (b0 (ej (K:=K) rfl) rfl Cn.len PySem.boot_len (af (qv 1) ab)) ad))
   (ac (ak (i:=5) nd rfl (Or.inl rfl) j6)
   (ac (bg PassesOwn.never rfl (b8 (K:=K) rfl (ci (K:=K) rfl (qv 0))) (au (i:=6) nd rfl (Or.inl rfl)) (ac (ak (i:=7) nd rfl (Or.inl rfl) (bp (dt (aj ca (aj ca (qv 4) (aj g6 ad (qv 6))) ad) (dt (aj ca (aj ca (qv 4) (aj g6 ad (qv 6))) ad) ab))))
   (ac (bf (io hu1 (qv 6) (qv 2)) (ah (kb (cg hu1 (qv 3) (cg hu1 (qv 2) (qv 6) (fun _ _=>rfl)) (fun _ _=>rfl)) (a80 (qv 7) ad a37))) bc)
   (ah (bq (a6r (qv 5) (ax GO hr1 rfl cO.name cO.keep cO.bind .nil av (ay (ai (ixKk (K:=K) rfl) (ci (K:=K) rfl (qv 0)) (qv 6) (fun _ _=>rfl)) (af (qv 3) (af (qv 7) (af (qv 4) ab)))))))))))
   (ac (bq (a2f (qv 3) bt))
   (ah (aw (br (af (qv 3) (af (qv 5) ab))))))))),?_⟩
 obtain ⟨⟨hm,uk,hkn,hho,hU⟩,hrows,hne⟩:=id hK
 refine ⟨_,rfl,_,rfl,p,nl,pl,hd,un,fu,hm,uk,zs,ap Fs,rfl,hkn,hho,hNl,hz,fun d kv H1 hd0 e1 hd1 hok=>?_⟩
 have hzl:((zs.map V.str).length:Int) = (zs.length:Int):=by rw [List.length_map]
 refine ⟨_,rfl,nl,_,rfl,.inl (SqL.of (e1 _ _ hNl)),_,_,rfl,rfl,?_⟩
 rw [hzl]
 obtain ⟨bs,hbs⟩:∃ bs:Int,(zs.length:Int) + 1 = bs:=⟨_,rfl⟩
 rw [hbs] at q
 show bh 4 (V.int ((zs.length:Int) + 1)) _ H1 _
 rw [hbs]
 intro h hh
 have hdh:d ≠ h:=az hd1 hh
 have hh0:H h = none:=e1.free hh
 have s2:=ae hh (.dK [])
 have e2:=e1.trans s2
 have hd2:(upd H1 h (.dK [])) d = some (.dK kv):=s2 _ _ hd1
 have hh2:(upd H1 h (.dK [])) h = some (.dK (hv [])):=aa
 generalize upd H1 h (.dK []) = H2 at e2 hd2 hh2 |-
 have hIn:IntsAt kv:=fun x=>by
   cases hz:valV kv (Sum.inr x) with
   | none=>exact .inl rfl
   | some v =>
     obtain ⟨y,h1,h2⟩:=hok.no (Sum.inr x) (by rw [hz]; rfl)
     cases Sum.inr.inj h1
     have:=hok.at_ x h2
     unfold vI
     rw [<- hz]
     exact .inr this
 have hlt:∀ x,Dom zs x -> vI kv x < bs:=fun x hx=>by have:=(hok.lt x hx).2; unfold vI; lia
 have hPl:Places kv bs Ps ns:=⟨hnd,fun j hj=>hlt _ (hdom j hj).1,fun i hi j hj hij z=>hdis i hi j hj hij (by
   have h1:=hok.at_ _ (hdom i hi).1
   have h2:=hok.at_ _ (hdom j hj).1
   refine (hok.inj _ _ (hdom i hi).1 (hdom j hj).1).mp ?_
   rw [h1,h2]
   unfold vI at z
   rw [z])⟩
 obtain ⟨⟨dx,fs,h1,h2,hnf⟩,hD⟩:=id hN
 refine ⟨_,rfl,p,C,dx,fs,.ref D,rfl,e2 _ _ h1,T.cl,T.nE,hnf,D,rfl,⟨_,SqL.of (e2 _ _ hD)⟩,?_⟩
 refine bj (xs:=ns.map natV) (fun i σ H3=>Same H H3 /\ H3 d = some (.dK kv) /\ Ex3 fun hp z6 z7=>And3 (H3 h = some (.dK (hv hp))) (CellsAt K H3 hp (c8 kv bs Ps (ns.take i))) (σ = [some (.ref p),some (.ref nl),some (.ref am),some (.ref d),some (.int bs),some (.ref h),z6,z7]))
   ⟨e2,hd2,[],none,none,hh2,.nil,rfl⟩ (fun i σ H3 _ pv=>SqL.of (pv.1 _ _ hD)) ?_ ?_
 . rintro i x σ H3 hx ⟨e3,hd3,hp,z6,z7,hh3,hC3,rfl⟩
   have hil:i < ns.length:=by have:=(List.getElem?_eq_some_iff.mp hx).1; rw [List.length_map] at this; exact this
   obtain rfl:x = .int ((ns[i]:Nat):Int):=by
     rw [List.getElem?_map,List.getElem?_eq_getElem hil] at hx
     exact (Option.some.inj hx).symm
   have hin:=List.getElem_mem hil
   have hjl:=hnl _ hin
   have hs:Ps[ns[i]]? = some Ps[ns[i]]:=List.getElem?_eq_getElem hjl
   have hg:Ps.getD ns[i] [] = Ps[ns[i]]:=by rw [List.getD_eq_getElem?_getD,hs]; rfl
   have et:ns.take (i + 1) = ns.take i ++ [ns[i]]:=by rw [List.take_add_one,List.getElem?_eq_getElem hil]; rfl
   refine ⟨_,rfl,_,rfl,_,_,rfl,rfl,.inl (by decide),_,_,rfl,rfl,_,_,rfl,rfl,_,rfl,_,rfl,_,_,rfl,rfl,.inl (by decide),_,_,rfl,rfl,_,_,rfl,rfl,(show 2 <= sizeLine by decide),fun sl hsl=>?_⟩
   have s4:=ae hsl (.lst [.int (bs + 2 * ((ns[i]:Nat):Int) + 1),.int (bs + 2 * ((ns[i]:Nat):Int) + 2)])
   have e4:=e3.trans s4
   have hd4:=s4 _ _ hd3
   have hh4:=s4 _ _ hh3
   have hS4:(upd H3 sl (.lst [.int (bs + 2 * ((ns[i]:Nat):Int) + 1),.int (bs + 2 * ((ns[i]:Nat):Int) + 2)])) sl = some (.lst [.int (bs + 2 * ((ns[i]:Nat):Int) + 1),.int (bs + 2 * ((ns[i]:Nat):Int) + 2)]):=aa
   have hC4:=hC3.same s4
   clear hd3 hh3 hC3
   generalize upd H3 sl (.lst [.int (bs + 2 * ((ns[i]:Nat):Int) + 1),.int (bs + 2 * ((ns[i]:Nat):Int) + 2)]) = H4 at e4 hd4 hh4 hS4 hC4 |-
   refine ⟨_,rfl,_,rfl,am,_,rfl,DGet.k (k:=Sum.inl ((ns[i]:Nat):Int)) (e4 _ _ hA),_,rfl,iteN rfl ?_⟩
   obtain ⟨as5,b5,hpl5,hat5,hR5⟩:=em (hrows.same e4) hs
   have hdm:=hdom _ hin
   have hlt':=hPl.lt _ hin
   rw [hg] at hdm hlt'
   have hsm:∀ x,Dom zs x -> (valV kv (Sum.inr x)).isSome = true:=fun x hx=>by rw [hok.at_ x hx]; rfl
   refine ⟨_,rfl,h,rfl,.inl ⟨_,.inl hh4⟩,_,rfl,p,C,dx,fs,.ref pl,rfl,e4 _ _ h1,T.cl,T.nP,h2.parts,_,rfl,pl,_,_,.ref b5,rfl,rfl,SqL.of hpl5,hat5,_,rfl,_,rfl,_,rfl,b5,d,sl,bs,_,_,_,kv,rfl,hR5,hpr _ (List.getElem_mem hjl),hd4,hIn,hS4,hsm _ hdm.1,(fun z=>hsm _ (hdm.2 z)),(by lia),(by lia),(by lia),fun D5 hq H5 hD5 e5 hd5 hC5=>?_⟩
   have hcn:er kv bs Ps ns[i] = c6 kv bs (bs + 2 * ((ns[i]:Nat):Int) + 1) (bs + 2 * ((ns[i]:Nat):Int) + 2) Ps[ns[i]]:=by unfold er; rw [hg]
   have hC45:CellsAt K H5 (hp ++ hq) (c8 kv bs Ps (ns.take (i + 1))):=by
     rw [et,xx,hcn]
     exact Paired.app (hC4.same e5) hC5
   have hnd5:((hp ++ hq).map (·.1)).Nodup:=by
     rw [hC45.keys]
     exact gx ⟨List.Sublist.nodup (List.take_sublist _ _) hnd,fun j hj=>hPl.lt j (List.mem_of_mem_take hj),fun a ha b hb=>hPl.ne a (List.mem_of_mem_take ha) b (List.mem_of_mem_take hb)⟩
   have hl5:(hv hp).length + (hv hq).length <= 1000:=by
     have z1:=Paired.length hC45
     have z2:=jt kv bs Ps (ns.take (i + 1))
     have z3:(ns.take (i + 1)).length <= 15:=by rw [List.length_take]; lia
     unfold hv
     rw [List.length_map,List.length_map]
     rw [List.length_append] at z1
     lia
   have hhD:h ≠ D5:=az hh4 hD5
   refine ⟨D5,_,_,rfl,e5 _ _ hh4,hd5,hhD,Nat.le_of_lt (bm hl5),?_⟩
   rw [a2i hnd5]
   refine ⟨bi hh0 (e4.trans e5) _,by rw [ag hdh]; exact e5 _ _ hd4,_,_,_,aa,?_,rfl⟩
   exact Paired.mapP hC45 fun a c z=>⟨z.1,xi (e5 _ _ hh4) z.2⟩
 . rintro σ H3 ⟨e3,hd3,hp,z6,z7,hh3,hC3,rfl⟩
   rw [List.length_map,List.take_length] at hC3
   refine ⟨_,rfl,d,rfl,.inl ⟨_,.inl hd3⟩,kv,Sum.inr "nil",.int 0,hd3,rfl,hok.nil,?_⟩
   refine ⟨_,rfl,_,rfl,(show 2 <= sizeLine by decide),fun t ht=>?_⟩
   have hh4:(upd H3 d (.dK (dj kv (Sum.inr "nil")))) h = some (.dK (hv hp)):=by rw [ag (Ne.symm hdh)]; exact hh3
   have e4:Same H (upd H3 d (.dK (dj kv (Sum.inr "nil")))):=bi hd0 e3 _
   have hC4:CellsAt K (upd H3 d (.dK (dj kv (Sum.inr "nil")))) hp (c8 kv bs Ps ns):=Paired.mapP hC3 fun a c z=>⟨z.1,xi hd3 z.2⟩
   have s5:=ae ht (.tup [.ref d,.ref h])
   exact q t d h kv hp _ (e4.trans s5) hd0 hh0 hdh aa hok (s5 _ _ aa) (s5 _ _ hh4) (hC4.same s5)
end
noncomputable def a4w (F P:List (List Str)):Prop := ∀ i ∈ neOf F P,∀ j ∈ neOf F P,i ≠ j -> ap F (place (P.getD i [])) ≠ ap F (place (P.getD j []))
noncomputable def Word (x:Str):Prop:=x = "nil" \/ ¬ x ∈ Mir.noNames
structure Ex (K:PySem.W.Frag) (H:Hp) (F P:List (List Str)) (zs:List Str) (d h:Addr) (kv:List (Key × V)) (ws:List Str) (hp:List (Int × Addr)):Prop where
 ok:NumOk (ap F) ws kv
 mem:∀ y,y ∈ ws ↔ y ∈ words (F ++ P) \/ y ∈ zs
 vals:H d = some (.dK (dj kv (Sum.inr "nil")))
 heap:H h = some (.dK (hv hp))
 cells:CellsAt K H hp (c8 kv ((ws.length:Int) + 1) P (neOf F P))
 few:ws.length <= 200
inductive spExampleS (K:PySem.W.Frag) (vs:List V) (H:Hp) (Q:VK):Prop
 | mk (fl pl0 nl:Addr) (F P:List (List Str)) (zs:List Str) (h0:vs = [.ref fl,.ref pl0,.ref nl]) (h1:RowsAt K H fl F) (h2:F.length <= 100) (h3:(∀ r ∈ F,cm r)) (h4:RowsAt K H pl0 P) (h5:P.length <= 15) (h6:(∀ r ∈ P,PartRow r)) (h7:gb F) (h8:gb P) (h9:(∀ ss:List Str,ss.Nodup -> (∀ y ∈ ss,y ∈ words (F ++ P)) -> ss.length < 64)) (h10:H nl = some (.lst (zs.map V.str))) (h11:zs.length <= 100) (h12:a4w F P) (h13:(∀ r ∈ P,Word (place r) /\ (r.getD 0 "" = "stretch" -> Word (r.getD 2 "")))) (h14:∀ t d h kv ws hp H',Same H H' -> H d = none -> H h = none -> d ≠ h -> H' t = some (.tup [.ref d,.ref h]) -> Ex K H' F P zs d h kv ws hp -> Q (.ref t) H'):spExampleS K vs H Q
noncomputable def qa (K:PySem.W.Frag):Sp:=fun vs H Q _=>spExampleS K vs H Q
section
variable {P:Program} {w:World} {K:PySem.W.Frag} {mg:Str -> Option Value} {base:Heap} {f C fI gN gS:Addr} {fd dI dN dZ:FuncData}
theorem a0e:FnScope ["facts", "parts", "names"] ["facts", "parts", "names"] (ao ma):=⟨rfl,rfl,rfl,by decide +kernel,rfl,by decide +kernel,by decide +kernel⟩
theorem yx (Cn:Con K mg w) (T:Txt K mg C fI) (F:Fun K "example" "example" ma f fd) (GI:FnOk P w K mg base CX0 5 fI dI ["self", "facts", "parts"] (x9 K C)) (bI:Binds K dI ["self", "facts", "parts"] [])
   (GN:FnOk P w K mg base CX0 1 gN dN ["telling"] (a0g K)) (cN:Cal K mg "names_of" gN dN ["telling"])
   (GS:FnOk P w K mg base CX0 3 gS dZ ["knowledge", "names", "amid"] (qk K C)) (cS:Cal K mg "state_of" gS dZ ["knowledge", "names", "amid"]):FnOk P w K mg base CX0 7 f fd ["facts", "parts", "names"] (qa K):=by
 refine F.okQ a0e (fun vs H Q E h=>?_) (fun cdv A outer s0 H vs Q E hr h=>?_)
 . obtain ⟨fl,pl0,nl,F,P,zs,rfl,_⟩:=h; rfl
 obtain ⟨fl,pl0,nl,Fs,Ps,zs,rfl,hF,hFl,hrow,hPP,hP15,hPr,hsF,hsP,h64,hN,hz,hAp,hwd,q⟩:=h
 have hr1:=hr.mono (j:=1) (by lia)
 have hr3:=hr.mono (j:=3) (by lia)
 refine ⟨_,(ah (aw (ax GS hr3 rfl cS.name cS.keep cS.bind .nil av (bv (a63 T.mkC GI hr rfl T.mgC bI .nil av (af (qv 0) (af (qv 1) ab))) (dt (aj dw (ax GN hr1 rfl cN.name cN.keep cN.bind .nil av (gw (af (qv 0) (af (qv 1) ab)) ab)) (qv 2)) (gn j6 ab)))))),?_⟩
 refine ⟨_,rfl,_,rfl,fun x dx hx hdx hne=>?_⟩
 have s1:Same H (upd (upd H dx (.own x)) x (.ins C dx [])):=fun b o hb=>by rw [ag (az hb hx),ag (az hb hdx)]; exact hb
 refine ⟨x,dx,fl,pl0,Fs,Ps,rfl,aa,hF.same s1,hFl,hrow,hPP.same s1,hP15,hPr,fun pl hd un fu L Fl D dxx fss H2 k2 KS hfu A G hpx hnf KF hD hL=>⟨rfl,?_⟩⟩
 have e2:Same H H2:=fun b o hb=>k2 b o (s1 _ _ hb) (fun z=>by have z':b = x:=z; rw [z',hx] at hb; cases hb)
 refine ⟨_,rfl,_,rfl,(show 2 <= sizeLine by decide),fun t2 ht2=>?_⟩
 have s3:=ae ht2 (.tup [.ref fl,.ref pl0])
 have e3:=e2.trans s3
 have hT3:a09 K (upd H2 t2 (.tup [.ref fl,.ref pl0])) t2 [Fs,Ps]:=⟨[fl,pl0],SqT.of aa,.cons (hF.same e3) (.cons (hPP.same e3) .nil)⟩
 generalize upd H2 t2 (.tup [.ref fl,.ref pl0]) = H3 at s3 e3 hT3 |-
 have hnee:∀ r ∈ Fs ++ Ps,r ≠ []:=fun r hr'=>by
   rcases List.mem_append.mp hr' with z | z
   . obtain ⟨k,u,v,rfl,_⟩:=hrow r z
     exact List.cons_ne_nil _ _
   . rcases hPr r z with ⟨a,b,c,rfl⟩ | ⟨a,b,rfl⟩ | ⟨a,rfl⟩ <;> exact List.cons_ne_nil _ _
 refine ⟨t2,Fs,Ps,rfl,hT3,hsF,hsP,hnee,h64,fun p ys H4 hp0 e4 hp4 hnd hys _=>?_⟩
 have e34:=e3.trans e4
 have hy64:=h64 ys hnd fun y hy=>(hys y).mp hy
 refine ⟨_,rfl,p,nl,_,_,rfl,rfl,hp4,e34 _ _ hN,?_,fun p2 hp2=>?_⟩
 . rw [List.length_map,List.length_map]; exact Nat.le_of_lt (bm (by lia))
 intro am ham
 have s5:=ae hp2 (.lst (ys.map V.str ++ zs.map V.str))
 have s6:=ae ham (.dK [])
 have hp6:(upd (upd H4 p2 (.lst (ys.map V.str ++ zs.map V.str))) am (.dK [])) p2 = some (.lst ((ys ++ zs).map V.str)):=by rw [List.map_append]; exact s6 _ _ aa
 have ha6:(upd (upd H4 p2 (.lst (ys.map V.str ++ zs.map V.str))) am (.dK [])) am = some (.dK []):=aa
 have e26:=((s3.trans e4).trans s5).trans s6
 have e6:=e2.trans e26
 generalize upd (upd H4 p2 (.lst (ys.map V.str ++ zs.map V.str))) am (.dK []) = H6 at hp6 ha6 e26 e6 |-
 have hNe:NeAt C H6 x pl hd un fu D (neOf Fs Ps):=⟨⟨dxx,fss,e26 _ _ hpx,KF,hnf⟩,e26 _ _ hD⟩
 have hNl:∀ j ∈ neOf Fs Ps,j < Ps.length:=fun j hj=>List.mem_range.mp (List.mem_filter.mp hj).1
 have hN15:(neOf Fs Ps).length <= 15:=by
   have:=List.length_filter_le (fun n => !dz Ps (ap Fs) n) (List.range Ps.length)
   rw [List.length_range] at this
   unfold neOf
   lia
 have hNd:(neOf Fs Ps).Nodup:=List.Sublist.nodup List.filter_sublist List.nodup_range
 have hyz:(ys ++ zs).length <= 200:=by rw [List.length_append]; lia
 have dom:∀ r ∈ Ps,∀ y ∈ r.drop 1,Word y -> Dom (ys ++ zs) y:=fun r hr' y hy hw=>by
   rcases hw with z | z
   . exact .inl z
   . exact .inr (List.mem_append.mpr (.inl ((hys y).mpr (mem_words.mpr ⟨r,List.mem_append.mpr (.inr hr'),hy,z⟩))))
 refine ⟨x,p2,am,pl,hd,un,fu,D,Fs,Ps,L,neOf Fs Ps,ys ++ zs,rfl,KS.same e26,hNe,hN15,hp6,hyz,ha6,hPr,hNl,hNd,fun j hj=>?_,hAp,fun t d h kv hp H7 e7 hd0 hh0 hdh hT hok hd7 hh7 hC7=>?_⟩
 . have hjl:=hNl j hj
   have hg:Ps.getD j [] = Ps[j]:=by rw [List.getD_eq_getElem?_getD,List.getElem?_eq_getElem hjl]; rfl
   rw [hg]
   have hm:=List.getElem_mem hjl
   obtain ⟨w1,w2⟩:=hwd _ hm
   have hpr:=hPr _ hm
   refine ⟨dom _ hm _ ?_ w1,fun c=>dom _ hm _ ?_ (w2 c)⟩
   . rcases hpr with ⟨a,b,c,e⟩ | ⟨a,b,e⟩ | ⟨a,e⟩ <;> (rw [e]; exact List.mem_cons_self ..)
   . rcases hpr with ⟨a,b,c',e⟩ | ⟨a,b,e⟩ | ⟨a,e⟩
     . rw [e] at c; exact absurd c (by show ¬ ("cell" : Str) = "stretch"; decide +kernel)
     . rw [e]; exact List.mem_cons_of_mem _ (List.mem_cons_self ..)
     . rw [e] at c; exact absurd c (by show ¬ ("tree" : Str) = "stretch"; decide +kernel)
 . refine q t d h kv (ys ++ zs) hp H7 (e6.trans e7) (e6.free hd0) (e6.free hh0) hdh hT ⟨hok,fun y=>?_,hd7,hh7,hC7,hyz⟩
   rw [List.mem_append,hys]
end
noncomputable abbrev uw:Stmt:=top 25
noncomputable abbrev uo:Stmt:=top 26
noncomputable abbrev yc:Stmt:=top 27
noncomputable def dh (cs:di) (x:Int):Option (Int × Int):=(cs.find? fun c=>decide (c.1 = x)).map (·.2)
theorem CellsAt.look {K:PySem.W.Frag} {H:Hp} {hp:List (Int × Addr)} {cs:di} (h:CellsAt K H hp cs) (x:Int):(valV (hv hp) (Sum.inl x) = none /\ dh cs x = none) \/ ∃ t f s,valV (hv hp) (Sum.inl x) = some (.ref t) /\ dh cs x = some (f,s) /\ SqT K H t [.int f,.int s]:=by
 unfold CellsAt at h
 induction h with
 | nil=>exact .inl ⟨rfl,rfl⟩
 | @cons p c ps cs h t ih =>
   by_cases e:p.1 = x
   . refine .inr ⟨p.2,c.2.1,c.2.2,bz (p:=((Sum.inl p.1,V.ref p.2):Key × V)) (show (Sum.inl p.1:Key) = Sum.inl x by rw [e]),?_,h.2⟩
     unfold dh
     simp [List.find?_cons,<- h.1,e]
   . have e1:valV (hv (p :: ps)) (Sum.inl x) = valV (hv ps) (Sum.inl x):=c5 (p:=((Sum.inl p.1,V.ref p.2):Key × V)) (show ¬ (Sum.inl p.1:Key) = Sum.inl x from fun z=>e (Sum.inl.inj z))
     have e2:dh (c :: cs) x = dh cs x:=by unfold dh; simp [List.find?_cons,<- h.1,e]
     rw [e1,e2]
     exact ih
inductive Walk (cs:di) (stop:Int -> Prop) (isS:Bool):Nat -> List Int -> List Int -> Option (List Int) -> Prop
 | done (n:Nat) (row:List Int):Walk cs stop isS n [] row (some row)
 | stop (n:Nat) (x:Int) (rest row:List Int) (res:Option (List Int)):stop x -> Walk cs stop isS n rest row res -> Walk cs stop isS (n + 1) (x :: rest) row res
 | fail (n:Nat) (x:Int) (rest row:List Int):¬ stop x -> (dh cs x = none \/ x ∈ row) -> Walk cs stop isS (n + 1) (x :: rest) row none
 | step (n:Nat) (x f s:Int) (rest row:List Int) (res:Option (List Int)):¬ stop x -> dh cs x = some (f,s) -> ¬ x ∈ row -> Walk cs stop isS n ((if isS = true then [s] else [f,s]) ++ rest) (row ++ [x]) res -> Walk cs stop isS (n + 1) (x :: rest) row res
theorem a2q {cs:di} {stop:Int -> Prop} {isS:Bool} {m:Nat} {row:List Int} {res:Option (List Int)} (h:Walk cs stop isS m [] row res):res = some row:=by
 cases h
 rfl
theorem a0t {cs:di} {stop:Int -> Prop} {isS:Bool} {m:Nat} {x:Int} {co row:List Int} {res:Option (List Int)} (h:Walk cs stop isS m (x :: co) row res):∃ n,m = n + 1 /\ ((stop x /\ Walk cs stop isS n co row res) \/ (¬ stop x /\ (dh cs x = none \/ x ∈ row) /\ res = none) \/ (¬ stop x /\ ∃ f s,dh cs x = some (f,s) /\ ¬ x ∈ row /\ Walk cs stop isS n ((if isS = true then [s] else [f,s]) ++ co) (row ++ [x]) res)):=by
 cases h with
 | stop n _ _ _ _ h1 h2=>exact ⟨n,rfl,.inl ⟨h1,h2⟩⟩
 | fail n _ _ _ h1 h2=>exact ⟨n,rfl,.inr (.inl ⟨h1,h2,rfl⟩)⟩
 | step n _ f s _ _ _ h1 h2 h3 h4=>exact ⟨n,rfl,.inr (.inr ⟨h1,f,s,h2,h3,h4⟩)⟩
noncomputable def mayW (kv:List (Key × V)) (x:Str) (n:Int):Bool:=decide (x = "any") || decide (vI kv x = n)
noncomputable def la (kv:List (Key × V)) (r:List Str) (x:Int):Prop:=(r.getD 0 "" = "stretch" /\ x = vI kv (r.getD 2 "")) \/ (r.getD 0 "" = "tree" /\ x = 0)
noncomputable def k7 (kv:List (Key × V)) (cs:di) (r:List Str) (res:Option (List Int)):Prop :=
 (r.getD 0 "" = "cell" -> res = match dh cs (vI kv (place r)) with | none=>none | some (f,s)=>if (mayW kv (r.getD 2 "") f && mayW kv (r.getD 3 "") s) = true then some [vI kv (place r)] else none) /\
 (¬ r.getD 0 "" = "cell" -> ∃ N,N <= 400 /\ Walk cs (la kv r) (decide (r.getD 0 "" = "stretch")) N [vI kv (place r)] [] res)
noncomputable def Vals (kv:List (Key × V)) (r:List Str):Prop := ∀ x ∈ r.drop 1,x = "any" \/ (valV kv (Sum.inr x)).isSome = true
inductive spTakenS (K:PySem.W.Frag) (vs:List V) (H:Hp) (Q:VK):Prop
 | mk (d h b:Addr) (kv:List (Key × V)) (hp:List (Int × Addr)) (cs:di) (r:List Str) (res:Option (List Int)) (h0:vs = [.ref d,.ref h,.ref b]) (h1:H d = some (.dK kv)) (h2:IntsAt kv) (h3:H h = some (.dK (hv hp))) (h4:CellsAt K H hp cs) (h5:RowAt K H b r) (h6:PartRow r) (h7:(valV kv (Sum.inr (place r))).isSome = true) (h8:(r.getD 0 "" = "stretch" -> (valV kv (Sum.inr (r.getD 2 ""))).isSome = true)) (h9:Vals kv r) (h10:k7 kv cs r res) (h11:(res = none -> ∀ H',Same H H' -> Q .non H')) (h12:∀ row,res = some row -> ∀ D H',H D = none -> Same H H' -> H' D = some (.lst (row.map V.int)) -> Q (.ref D) H'):spTakenS K vs H Q
noncomputable def xf (K:PySem.W.Frag):Sp:=fun vs H Q _=>spTakenS K vs H Q
theorem x8 {K:PySem.W.Frag} {H:Hp}:∀ ns:List Int,DpAll K H (ns.map V.int) (ns.map PyData.int)
 | [] => .nil
 | x :: r => .cons (.int x) (x8 r)
theorem u0:∀ ns:List Int,PyData.canLayAll0 (ns.map PyData.int) = true
 | []=>by simp only [List.map_nil,PyData.canLayAll0]
 | x :: r=>by simp only [List.map_cons,PyData.canLayAll0,PyData.canLay0,Bool.true_and,u0 r]
theorem mx:∀ ns:List Int,PyData.depthAll (ns.map PyData.int) <= 0
 | []=>by simp only [List.map_nil,PyData.depthAll]; exact Nat.le_refl _
 | x :: r=>by simp only [List.map_cons,PyData.depthAll,PyData.depth]; exact Nat.max_le.mpr ⟨Nat.le_refl _,mx r⟩
theorem q8 (ns:List Int):EqOk (.list (ns.map PyData.int)):=by
 constructor
 . simp only [PyData.canLay0]; exact u0 ns
 . have:=mx ns
   simp only [PyData.depth]; lia
theorem oz (l:List PyData):PyData.eqv (.list l) (.list []) = l.isEmpty:=by
 cases l with
 | nil=>rfl
 | cons x l=>rfl
theorem a8k (c:Bool) (f s:Int):cutV [.int f,.int s] (some (if c = true then 1 else 0)) none = (if c = true then [s] else [f,s]).map V.int:=by
 cases c <;> rfl
inductive tStopS (K:PySem.W.Frag) (D:Ends) (σ:St) (H:Hp):Prop
 | mk (d b:Addr) (kv:List (Key × V)) (r:List Str) (x:Int) (h0:σ[0]? = some (some (.ref d))) (h1:σ[2]? = some (some (.ref b))) (h2:σ[3]? = some (some (.int x))) (h3:H d = some (.dK kv)) (h4:IntsAt kv) (h5:RowAt K H b r) (h6:PartRow r) (h7:(r.getD 0 "" = "stretch" -> (valV kv (Sum.inr (r.getD 2 ""))).isSome = true)) (h8:(la kv r x -> D.ct σ H)) (h9:(¬ la kv r x -> D.nx σ H)):tStopS K D σ H
noncomputable def a8r (K:PySem.W.Frag):TS:=fun D σ H=>tStopS K D σ H
inductive tFailS (K:PySem.W.Frag) (D:Ends) (σ:St) (H:Hp):Prop
 | mk (h rl:Addr) (hp:List (Int × Addr)) (cs:di) (row:List Int) (x:Int) (h0:σ[1]? = some (some (.ref h))) (h1:σ[3]? = some (some (.int x))) (h2:σ[4]? = some (some (.ref rl))) (h3:H h = some (.dK (hv hp))) (h4:CellsAt K H hp cs) (h5:H rl = some (.lst (row.map V.int))) (h6:(dh cs x = none \/ x ∈ row -> D.rt .non H)) (h7:(∀ f s,dh cs x = some (f,s) -> ¬ x ∈ row -> D.nx σ H)):tFailS K D σ H
noncomputable def a8y (K:PySem.W.Frag):TS:=fun D σ H=>tFailS K D σ H
theorem sf (x:Int) (l:List Int):inV (.int x) (l.map V.int) = decide (x ∈ l):=by
 unfold inV
 rw [Bool.eq_iff_iff,List.any_eq_true,decide_eq_true_eq]
 constructor
 . rintro ⟨y,hy,e⟩
   obtain ⟨z,hz,rfl⟩:=List.mem_map.mp hy
   have:z = x:=by
     have e':(z == x) = true:=e
     simpa using e'
   exact this ▸ hz
 . intro h
   exact ⟨.int x,List.mem_map.mpr ⟨x,h,rfl⟩,by show (x == x) = true; simp⟩
theorem PartRow.at2s {r:List Str} (h:PartRow r) (hs:r.getD 0 "" = "stretch"):atI (r.map V.str) 2 = some (.str (r.getD 2 "")):=by
 rcases h with ⟨a,f,s,rfl⟩ | ⟨a,b,rfl⟩ | ⟨a,rfl⟩
 . exact absurd hs (by show ¬ ("cell" : Str) = "stretch"; decide +kernel)
 . rfl
 . exact absurd hs (by show ¬ ("tree" : Str) = "stretch"; decide +kernel)
section
variable {P:Program} {w:World} {K:PySem.W.Frag} {mg:Str -> Option Value} {base:Heap} {f:Addr} {fd:FuncData}
theorem scTaken:FnScope ["_law_values", "_law_heap", "_law_part", "_law_here", "_law_row", "_law_word", "_law_number", "_law_coming"] ["_law_values", "_law_heap", "_law_part"] (ao uw):=⟨rfl,rfl,rfl,by decide +kernel,rfl,by decide +kernel,by decide +kernel⟩
theorem a3c (C:Con K mg w) (F:Fun K "_law_taken" "_law_taken" uw f fd):FnOk P w K mg base CX0 1 f fd ["_law_values", "_law_heap", "_law_part"] (xf K):=by
 refine F.okQ scTaken (fun vs H Q E h=>?_) (fun cdv A outer s0 H vs Q E hr h=>?_)
 . obtain ⟨d,h,b,kv,hp,cs,r,res,rfl,_⟩:=h; rfl
 obtain ⟨d,h,b,kv,hp,cs,r,res,rfl,hD,hI,hH,hC,hR,hp',hpl,hen,hvs,hT,qn,qs⟩:=h
 have nd:=scTaken.nd
 have hu1:=df hr
 have hu:=Nat.lt_of_le_of_lt (Nat.add_le_add_left (show 32 <= 64 by decide) _) hr.units
 refine ⟨_,ac (ak (i:=3) nd rfl (Or.inl rfl) (cg hu1 (qv 0) (ai (ixTk (K:=K) rfl) (qv 2) ad (fun _ _=>rfl)) (fun _ _=>rfl)))
   (ac (ak (i:=4) nd rfl (Or.inl rfl) (bp ab))
   (ac (bf (ar bw (ai (ixTk (K:=K) rfl) (qv 2) ad (fun _ _=>rfl)) bt (aq _)) (ac (bf (i4 hu1 (qv 3) (qv 1)) (ah (aw i3)) bc)
   (ac (bg PassesOwn.never rfl (a35 (K:=K) rfl rfl C.zip (ay (ei (slTk (K:=K) rfl) (qv 2) (dk ad) ge) (ay (cg hu1 (qv 1) (qv 3) (fun _ _=>rfl)) ab))) (gr (K:=K) rfl (au (i:=5) nd rfl (Or.inl rfl)) (au (i:=6) nd rfl (Or.inl rfl))) (ah (bf (QW.qt (gy (ar gf (qv 5) bt (aq _)) (gm (ar gf (cg hu1 (qv 0) (qv 5) (fun _ _=>rfl)) (qv 6) (aq _))))) (ah (aw i3)) bc)))
   (ah (aw (bp (af (qv 3) ab)))))) bc)
   (ac (ak (i:=7) nd rfl (Or.inl rfl) (bp (af (qv 3) ab)))
   (ac (mo PassesOwn.never (ar (neDk (K:=K) rfl hu) (qv 7) (bp ab) (aq _)) (ac (ak (i:=3) nd rfl (Or.inl rfl) (gh (K:=K) rfl PySem.F.plainAttrs_list PySem.F.slot_list_pop PySem.F.type_list_pop a2j (qv 7) (gg ab)))
   (ac (fb (t':=a8r K) (bf (QW.qt (fg (QW.qt (gy (ar bw (ai (ixTk (K:=K) rfl) (qv 2) ad (fun _ _=>rfl)) bt (aq _)) (gm (ar bw (qv 3) (cg hu1 (qv 0) (ai (ixTk (K:=K) rfl) (qv 2) ad (fun _ _=>rfl)) (fun _ _=>rfl)) (aq _))))) (ft (QW.qt (gy (ar bw (ai (ixTk (K:=K) rfl) (qv 2) ad (fun _ _=>rfl)) bt (aq _)) (gm (ar bw (qv 3) ad (aq _)))))))) (ah vb) bc) (fun D σ H hh=>by
     obtain ⟨d,b,kv,r,x,g0,g2,g3,hD,hI,hR,hp,hen,yes,no⟩:=hh
     refine ⟨_,g2,b,_,0,_,rfl,rfl,hR,hp.at0,rfl,_,rfl,iteB (fun c=>?_) (fun c=>?_)⟩
     . have c':r.getD 0 "" = "stretch" := by simpa using c
       refine ⟨_,g3,_,g0,_,g2,b,_,2,_,rfl,rfl,hR,hp.at2s c',d,_,rfl,(hI.at_ (hen c')) ▸ DGet.k (k:=Sum.inr (r.getD 2 "")) hD,rfl,_,rfl,iteB (fun c2=>?_) (fun c2=>?_)⟩
       . exact iteB (fun _=>yes (.inl ⟨c',by simpa using c2⟩)) (fun z=>by cases z)
       . refine ⟨_,g2,b,_,0,_,rfl,rfl,hR,hp.at0,rfl,_,rfl,iteB (fun c3=>?_) (fun c3=>?_)⟩
         . have c3':r.getD 0 "" = "tree" := by simpa using c3
           rw [c'] at c3'
           exact absurd c3' (by decide +kernel)
         . refine iteN rfl (no (fun z=>?_))
           rcases z with z | z
           . have c2':¬ x = vI kv (r.getD 2 ""):=by simpa using c2
             exact c2' z.2
           . have c3':¬ r.getD 0 "" = "tree" := by simpa using c3
             exact c3' z.1
     . have c':¬ r.getD 0 "" = "stretch" := by simpa using c
       refine iteN rfl ⟨_,g2,b,_,0,_,rfl,rfl,hR,hp.at0,rfl,_,rfl,iteB (fun c3=>?_) (fun c3=>?_)⟩
       . have c3':r.getD 0 "" = "tree" := by simpa using c3
         refine ⟨_,g3,rfl,_,rfl,iteB (fun c4=>?_) (fun c4=>?_)⟩
         . exact yes (.inr ⟨c3',by simpa using c4⟩)
         . refine no (fun z=>?_)
           rcases z with z | z
           . exact c' z.1
           . have c4':¬ x = 0:=by simpa using c4
             exact c4' z.2
       . refine iteN rfl (no (fun z=>?_))
         rcases z with z | z
         . exact c' z.1
         . have c3':¬ r.getD 0 "" = "tree" := by simpa using c3
           exact c3' z.1))
   (ac (fb (t':=a8y K) (bf (QW.qt (fg (i4 hu1 (qv 3) (qv 1)) (ft (ar (inSk (K:=K) rfl) (qv 3) (qv 4) (by with_unfolding_all rfl))))) (ah (aw i3)) bc) (fun D σ H hh=>by
     obtain ⟨h,rl,hp,cs,row,x,g1,g3,g4,hH,hC,hL,yes,no⟩:=hh
     rcases hC.look x with ⟨z1,z2⟩ | ⟨t,f,s,z1,z2,z3⟩
     . refine ⟨_,g3,_,g1,h,_,rfl,DGet.k (k:=Sum.inl x) hH,_,rfl,?_⟩
       rw [z1]
       exact iteB (fun _=>yes (.inl z2)) (fun c=>by cases c)
     . refine ⟨_,g3,_,g1,h,_,rfl,DGet.k (k:=Sum.inl x) hH,_,rfl,?_⟩
       rw [z1]
       refine iteN rfl ⟨_,g3,_,g4,rl,_,rfl,.inl (SqL.of hL),rfl,(by rw [List.all_map]; exact List.all_eq_true.mpr fun _ _=>rfl),_,rfl,?_⟩
       refine iteB (fun c=>yes (.inr (of_decide_eq_true ((sf x row).symm.trans c)))) (fun c=>no f s z2 (fun z=>?_))
       have z':inV (.int x) (row.map V.int) = true:=(sf x row).trans (decide_eq_true z)
       exact absurd (z'.symm.trans c) (by decide)))
   (ac (bq (gh (K:=K) rfl PySem.F.plainAttrs_list PySem.F.slot_list_append PySem.F.type_list_append du (qv 4) (af (qv 3) ab)))
   (ah (ak (i:=7) nd rfl (Or.inl rfl) (aj dw (ei (slLk (K:=K) rfl) (cf (lb (K:=K) rfl) rfl C.list PyProof.Rows.boot_list (ay (cg hu1 (qv 1) (qv 3) (fun _ _=>rfl)) ab)) (dk (cf j5 rfl C.int PyProof.Rows.boot_int (gn (dl bw (ai (ixTk (K:=K) rfl) (qv 2) ad (fun _ _=>rfl)) bt (aq _)) ab))) ge) (qv 7)))))))))
   (ah (aw (qv 4))))))),?_⟩
 refine ⟨_,rfl,_,rfl,b,_,1,_,rfl,rfl,hR,hp'.at1,d,_,rfl,(hI.at_ hpl) ▸ DGet.k (k:=Sum.inr (place r)) hD,?_⟩
 refine ⟨Nat.zero_le _,fun rl hrl=>?_⟩
 have s1:=ae hrl (.lst [])
 have hL1:(upd H rl (.lst [])) rl = some (.lst (([]:List Int).map V.int)):=aa
 have hD1:=s1 _ _ hD
 have hH1:=s1 _ _ hH
 have hC1:=hC.same s1
 have hR1:=RowAt.same hR s1
 generalize upd H rl (.lst []) = H1 at s1 hL1 hD1 hH1 hC1 hR1 |-
 dsimp only [bh]
 refine ce (a:=tIfS _ _ _) fun D1 hN1 hRt1 hCt1=>?_
 refine ⟨_,rfl,b,_,0,_,rfl,rfl,hR1,hp'.at0,rfl,_,rfl,iteB (fun c=>?_) (fun c=>?_)⟩
 . clear hN1
   have c':r.getD 0 "" = "cell" := by simpa using c
   have hres:=hT.1 c'
   obtain ⟨x,y,z,rfl⟩:∃ x y z,r = [("cell" : Str),x,y,z]:=by
     rcases hp' with z | ⟨x,y,rfl⟩ | ⟨a,rfl⟩
     . exact z
     . exact absurd c' (by show ¬ ("stretch" : Str) = "cell"; decide +kernel)
     . exact absurd c' (by show ¬ ("tree" : Str) = "cell"; decide +kernel)
   rcases hC1.look (vI kv (place [("cell" : Str),x,y,z])) with ⟨z1,z2⟩ | ⟨t,f,s,z1,z2,z3⟩
   . refine ⟨_,rfl,_,rfl,h,_,rfl,DGet.k (k:=Sum.inl _) hH1,_,rfl,?_⟩
     rw [z1]
     refine iteB (fun _=>?_) (fun c=>by cases c)
     exact hRt1 _ _ (qn (by rw [hres,z2]) _ s1)
   . refine ⟨_,rfl,_,rfl,h,_,rfl,DGet.k (k:=Sum.inl _) hH1,_,rfl,?_⟩
     rw [z1]
     refine iteB (fun c=>by cases c) (fun _=>?_)
     refine ⟨_,rfl,_,rfl,b,_,rfl,hR1,(show ¬ (min 2 4 = 0 /\ 4 = 4) by decide),fun t2 ht2=>?_⟩
     have s2:=ae ht2 (.tup [.str y,.str z])
     have hcv:cutV (([("cell" : Str),x,y,z]:List Str).map V.str) (some 2) none = [.str y,.str z]:=rfl
     rw [hcv]
     have s12:=s1.trans s2
     have hT2:(upd H1 t2 (.tup [.str y,.str z])) t2 = some (.tup [.str y,.str z]):=aa
     have hH2:=s2 _ _ hH1
     have z32:=s2.seqT z3
     generalize upd H1 t2 (.tup [.str y,.str z]) = H2 at s2 s12 hT2 hH2 z32 |-
     refine ⟨_,rfl,_,rfl,h,.ref t,rfl,z1 ▸ DGet.k (k:=Sum.inl _) hH2,t2,t,_,_,rfl,SqT.of hT2,z32,?_⟩
     have word:∀ u,u ∈ [y,z] -> u = "any" \/ valV kv (Sum.inr u) = some (.int (vI kv u)):=fun u hu=>by
       rcases hvs u (List.mem_cons_of_mem _ hu) with w | w
       . exact .inl w
       . exact .inr (hI.at_ w)
     refine a2h (K:=K) (xs:=[.str y,.str z]) (ys:=[.int f,.int s]) (fun i σ H3=>Same H2 H3 /\ (0 < i -> mayW kv y f = true) /\ (1 < i -> mayW kv z s = true) /\ ∃ z5 z6 z7:Option V,σ = [some (.ref d),some (.ref h),some (.ref b),some (.int (vI kv (place [("cell" : Str),x,y,z]))),some (.ref rl),z5,z6,z7])
       ⟨Same.refl _,(fun c=>absurd c (Nat.lt_irrefl _)),(fun c=>absurd c (by decide)),none,none,none,rfl⟩ (fun i σ H3 pv=>⟨SqT.of (pv.1 _ _ hT2),pv.1.seqT z32⟩) rfl ?_ ?_
     . rintro i v1 v2 σ H3 p hv1 hv2 ⟨e3,m1,m2,z5,z6,z7,rfl⟩ hp3
       obtain ⟨u,n,rfl,rfl,hu2,hun⟩:∃ (u:Str) (n:Int),v1 = .str u /\ v2 = .int n /\ u ∈ [y,z] /\ ((i = 0 /\ u = y /\ n = f) \/ (i = 1 /\ u = z /\ n = s)):=by
         match i,hv1,hv2 with
         | 0,h1,h2=>exact ⟨y,f,(Option.some.inj h1).symm,(Option.some.inj h2).symm,List.mem_cons_self ..,.inl ⟨rfl,rfl,rfl⟩⟩
         | 1,h1,h2=>exact ⟨z,s,(Option.some.inj h1).symm,(Option.some.inj h2).symm,List.mem_cons_of_mem _ (List.mem_cons_self ..),.inr ⟨rfl,rfl,rfl⟩⟩
         | (i + 2),h1,h2=>cases h1
       have s3:=ae hp3 (.tup [.str u,.int n])
       have e4:=e3.trans s3
       have hD4:=(s12.trans e4) _ _ hD
       have bad:mayW kv u n = false -> res = none:=fun hb=>by
         rw [hres,z2]
         rcases hun with ⟨_,rfl,rfl⟩ | ⟨_,rfl,rfl⟩
         . show (if (mayW kv u n && mayW kv z s) = true then _ else _) = _
           rw [hb]; rfl
         . show (if (mayW kv y f && mayW kv u n) = true then _ else _) = _
           rw [hb,Bool.and_false]; rfl
       have good:mayW kv u n = true -> (0 < i + 1 -> mayW kv y f = true) /\ (1 < i + 1 -> mayW kv z s = true):=fun hg=>by
         rcases hun with ⟨rfl,rfl,rfl⟩ | ⟨rfl,rfl,rfl⟩
         . exact ⟨fun _=>hg,fun c=>absurd c (Nat.lt_irrefl _)⟩
         . exact ⟨fun _=>m1 (by decide),fun _=>hg⟩
       refine ⟨p,_,rfl,SqT.of aa,rfl,_,_,rfl,_,_,rfl,rfl,?_⟩
       generalize upd H3 p (.tup [.str u,.int n]) = H4 at s3 e4 hD4 |-
       refine ⟨_,rfl,rfl,_,rfl,iteB (fun c1=>?_) (fun c1=>?_)⟩
       . have c1':¬ u = "any" := by simpa using c1
         have hv:=(word u hu2).resolve_left c1'
         refine ⟨_,rfl,_,rfl,d,_,rfl,hv ▸ DGet.k (k:=Sum.inr u) hD4,_,rfl,rfl,_,rfl,iteB (fun c2=>?_) (fun c2=>?_)⟩
         . have c2':¬ vI kv u = n:=by simpa using c2
           exact hRt1 _ _ (qn (bad (by unfold mayW; rw [decide_eq_false c1',decide_eq_false c2']; rfl)) _ (s12.trans e4))
         . have c2':vI kv u = n:=by simpa using c2
           obtain ⟨g1,g2⟩:=good (by unfold mayW; rw [decide_eq_true c2',Bool.or_true])
           exact ⟨e4,g1,g2,_,_,_,rfl⟩
       . have c1':u = "any" := by simpa using c1
         obtain ⟨g1,g2⟩:=good (by unfold mayW; rw [decide_eq_true c1']; rfl)
         exact iteB (fun w=>by cases w) (fun _=>⟨e4,g1,g2,_,_,_,rfl⟩)
     . rintro σ H3 ⟨e3,m1,m2,z5,z6,z7,rfl⟩
       refine ⟨_,rfl,(show 1 <= sizeLine by decide),fun D hD9=>?_⟩
       have e9:=s12.trans e3
       have hr9:res = some [vI kv (place [("cell" : Str),x,y,z])]:=by
         rw [hres,z2]
         show (if (mayW kv y f && mayW kv z s) = true then _ else _) = _
         rw [m1 (show 0 < 2 by decide),m2 (show 1 < 2 by decide)]; rfl
       exact hRt1 _ _ (qs _ hr9 D _ (e9.free hD9) (e9.trans (ae hD9 _)) aa)
 . refine hN1 _ _ ?_
   clear hN1 hRt1 hCt1 D1
   have c':¬ r.getD 0 "" = "cell" := by simpa using c
   obtain ⟨N,hN4,hW⟩:=hT.2 c'
   refine ⟨_,rfl,(show 1 <= sizeLine by decide),fun cl hcl=>?_⟩
   have hcr:cl ≠ rl:=fun z=>by rw [z,hL1] at hcl; cases hcl
   have hcl0:H cl = none:=s1.free hcl
   have s2:=ae hcl (.lst [.int (vI kv (place r))])
   have hK2:(upd H1 cl (.lst [.int (vI kv (place r))])) cl = some (.lst (([vI kv (place r)]:List Int).map V.int)):=aa
   have hL2:=s2 _ _ hL1
   have e2:=s1.trans s2
   generalize upd H1 cl (.lst [.int (vI kv (place r))]) = H2 at s2 hK2 hL2 e2 |-
   obtain ⟨Wv,hWv⟩:∃ Wv:Nat -> St -> Hp -> Prop,Wv = fun m σ H3=>Same H H3 /\ ∃ (cl:Addr) (co row:List Int) (x3:Int) (z5 z6:Option V),H cl = none /\ cl ≠ rl /\ H3 cl = some (.lst (co.map V.int)) /\ H3 rl = some (.lst (row.map V.int)) /\ co.length + m <= 401 /\ row.length + m <= 400 /\ Walk cs (la kv r) (decide (r.getD 0 "" = "stretch")) m co row res /\ σ = [some (.ref d),some (.ref h),some (.ref b),some (.int x3),some (.ref rl),z5,z6,some (.ref cl)]:=⟨_,rfl⟩
   refine ⟨Wv,⟨N,by rw [hWv]; exact ⟨e2,cl,_,[],_,none,none,hcl0,hcr,hK2,hL2,(show 1 + N <= 401 by lia),(by simpa using hN4),hW,rfl⟩⟩,?_⟩
   clear hcl0 hcr hK2 hL2 e2 s2 hcl hW hL1 hD1 hH1 hC1 hR1
   intro m σ H3 hq
   rw [hWv] at hq
   obtain ⟨e3,cl,co,row,x3,z5,z6,hcl0,hcr,hK3,hL3,hco,hro,hW,rfl⟩:=hq
   refine ⟨_,rfl,Nat.zero_le _,fun ln hln=>?_⟩
   have s4:=ae hln (.lst [])
   refine ⟨.list (co.map PyData.int),.list [],.lst (SqL.of (s4 _ _ hK3)) (x8 co),.lst (SqL.of aa) .nil,q8 co,q8 [],_,rfl,?_⟩
   rw [oz]
   have e4:=e3.trans s4
   have hK4:=s4 _ _ hK3
   have hL4:=s4 _ _ hL3
   clear hK3 hL3 e3
   generalize upd H3 ln (.lst []) = H4 at s4 e4 hK4 hL4 |-
   cases co with
   | nil =>
     refine iteB (fun w=>by cases w) (fun _=>?_)
     exact ⟨_,rfl,qs row (a2q hW) rl H4 hrl e4 hL4⟩
   | cons x co =>
     obtain ⟨n,rfl,hWc⟩:=a0t hW
     clear hW
     refine iteB (fun _=>⟨_,fun _ _ z=>z,?_⟩) (fun w=>by cases w)
     refine ⟨_,rfl,.inl ⟨rfl,_,SqL.of hK4⟩,cl,_,0,0,.int x,rfl,rfl,hK4,(by decide),(by decide),(by simp [seqIndex?]),rfl,?_⟩
     have hK5:(upd H4 cl (.lst (((x :: co).map V.int).eraseIdx 0))) cl = some (.lst (co.map V.int)):=aa
     have hL5:(upd H4 cl (.lst (((x :: co).map V.int).eraseIdx 0))) rl = some (.lst (row.map V.int)):=by rw [ag (Ne.symm hcr)]; exact hL4
     have e5:Same H (upd H4 cl (.lst (((x :: co).map V.int).eraseIdx 0))):=bi hcl0 e4 _
     clear hK4 hL4 e4 s4 hln
     generalize upd H4 cl (.lst (((x :: co).map V.int).eraseIdx 0)) = H5 at hK5 hL5 e5 |-
     refine ⟨d,b,kv,r,x,rfl,rfl,rfl,e5 _ _ hD,hI,RowAt.same hR e5,hp',hen,fun hst=>?_,fun hst=>?_⟩
     . rcases hWc with ⟨_,hW2⟩ | ⟨hns,_⟩ | ⟨hns,_⟩
       . exact ⟨n,Nat.lt_succ_self n,by rw [hWv]; exact ⟨e5,cl,co,row,x,z5,z6,hcl0,hcr,hK5,hL5,(by rw [List.length_cons] at hco; lia),(by lia),hW2,rfl⟩⟩
       . exact absurd hst hns
       . exact absurd hst hns
     refine ⟨h,rl,hp,cs,row,x,rfl,rfl,rfl,e5 _ _ hH,hC.same e5,hL5,fun hb=>?_,fun f s hlk hnr=>?_⟩
     . rcases hWc with ⟨hs2,_⟩ | ⟨_,_,hn⟩ | ⟨_,f,s,hl2,hn2,_⟩
       . exact absurd hs2 hst
       . exact qn hn _ e5
       . exact absurd hb (fun z=>z.elim (fun y=>by rw [hl2] at y; cases y) hn2)
     . rcases hWc with ⟨hs2,_⟩ | ⟨_,hb,_⟩ | ⟨_,f',s',hl2,hn2,hW2⟩
       . exact absurd hs2 hst
       . exact absurd hb (fun z=>z.elim (fun y=>by rw [hlk] at y; cases y) hnr)
       . rw [hlk] at hl2
         cases hl2
         refine ⟨_,rfl,.inl ⟨rfl,_,SqL.of hL5⟩,_,rfl,rl,_,_,rfl,rfl,hL5,bm (by rw [List.length_map]; lia),?_⟩
         have hL6:(upd H5 rl (.lst (row.map V.int ++ [.int x]))) rl = some (.lst ((row ++ [x]).map V.int)):=by rw [aa,List.map_append]; rfl
         have hK6:(upd H5 rl (.lst (row.map V.int ++ [.int x]))) cl = some (.lst (co.map V.int)):=by rw [ag hcr]; exact hK5
         have e6:Same H (upd H5 rl (.lst (row.map V.int ++ [.int x]))):=bi hrl e5 _
         clear hL5 hK5 e5
         generalize upd H5 rl (.lst (row.map V.int ++ [.int x])) = H6 at hL6 hK6 e6 |-
         obtain ⟨t,f9,s9,y1,y2,y3⟩:=((hC.same e6).look x).resolve_left (fun z=>by rw [z.2] at hlk; cases hlk)
         rw [hlk] at y2
         cases y2
         refine ⟨_,rfl,_,rfl,h,.ref t,rfl,y1 ▸ DGet.k (k:=Sum.inl x) (e6 _ _ hH),t,_,rfl,.inr y3,fun ll hll=>?_⟩
         have s7:=ae hll (.lst [.int f,.int s])
         have hS7:(upd H6 ll (.lst [.int f,.int s])) ll = some (.lst [.int f,.int s]):=aa
         have e7:=e6.trans s7
         have hL7:=s7 _ _ hL6
         have hK7:=s7 _ _ hK6
         generalize upd H6 ll (.lst [.int f,.int s]) = H7 at s7 hS7 e7 hL7 hK7 |-
         refine ⟨_,rfl,b,_,0,_,rfl,rfl,RowAt.same hR e7,hp'.at0,rfl,_,rfl,?_⟩
         have hdec:decide (V.str (r.getD 0 "") = V.str "stretch") = decide (r.getD 0 "" = "stretch"):=by
           by_cases e:r.getD 0 "" = "stretch"
           . rw [decide_eq_true e,decide_eq_true (by rw [e])]
           . rw [decide_eq_false e,decide_eq_false (fun z=>e (V.str.inj z))]
         rw [hdec]
         refine ⟨_,rfl,ll,_,rfl,SqL.of hS7,fun p1 hp1=>?_⟩
         rw [a8k]
         have s8:=ae hp1 (.lst ((if decide (r.getD 0 "" = "stretch") = true then [s] else [f,s]).map V.int))
         have hP8:(upd H7 p1 (.lst ((if decide (r.getD 0 "" = "stretch") = true then [s] else [f,s]).map V.int))) p1 = some (.lst ((if decide (r.getD 0 "" = "stretch") = true then [s] else [f,s]).map V.int)):=aa
         have e8:=e7.trans s8
         have hL8:=s8 _ _ hL7
         have hK8:=s8 _ _ hK7
         generalize upd H7 p1 (.lst ((if decide (r.getD 0 "" = "stretch") = true then [s] else [f,s]).map V.int)) = H8 at s8 hP8 e8 hL8 hK8 |-
         have hl2:(if decide (r.getD 0 "" = "stretch") = true then [s] else [f,s]).length <= 2:=by split <;> simp
         rw [List.length_cons] at hco
         refine ⟨_,rfl,p1,cl,_,_,rfl,rfl,hP8,hK8,(by rw [List.length_map,List.length_map]; exact Nat.le_of_lt (bm (by lia))),fun nc hnc=>?_⟩
         have s9:=ae hnc (.lst ((if decide (r.getD 0 "" = "stretch") = true then [s] else [f,s]).map V.int ++ co.map V.int))
         refine ⟨n,Nat.lt_succ_self n,?_⟩
         rw [hWv]
         refine ⟨e8.trans s9,nc,(if decide (r.getD 0 "" = "stretch") = true then [s] else [f,s]) ++ co,row ++ [x],x,z5,z6,e8.free hnc,(fun z=>by rw [z,hL8] at hnc; cases hnc),(by rw [aa,List.map_append]),s9 _ _ hL8,(by rw [List.length_append]; lia),(by rw [List.length_append,List.length_singleton]; lia),hW2,rfl⟩
end
noncomputable def nj (kv:List (Key × V)) (r:List Str):Bool:=decide (vI kv (r.getD 1 "") = vI kv (r.getD 2 "")) == decide (r.getD 0 "" = "is")
structure CovOk (kv:List (Key × V)) (F:List (List Str)) (rs:List (Option (List Int))) (rows:List (List Int)):Prop where
 facts:∀ r ∈ F,nj kv r = true
 all:rs = rows.map some
 nd:rows.flatten.Nodup
structure CovIn (K:PySem.W.Frag) (H:Hp) (d h tl fl ql:Addr) (kv:List (Key × V)) (hp:List (Int × Addr)) (cs:di) (F P:List (List Str)) (rs:List (Option (List Int))):Prop where
 vals:H d = some (.dK kv)
 num:IntsAt kv
 heap:H h = some (.dK (hv hp))
 cells:CellsAt K H hp cs
 tell:SqT K H tl [.ref fl,.ref ql]
 rF:RowsAt K H fl F
 Fr:∀ r ∈ F,cm r
 Fv:∀ r ∈ F,Vals kv r /\ ¬ ("any" : Str) ∈ r.drop 1
 rP:RowsAt K H ql P
 Pr:∀ r ∈ P,PartRow r
 Pv:∀ r ∈ P,Vals kv r /\ (valV kv (Sum.inr (place r))).isSome = true /\ (r.getD 0 "" = "stretch" -> (valV kv (Sum.inr (r.getD 2 ""))).isSome = true)
 res:Paired (fun r o=>k7 kv cs r o) P rs
 few:(rs.filterMap id).flatten.length <= 900
 fewP:P.length <= 100
noncomputable def sk (l:List Int):List (Key × V):=l.map fun x=>(Sum.inl x,V.bl true)
theorem a02 (l:List Int) (x:Int):(valV (sk l) (Sum.inl x)).isSome = decide (x ∈ l):=by
 rw [<- ef]
 unfold sk
 rw [List.any_map,Bool.eq_iff_iff,List.any_eq_true,decide_eq_true_eq]
 constructor
 . rintro ⟨y,hy,e⟩
   have:y = x:=Sum.inl.inj (of_decide_eq_true e)
   exact this ▸ hy
 . intro hx
   exact ⟨x,hx,decide_eq_true rfl⟩
theorem a88 {l:List Int} {x:Int} (h:¬ x ∈ l):putK (sk l) (Sum.inl x) (.bl true) = sk (l ++ [x]):=by
 have:valV (sk l) (Sum.inl x) = none:=by
   have:=a02 l x
   rw [decide_eq_false h] at this
   cases hz:valV (sk l) (Sum.inl x) with
   | none=>rfl
   | some v=>rw [hz] at this; cases this
 rw [gq this]
 unfold sk
 rw [List.map_append]
 rfl
noncomputable def LRows (S:Addr -> Prop) (H:Hp) (as:List Addr) (rows:List (List Int)):Prop:=Paired (fun a row=>H a = some (.lst (row.map V.int)) /\ ¬ S a) as rows
theorem LRows.same {S:Addr -> Prop} {H H':Hp} {as:List Addr} {rows:List (List Int)} (h:LRows S H as rows) (e:Same H H'):LRows S H' as rows:=Paired.mapP h fun _ _ z=>⟨e _ _ z.1,z.2⟩
theorem LRows.put {S:Addr -> Prop} {H:Hp} {as:List Addr} {rows:List (List Int)} (h:LRows S H as rows) {a:Addr} (ha:S a) (o:HO):LRows S (upd H a o) as rows:=Paired.mapP h fun b _ z=>⟨by
 have hne:b ≠ a:=fun w=>z.2 (by rw [w]; exact ha)
 rw [ag hne]; exact z.1,z.2⟩
theorem uc {rows rows':List (List Int)} (h:rows.map some = rows'.map some):rows = rows':=(List.map_inj_right (fun _ _ z=>Option.some.inj z)).mp h
theorem zf {rows rows':List (List Int)} {rs:List (Option (List Int))} {i:Nat} {row:List Int} (h:rs = rows'.map some) (ht:rows.map some = rs.take i) (hi:rs[i]? = some (some row)):∃ rest,rows' = rows ++ row :: rest:=by
 subst h
 rw [<- List.map_take] at ht
 have h1:=uc ht
 rw [List.getElem?_map] at hi
 cases hz:rows'[i]? with
 | none=>rw [hz] at hi; cases hi
 | some row' =>
   rw [hz] at hi
   have:row' = row:=Option.some.inj (Option.some.inj hi)
   subst this
   refine ⟨rows'.drop (i + 1),?_⟩
   have hil:=(List.getElem?_eq_some_iff.mp hz).1
   have hd:rows'.drop i = row' :: rows'.drop (i + 1):=by
     rw [List.drop_eq_getElem_cons hil,(List.getElem?_eq_some_iff.mp hz).2]
   rw [h1,<- hd,List.take_append_drop]
theorem a0u {rows:List (List Int)} {rs:List (Option (List Int))} {i:Nat} {row:List Int} (ht:rows.map some = rs.take i) (hi:rs[i]? = some (some row)):rows.flatten.length + row.length <= (rs.filterMap id).flatten.length:=by
 have hil:=(List.getElem?_eq_some_iff.mp hi).1
 have hd:rs.drop i = some row :: rs.drop (i + 1):=by
   rw [List.drop_eq_getElem_cons hil,(List.getElem?_eq_some_iff.mp hi).2]
 have e:rs = rows.map some ++ some row :: rs.drop (i + 1):=by rw [ht,<- hd,List.take_append_drop]
 rw [e,List.filterMap_append,List.filterMap_map,List.flatten_append,List.length_append]
 have e1:List.filterMap (id ∘ some) rows = rows:=List.filterMap_some
 rw [e1]
 have e2:List.filterMap id (some row :: rs.drop (i + 1)) = row :: List.filterMap id (rs.drop (i + 1)):=rfl
 rw [e2,List.flatten_cons,List.length_append]
 lia
inductive spCoverS (K:PySem.W.Frag) (vs:List V) (H:Hp) (Q:VK):Prop
 | mk (d h tl fl ql:Addr) (kv:List (Key × V)) (hp:List (Int × Addr)) (cs:di) (F P:List (List Str)) (rs:List (Option (List Int))) (h0:vs = [.ref d,.ref h,.ref tl]) (h1:CovIn K H d h tl fl ql kv hp cs F P rs) (h2:(∀ rows,CovOk kv F rs rows -> ∀ D as H',Same H H' -> H' D = some (.lst (as.map V.ref)) -> LRows (fun _=>False) H' as rows -> Q (.ref D) H')) (h3:((¬ ∃ rows,CovOk kv F rs rows) -> ∀ H',Same H H' -> Q .non H')):spCoverS K vs H Q
noncomputable def wk (K:PySem.W.Frag):Sp:=fun vs H Q _=>spCoverS K vs H Q
section
variable {P:Program} {w:World} {K:PySem.W.Frag} {mg:Str -> Option Value} {base:Heap} {f gT:Addr} {fd dT:FuncData}
theorem scCover:FnScope ["_law_values", "_law_heap", "_law_telling", "_law_word", "_law_a", "_law_b", "_law_rows", "_law_seen", "_law_part", "_law_row", "_law_address"] ["_law_values", "_law_heap", "_law_telling"] (ao uo):=⟨rfl,rfl,rfl,by decide +kernel,rfl,by decide +kernel,by decide +kernel⟩
theorem a2s (C:Con K mg w) (F:Fun K "_law_cover" "_law_cover" uo f fd) (GT:FnOk P w K mg base CX0 1 gT dT ["_law_values", "_law_heap", "_law_part"] (xf K)) (cT:Cal K mg "_law_taken" gT dT ["_law_values", "_law_heap", "_law_part"]):FnOk P w K mg base CX0 2 f fd ["_law_values", "_law_heap", "_law_telling"] (wk K):=by
 refine F.okQ scCover (fun vs H Q E h=>?_) (fun cdv A outer s0 H vs Q E hr h=>?_)
 . obtain ⟨d,h,tl,fl,ql,kv,hp,cs,F,P,rs,rfl,_⟩:=h; rfl
 obtain ⟨d,h,tl,fl,ql,kv,hp,cs,Fs,Ps,rs,rfl,I,qs,qn⟩:=h
 have nd:=scCover.nd
 have hu1:=df hr
 refine ⟨_,ac (bg PassesOwn.never rfl (b8 (K:=K) rfl (ai (ixTk (K:=K) rfl) (qv 2) ad (fun _ _=>rfl))) (rm (K:=K) rfl (au (i:=3) nd rfl (Or.inl rfl)) (au (i:=4) nd rfl (Or.inl rfl)) (au (i:=5) nd rfl (Or.inl rfl))) (ah (bf (ar gf (dl bw (cg hu1 (qv 0) (qv 4) (fun _ _=>rfl)) (cg hu1 (qv 0) (qv 5) (fun _ _=>rfl)) (aq _)) (dl bw (qv 3) bt (aq _)) (aq _)) (ah (aw i3)) bc)))
   (ac (ak (i:=6) nd rfl (Or.inl rfl) (bp ab))
   (ac (ak (i:=7) nd rfl (Or.inl rfl) j6)
   (ac (bg PassesOwn.never rfl (b8 (K:=K) rfl (ai (ixTk (K:=K) rfl) (qv 2) ad (fun _ _=>rfl))) (au (i:=8) nd rfl (Or.inl rfl)) (ac (ak (i:=9) nd rfl (Or.inl rfl) (ax GT hr rfl cT.name cT.keep cT.bind .nil av (af (qv 0) (af (qv 1) (af (qv 8) ab)))))
   (ac (bf (ar a7m (qv 9) i3 (aq _)) (ah (aw i3)) bc)
   (ac (bg PassesOwn.never rfl (b8 (K:=K) rfl (qv 9)) (au (i:=10) nd rfl (Or.inl rfl)) (ac (bf (io hu1 (qv 10) (qv 7)) (ah (aw i3)) bc)
   (ah (fc hu1 (qv 7) (qv 10) dg))))
   (ah (bq (gh (K:=K) rfl PySem.F.plainAttrs_list PySem.F.slot_list_append PySem.F.type_list_append du (qv 6) (af (qv 9) ab))))))))
   (ah (aw (qv 6)))))),?_⟩
 obtain ⟨fas,hfl,hfp⟩:=id I.rF
 obtain ⟨pas,hql,hpp⟩:=id I.rP
 refine ce (a:=tFor _ _ _) fun D1 hN1 hR1_ hC1_=>?_
 refine ⟨_,rfl,tl,_,0,.ref fl,rfl,rfl,I.tell,rfl,fl,rfl,⟨_,SqL.of hfl⟩,?_⟩
 refine bj (xs:=fas.map V.ref) (fun i σ H2=>H2 = H /\ (∀ r ∈ Fs.take i,nj kv r = true) /\ ∃ z3 z4 z5:Option V,σ = [some (.ref d),some (.ref h),some (.ref tl),z3,z4,z5,none,none,none,none,none])
   ⟨rfl,(fun r hr=>by simp at hr),none,none,none,rfl⟩ (fun i σ H2 _ pv=>by rw [pv.1]; exact SqL.of hfl) ?_ ?_
 . rintro i x σ H2 hi ⟨rfl,hol,z3,z4,z5,rfl⟩
   obtain ⟨b',hb,rfl⟩:=ee hi
   obtain ⟨r,hr1',hr2'⟩:=Paired.nth hfp hb
   have hrm:=List.mem_of_getElem? hr1'
   obtain ⟨hva,hna⟩:=I.Fv r hrm
   obtain ⟨k,u,v,rfl,hk⟩:=I.Fr r hrm
   have htk:Fs.take (i + 1) = Fs.take i ++ [[k,u,v]]:=by rw [List.take_add_one,hr1']; rfl
   have val:∀ y ∈ [u,v],valV kv (Sum.inr y) = some (.int (vI kv y)):=fun y hy=>I.num.at_ ((hva y hy).resolve_left (fun z=>hna (z ▸ hy)))
   have hu0:=val u (List.mem_cons_self ..)
   have hv0:=val v (List.mem_cons_of_mem _ (List.mem_cons_self ..))
   refine ⟨b',_,rfl,hr2',rfl,_,_,rfl,_,_,rfl,_,_,rfl,rfl,?_⟩
   refine ⟨_,rfl,_,rfl,d,_,rfl,hu0 ▸ DGet.k (k:=Sum.inr u) I.vals,_,rfl,_,rfl,d,_,rfl,hv0 ▸ DGet.k (k:=Sum.inr v) I.vals,rfl,_,rfl,rfl,rfl,_,rfl,?_⟩
   have e1:nj kv [k,u,v] = (decide (V.int (vI kv u) = V.int (vI kv v)) == decide (V.str k = V.str "is")):=by
     show (decide (vI kv u = vI kv v) == decide (k = "is")) = _
     congr 1
     . by_cases e:vI kv u = vI kv v
       . rw [decide_eq_true e,decide_eq_true (by rw [e])]
       . rw [decide_eq_false e,decide_eq_false (fun z=>e (V.int.inj z))]
     . by_cases e:k = "is"
       . rw [decide_eq_true e,decide_eq_true (by rw [e])]
       . rw [decide_eq_false e,decide_eq_false (fun z=>e (V.str.inj z))]
   refine iteB (fun c=>?_) (fun c=>?_)
   . refine hR1_ _ _ (qn (fun ⟨rows,h⟩=>?_) H2 (Same.refl _))
     have:=h.facts _ hrm
     rw [e1] at this
     have c':¬ decide (V.int (vI kv u) = V.int (vI kv v)) = decide (V.str k = V.str "is"):=by simpa using c
     exact c' (by simpa using this)
   . refine ⟨rfl,fun r hr=>?_,_,_,_,rfl⟩
     rw [htk] at hr
     rcases List.mem_append.mp hr with z | z
     . exact hol r z
     . rw [List.mem_singleton.mp z,e1]
       have c':decide (V.int (vI kv u) = V.int (vI kv v)) = decide (V.str k = V.str "is"):=by simpa using c
       rw [c']; simp
 rintro σ H2 ⟨rfl,hol,z3,z4,z5,rfl⟩
 refine hN1 _ _ ?_
 clear hN1 hR1_ hC1_ D1
 have hfal:=Paired.length hfp
 rw [List.length_map,hfal,List.take_length] at hol
 refine ⟨Nat.zero_le _,fun rl hrl=>?_⟩
 have s1:=ae hrl (.lst [])
 intro sd hsd
 have s2:=ae hsd (.dK [])
 have e2:=s1.trans s2
 have hrs:rl ≠ sd:=fun z=>by rw [<- z,aa] at hsd; cases hsd
 have hsd0:H2 sd = none:=s1.free hsd
 have hrl2:(upd (upd H2 rl (.lst [])) sd (.dK [])) rl = some (.lst (([]:List Addr).map V.ref)):=s2 _ _ aa
 have hsd2:(upd (upd H2 rl (.lst [])) sd (.dK [])) sd = some (.dK (sk [])):=aa
 generalize upd (upd H2 rl (.lst [])) sd (.dK []) = H3 at e2 hrl2 hsd2 |-
 refine ⟨_,rfl,tl,_,1,.ref ql,rfl,rfl,e2.seqT I.tell,rfl,ql,rfl,⟨_,SqL.of (e2 _ _ hql)⟩,?_⟩
 have hpal:=Paired.length hpp
 refine bj (xs:=pas.map V.ref) (fun i σ H4=>Same H2 H4 /\ Ex5 fun (as:List Addr) (rows:List (List Int)) (z8 z9 z10:Option V)=>And6 (H4 rl = some (.lst (as.map V.ref))) (H4 sd = some (.dK (sk rows.flatten))) (LRows (fun a=>a = rl \/ a = sd) H4 as rows) (rows.map some = rs.take i) (rows.flatten.Nodup) (σ = [some (.ref d),some (.ref h),some (.ref tl),z3,z4,z5,some (.ref rl),some (.ref sd),z8,z9,z10]))
   ⟨e2,[],[],none,none,none,hrl2,hsd2,.nil,rfl,.nil,rfl⟩ (fun i σ H4 _ pv=>SqL.of (pv.1 _ _ hql)) ?_ ?_
 . rintro i x σ H4 hi ⟨e4,as,rows,z8,z9,z10,hrl4,hsd4,hLR,hrt,hnd,rfl⟩
   obtain ⟨b',hb,rfl⟩:=ee hi
   obtain ⟨r,hr1',hr2'⟩:=Paired.nth hpp hb
   have hrm:=List.mem_of_getElem? hr1'
   obtain ⟨o,ho1,ho2⟩:=Paired.nth I.res hr1'
   obtain ⟨hva,hpl,hen⟩:=I.Pv r hrm
   have hil:i < Ps.length:=(List.getElem?_eq_some_iff.mp hr1').1
   have hP100:=I.fewP
   have hasl:as.length <= 100:=by
     have h1:=Paired.length hLR
     have h2:(rows.map some).length = (rs.take i).length:=by rw [hrt]
     rw [List.length_map,List.length_take] at h2
     lia
   have noneq:∀ {rows':List (List Int)},CovOk kv Fs rs rows' -> o ≠ none:=fun {rows'} hc z=>by
     rw [z,hc.all,List.getElem?_map] at ho1
     cases hz:rows'[i]? with
     | none=>rw [hz] at ho1; cases ho1
     | some y=>rw [hz] at ho1; cases ho1
   refine ⟨_,rfl,_,rfl,_,rfl,d,h,b',kv,hp,cs,r,o,rfl,e4 _ _ I.vals,I.num,e4 _ _ I.heap,I.cells.same e4,RowAt.same hr2' e4,I.Pr r hrm,hpl,hen,hva,ho2,fun hn H5 e5=>?_,fun row hrow D H5 hD0 e5 hD5=>?_⟩
   . refine ⟨_,rfl,rfl,_,rfl,iteB (fun _=>?_) (fun c=>by simp at c)⟩
     exact qn (fun ⟨rows',hc⟩=>noneq hc hn) _ (e4.trans e5)
   . subst hrow
     have hDrl:D ≠ rl:=fun z=>by rw [z,hrl4] at hD0; cases hD0
     have hDsd:D ≠ sd:=fun z=>by rw [z,hsd4] at hD0; cases hD0
     have hfew:=a0u hrt ho1
     have hfw:=I.few
     refine ⟨_,rfl,rfl,_,rfl,iteB (fun c=>by simp at c) (fun _=>?_)⟩
     refine ⟨_,rfl,D,rfl,⟨_,SqL.of hD5⟩,?_⟩
     refine bj (xs:=row.map V.int) (fun j σ H6=>Same H2 H6 /\ H6 rl = some (.lst (as.map V.ref)) /\ H6 D = some (.lst (row.map V.int)) /\ LRows (fun a=>a = rl \/ a = sd) H6 as rows /\ H6 sd = some (.dK (sk (rows.flatten ++ row.take j))) /\ (rows.flatten ++ row.take j).Nodup /\ ∃ z10:Option V,σ = [some (.ref d),some (.ref h),some (.ref tl),z3,z4,z5,some (.ref rl),some (.ref sd),some (.ref b'),some (.ref D),z10])
       ⟨e4.trans e5,e5 _ _ hrl4,hD5,hLR.same e5,by rw [List.take_zero,List.append_nil]; exact e5 _ _ hsd4,by rw [List.take_zero,List.append_nil]; exact hnd,_,rfl⟩ (fun j σ H6 _ pv=>SqL.of pv.2.2.1) ?_ ?_
     . rintro j y σ H6 hj ⟨e6,hrl6,hD6,hLR6,hsd6,hnd6,z10,rfl⟩
       have hjl:j < row.length:=by have:=(List.getElem?_eq_some_iff.mp hj).1; rw [List.length_map] at this; exact this
       obtain rfl:y = .int row[j]:=by
         rw [List.getElem?_map,List.getElem?_eq_getElem hjl] at hj
         exact (Option.some.inj hj).symm
       have etj:row.take (j + 1) = row.take j ++ [row[j]]:=by rw [List.take_add_one,List.getElem?_eq_getElem hjl]; rfl
       refine ⟨_,rfl,_,rfl,sd,_,rfl,DGet.k (k:=Sum.inl row[j]) hsd6,_,rfl,?_⟩
       rw [a02]
       refine iteB (fun c=>?_) (fun c=>?_)
       . refine qn (fun ⟨rows',hc⟩=>?_) _ e6
         obtain ⟨rest,hre⟩:=zf hc.all hrt ho1
         have hnn:=hc.nd
         rw [hre,List.flatten_append,List.flatten_cons,<- List.append_assoc] at hnn
         have hn1:=(List.nodup_append.mp hnn).1
         have hx:=of_decide_eq_true c
         rcases List.mem_append.mp hx with z | z
         . exact absurd rfl ((List.nodup_append.mp hn1).2.2 _ z _ (List.getElem_mem hjl))
         . have hn2:=(List.nodup_append.mp hn1).2.1
           have hn3:(row.take (j + 1)).Nodup:=List.Sublist.nodup (List.take_sublist _ _) hn2
           rw [etj] at hn3
           exact absurd rfl ((List.nodup_append.mp hn3).2.2 _ z _ (List.mem_singleton.mpr rfl))
       . have hx:=of_decide_eq_false c
         have hlen:(sk (rows.flatten ++ row.take j)).length <= 1000:=by
           unfold sk
           rw [List.length_map,List.length_append,List.length_take]
           lia
         refine ⟨_,rfl,_,rfl,sd,_,rfl,DPut.k (k:=Sum.inl row[j]) hsd6 (bm hlen),?_⟩
         rw [a88 hx]
         refine ⟨bi hsd0 e6 _,by rw [ag hrs]; exact hrl6,by rw [ag hDsd]; exact hD6,hLR6.put (.inr rfl) _,by rw [aa,etj,List.append_assoc],?_,_,rfl⟩
         rw [etj,<- List.append_assoc]
         refine List.nodup_append.mpr ⟨hnd6,by simp,fun a ha b hb=>?_⟩
         rw [List.mem_singleton.mp hb]
         exact fun z=>hx (z ▸ ha)
     . rintro σ H6 ⟨e6,hrl6,hD6,hLR6,hsd6,hnd6,z10,rfl⟩
       rw [List.length_map,List.take_length] at hsd6 hnd6
       refine ⟨_,rfl,.inl ⟨rfl,_,SqL.of hrl6⟩,_,rfl,rl,_,_,rfl,rfl,hrl6,bm (by rw [List.length_map]; lia),?_⟩
       refine ⟨bi hrl e6 _,as ++ [D],rows ++ [row],_,_,_,by rw [aa,List.map_append]; rfl,by rw [ag (Ne.symm hrs),List.flatten_append,List.flatten_singleton]; exact hsd6,Paired.snocP (hLR6.put (.inl rfl) _) ⟨by rw [ag hDrl]; exact hD6,fun z=>z.elim hDrl hDsd⟩,?_,?_,rfl⟩
       . rw [List.map_append,hrt,List.take_add_one,ho1]; rfl
       . rw [List.flatten_append,List.flatten_singleton]; exact hnd6
 . rintro σ H4 ⟨e4,as,rows,z8,z9,z10,hrl4,hsd4,hLR,hrt,hnd,rfl⟩
   have hrl':=Paired.length I.res
   rw [List.length_map,hpal,hrl',List.take_length] at hrt
   exact ⟨_,rfl,qs rows ⟨hol,hrt.symm,hnd⟩ rl as H4 e4 hrl4 (Paired.mapP hLR fun _ _ z=>⟨z.1,id⟩)⟩
end
theorem lenK {X:Cx} {K:PySem.W.Frag} (h:X.K = K):bx X (.builtin "len") (fun xs H Q => ∃ p ys,xs = [.ref p] /\ (SqL K H p ys \/ SqT K H p ys) /\ Q (.int ys.length) H):=by subst h; exact kg
inductive spFitsS (K:PySem.W.Frag) (vs:List V) (H:Hp) (Q:VK):Prop
 | mk (d h tl fl ql:Addr) (kv:List (Key × V)) (hp:List (Int × Addr)) (cs:di) (F P:List (List Str)) (rs:List (Option (List Int))) (h0:vs = [.ref d,.ref h,.ref tl]) (h1:CovIn K H d h tl fl ql kv hp cs F P rs) (h2:∀ (b:Bool) H',Same H H' -> (b = true ↔ ∃ rows,CovOk kv F rs rows /\ rows.flatten.length = cs.length) -> Q (.bl b) H'):spFitsS K vs H Q
noncomputable def a0z (K:PySem.W.Frag):Sp:=fun vs H Q _=>spFitsS K vs H Q
section
variable {P:Program} {w:World} {K:PySem.W.Frag} {mg:Str -> Option Value} {base:Heap} {f gC:Addr} {fd dC:FuncData}
theorem scFits:FnScope ["_law_values", "_law_heap", "_law_telling", "_law_rows"] ["_law_values", "_law_heap", "_law_telling"] (ao yc):=⟨rfl,rfl,rfl,by decide +kernel,rfl,by decide +kernel,by decide +kernel⟩
theorem a5f (C:Con K mg w) (F:Fun K "_law_fits" "_law_fits" yc f fd) (GC:FnOk P w K mg base CX0 2 gC dC ["_law_values", "_law_heap", "_law_telling"] (wk K)) (cC:Cal K mg "_law_cover" gC dC ["_law_values", "_law_heap", "_law_telling"]):FnOk P w K mg base CX0 3 f fd ["_law_values", "_law_heap", "_law_telling"] (a0z K):=by
 refine F.okQ scFits (fun vs H Q E h=>?_) (fun cdv A outer s0 H vs Q E hr h=>?_)
 . obtain ⟨d,h,tl,fl,ql,kv,hp,cs,F,P,rs,rfl,_⟩:=h; rfl
 obtain ⟨d,h,tl,fl,ql,kv,hp,cs,Fs,Ps,rs,rfl,I,q⟩:=h
 have nd:=scFits.nd
 refine ⟨_,ac (ak (i:=3) nd rfl (Or.inl rfl) (ax GC hr rfl cC.name cC.keep cC.bind .nil av (af (qv 0) (af (qv 1) (af (qv 2) ab)))))
   (ah (aw (ue (dl a6a (qv 3) i3 (aq _)) (km (dl bw (b0 (qu rfl) rfl C.sum PyProof.Rows.boot_sum (gn (tq (b8 (K:=K) rfl (qv 3)) (fun _ _ _ _=>a6q) (fun _ _ _ _=>(b0 (lenK (K:=K) rfl) rfl C.len PySem.boot_len (af (qv 0) ab)))) ab)) (b0 lnDk rfl C.len PySem.boot_len (af (qv 1) ab)) (aq _)))))),?_⟩
 refine ⟨_,rfl,_,rfl,_,rfl,d,h,tl,fl,ql,kv,hp,cs,Fs,Ps,rs,rfl,I,fun rows hc D as H1 e1 hD1 hLR=>?_,fun hn H1 e1=>?_⟩
 . refine ⟨_,rfl,rfl,_,rfl,iteB (fun _=>?_) (fun c=>by simp at c)⟩
   have hll:=Paired.length hLR
   have hrl:rows.length <= 100:=by
     have h1:=Paired.length I.res
     have h2:=I.fewP
     rw [hc.all,List.length_map] at h1
     lia
   have hfm:rs.filterMap id = rows:=by
     rw [hc.all,List.filterMap_map]
     exact List.filterMap_some
   have hfew:rows.flatten.length <= 900:=by rw [<- hfm]; exact I.few
   have hsum:∀ l:List (List Int),(l.map fun r=>(r.length:Int)).sum = ((l.flatten.length:Nat):Int):=fun l=>by
     induction l with
     | nil=>rfl
     | cons r l ih=>rw [List.map_cons,List.sum_cons,ih,List.flatten_cons,List.length_append]; lia
   have hle:∀ (l:List (List Int)) r,r ∈ l -> r.length <= l.flatten.length:=fun l=>by
     induction l with
     | nil=>intro r hr; cases hr
     | cons y l ih =>
       intro r hr
       rw [List.flatten_cons,List.length_append]
       rcases List.mem_cons.mp hr with rfl | z
       . lia
       . have:=ih r z; lia
   refine ⟨_,rfl,D,rfl,⟨_,SqL.of hD1⟩,?_⟩
   refine a5r (as.map V.ref) (rows.map fun r=>V.int (r.length:Int)) gc (SqL.of hD1) (by rw [List.length_map]; exact Nat.le_of_lt (iw (by lia))) (by rw [List.length_map,List.length_map,hll]) (fun i x y hx hy H2 e2 Q' q'=>?_) fun D1 H2 hD2 e2 hd2=>?_
   . obtain ⟨b,hb,rfl⟩:=ee hx
     obtain ⟨r,hr1',hr2'⟩:=Paired.nth hLR hb
     rw [List.getElem?_map,hr1'] at hy
     have hy':y = .int (r.length:Int):=(Option.some.inj hy).symm
     subst hy'
     have:=q' H2 (Same.refl _)
     refine ⟨_,rfl,b,_,rfl,.inl (SqL.of (e2 _ _ hr2'.1)),?_⟩
     rw [List.length_map]
     exact this
   have e12:=e1.trans e2
   refine ⟨D1,rows.map (fun r=>(r.length:Int)),rfl,SqL.of (by rw [hd2,List.map_map]; rfl),fun n hn=>?_,by rw [List.length_map]; lia,?_⟩
   . obtain ⟨r,hr',rfl⟩:=List.mem_map.mp hn
     have:=hle rows r hr'
     lia
   have hlv:(hv hp).length = cs.length:=by unfold hv; rw [List.length_map]; exact Paired.length I.cells
   refine ⟨_,rfl,h,_,rfl,e12 _ _ I.heap,rfl,q _ H2 e12 ?_⟩
   rw [hsum,hlv,decide_eq_true_eq]
   constructor
   . intro e
     have:=V.int.inj e
     exact ⟨rows,hc,by lia⟩
   . rintro ⟨rows',hc',hl'⟩
     have:rows = rows':=uc (hc.all.symm.trans hc'.all)
     subst this
     rw [hl']
 . refine ⟨_,rfl,rfl,_,rfl,iteB (fun c=>by simp at c) (fun _=>?_)⟩
   exact q false H1 e1 ⟨(fun c=>by cases c),(fun z=>by obtain ⟨rows,hc,_⟩:=z; exact absurd ⟨rows,hc⟩ hn)⟩
end
structure Ready (F P:List (List Str)) (ws:List Str) (kv kv2:List (Key × V)):Prop where
 hF:∀ r ∈ F,cm r
 hP:∀ r ∈ P,PartRow r
 ok:NumOk (ap F) ws kv
 eq:∀ k,valV kv2 k = valV kv k
 dF:∀ r ∈ F,∀ x ∈ r.drop 1,Dom ws x
 dP:∀ r ∈ P,∀ x ∈ r.drop 1,x = "any" \/ Dom ws x
 pl:∀ r ∈ P,Dom ws (place r)
 en:∀ r ∈ P,r.getD 0 "" = "stretch" -> Dom ws (r.getD 2 "")
 any:¬ Dom ws "any"
 nocl:∀ y,¬ Un F P y y
 rdy:∀ (j:Nat) r,P[j]? = some r -> ¬ fi r (ap F) [] -> ¬ w8 F P (neOf F P) j r
theorem ji {kv kv2:List (Key × V)} (h:∀ k,valV kv2 k = valV kv k) (x:Str):vI kv2 x = vI kv x:=by unfold vI; rw [h]
section
variable {F P:List (List Str)} {ws:List Str} {kv kv2:List (Key × V)}
theorem Ready.vi (R:Ready F P ws kv kv2) {x y:Str} (hx:Dom ws x) (hy:Dom ws y):vI kv x = vI kv y ↔ ap F x = ap F y:=by
 have h1:=R.ok.at_ x hx
 have h2:=R.ok.at_ y hy
 rw [<- R.ok.inj x y hx hy]
 unfold vI
 constructor
 . intro e; rw [h1,h2,e]
 . intro e; rw [e]
theorem Ready.nil (R:Ready F P ws kv kv2):vI kv "nil" = 0:=by unfold vI; rw [R.ok.nil]; rfl
theorem Ready.lt (R:Ready F P ws kv kv2) {x:Str} (hx:Dom ws x):0 <= vI kv x /\ vI kv x < (ws.length:Int) + 1:=by
 have:=R.ok.lt x hx
 unfold vI
 lia
theorem yg {j:Nat} (h:j ∈ neOf F P):j < P.length:=List.mem_range.mp (List.mem_filter.mp h).1
theorem Ready.places (R:Ready F P ws kv kv2):Places kv ((ws.length:Int) + 1) P (neOf F P):=by
 have gd:∀ {j:Nat},j ∈ neOf F P -> P[j]? = some (P.getD j []):=fun {j} hj=>by
   rw [List.getD_eq_getElem?_getD,List.getElem?_eq_getElem (yg hj)]; rfl
 refine ⟨List.Sublist.nodup List.filter_sublist List.nodup_range,fun j hj=>(R.lt (R.pl _ (List.mem_of_getElem? (gd hj)))).2,fun i hi j hj hij e=>?_⟩
 have hpi:=R.pl _ (List.mem_of_getElem? (gd hi))
 have hpj:=R.pl _ (List.mem_of_getElem? (gd hj))
 exact R.rdy i _ (gd hi) ((gt (gd hi)).mp hi) (.inl ⟨j,hj,Ne.symm hij,_,gd hj,(R.vi hpi hpj).mp e⟩)
theorem pi:∀ {cs:di} {a f s:Int},(cs.map (·.1)).Nodup -> (a,f,s) ∈ cs -> dh cs a = some (f,s)
 | c :: cs,a,f,s,hn,hm=>by
   obtain ⟨h1,h2⟩:=List.nodup_cons.mp hn
   unfold dh
   rcases List.mem_cons.mp hm with z | z
   . rw [<- z]; simp
   . have hne:¬ c.1 = a:=fun w=>h1 (by show c.1 ∈ _; rw [w]; exact List.mem_map.mpr ⟨_,z,rfl⟩)
     have:=pi h2 z
     unfold dh at this
     simp only [List.find?_cons,hne,decide_false]
     exact this
noncomputable def rowN (F P:List (List Str)) (kv:List (Key × V)) (bs:Int) (j:Nat):List Int:=if (!dz P (ap F) j) = true then (er kv bs P j).map (·.1) else []
theorem ld {α:Type} (p:Nat -> Bool) (A:Nat -> List α):∀ l:List Nat,(l.map fun j=>if p j = true then A j else []).flatten = ((l.filter p).map A).flatten
 | []=>rfl
 | j :: l=>by
   have ih:=ld p A l
   rw [List.map_cons,List.flatten_cons,ih]
   cases h:p j with
   | true=>rw [List.filter_cons_of_pos h,List.map_cons,List.flatten_cons,if_pos rfl]
   | false=>rw [List.filter_cons_of_neg (by rw [h]; decide),if_neg (by decide)]; rfl
theorem a1m (bs:Int):(((List.range P.length).map (rowN F P kv bs)).flatten) = (c8 kv bs P (neOf F P)).map (·.1):=by
 have h:=ld (fun n => !dz P (ap F) n) (fun j=>(er kv bs P j).map (·.1)) (List.range P.length)
 unfold c8 neOf
 rw [List.map_flatten,List.map_map]
 exact h
theorem Ready.taken (R:Ready F P ws kv kv2) {j:Nat} {r:List Str} (hj:P[j]? = some r):k7 kv2 (c8 kv ((ws.length:Int) + 1) P (neOf F P)) r (some (rowN F P kv ((ws.length:Int) + 1) j)):=by
 have hrm:=List.mem_of_getElem? hj
 have hpl:=R.pl r hrm
 have hvp:=ji R.eq
 obtain ⟨bs,hbs⟩:∃ bs:Int,(ws.length:Int) + 1 = bs:=⟨_,rfl⟩
 have hg:P.getD j [] = r:=by rw [List.getD_eq_getElem?_getD,hj]; rfl
 have hPl:=R.places
 have lt:=fun {x:Str} (hx:Dom ws x)=>R.lt hx
 rw [hbs] at hPl |-
 simp only [hbs] at lt
 have hnd:=gx hPl
 by_cases he:fi r (ap F) []
 . have hb:dz P (ap F) j = true:=emptyB_iff.mpr ⟨r,hj,he⟩
   have hrow:rowN F P kv bs j = []:=by unfold rowN; rw [hb]; rfl
   rw [hrow]
   refine ⟨fun c=>absurd c he.1,fun c=>⟨1,by decide,?_⟩⟩
   refine .stop 0 _ _ _ _ ?_ (.done 0 [])
   rcases R.hP r hrm with ⟨a,f,s,rfl⟩ | ⟨a,b,rfl⟩ | ⟨a,rfl⟩
   . exact absurd rfl c
   . refine .inl ⟨rfl,?_⟩
     rw [hvp,hvp]
     exact (R.vi hpl (R.en _ hrm rfl)).mpr he.2
   . refine .inr ⟨rfl,?_⟩
     rw [hvp]
     exact ((R.vi hpl (.inl rfl)).mpr he.2).trans R.nil
 . have hne:j ∈ neOf F P:=(gt hj).mpr he
   have hb:dz P (ap F) j = false:=by
     cases hz:dz P (ap F) j with
     | false=>rfl
     | true =>
       obtain ⟨r',h1,h2⟩:=emptyB_iff.mp hz
       rw [hj] at h1
       cases h1
       exact absurd h2 he
   have hrow:rowN F P kv bs j = (c6 kv bs (bs + 2 * (j:Int) + 1) (bs + 2 * (j:Int) + 2) r).map (·.1):=by unfold rowN er; rw [hb,hg]; rfl
   rw [hrow]
   have hin:∀ c ∈ c6 kv bs (bs + 2 * (j:Int) + 1) (bs + 2 * (j:Int) + 2) r,c ∈ c8 kv bs P (neOf F P):=fun c hc=>List.mem_flatten.mpr ⟨_,List.mem_map.mpr ⟨j,hne,rfl⟩,by unfold er; rw [hg]; exact hc⟩
   have hlk:∀ {a f s:Int},(a,f,s) ∈ c6 kv bs (bs + 2 * (j:Int) + 1) (bs + 2 * (j:Int) + 2) r -> dh (c8 kv bs P (neOf F P)) a = some (f,s):=fun {a f s} h=>pi hnd (hin _ h)
   have hp0:=lt hpl
   have hnn:vI kv (place r) ≠ 0:=fun z=>by
     have:=(R.vi hpl (.inl rfl)).mp (z.trans R.nil.symm)
     exact R.rdy j r hj he (.inr this)
   obtain ⟨s0,hs0⟩:∃ s0:Int,bs + 2 * (j:Int) + 1 = s0:=⟨_,rfl⟩
   obtain ⟨s1,hs1⟩:∃ s1:Int,bs + 2 * (j:Int) + 2 = s1:=⟨_,rfl⟩
   have hs01:bs < s0 /\ bs < s1 /\ s0 ≠ s1:=by omega
   clear hin hrow hne
   rw [hs0,hs1] at hlk |-
   rcases R.hP r hrm with ⟨a,y,z,rfl⟩ | ⟨a,b,rfl⟩ | ⟨a,rfl⟩
   . have hcf:c6 kv bs s0 s1 [("cell" : Str),a,y,z] = [(vI kv a,gI kv bs y,gI kv bs z)]:=if_pos rfl
     rw [hcf] at hlk |-
     refine ⟨fun _=>?_,fun c=>absurd rfl c⟩
     have hl:=hlk (List.mem_cons_self ..)
     have may:∀ u:Str,(u = "any" \/ Dom ws u) -> mayW kv2 u (gI kv bs u) = true:=fun u hu=>by
       unfold mayW
       rcases hu with e | e
       . rw [decide_eq_true e]; rfl
       . have:gI kv bs u = vI kv u:=by unfold gI; rw [R.ok.at_ u e]; rfl
         rw [this,hvp,decide_eq_true rfl,Bool.or_true]
     have m1:=may y (R.dP _ hrm y (List.mem_cons_of_mem _ (List.mem_cons_self ..)))
     have m2:=may z (R.dP _ hrm z (List.mem_cons_of_mem _ (List.mem_cons_of_mem _ (List.mem_cons_self ..))))
     have e1:vI kv2 (place [("cell" : Str),a,y,z]) = vI kv a:=hvp a
     rw [e1,hl]
     show some [vI kv a] = if (mayW kv2 y (gI kv bs y) && mayW kv2 z (gI kv bs z)) = true then some [vI kv a] else none
     rw [m1,m2]
     rfl
   . have hcf:c6 kv bs s0 s1 [("stretch" : Str),a,b] = [(vI kv a,bs,s0),(s0,bs,vI kv b)]:=by
       unfold c6
       exact (if_neg (show ¬ ("stretch" : Str) = "cell" by decide +kernel)).trans (if_pos rfl)
     rw [hcf] at hlk |-
     refine ⟨fun c=>absurd c (show ¬ ("stretch" : Str) = "cell" by decide +kernel),fun _=>⟨3,by decide,?_⟩⟩
     have hS:decide (([("stretch" : Str),a,b]:List Str).getD 0 "" = "stretch") = true:=decide_eq_true rfl
     have hen:=R.en _ hrm rfl
     have hb0:=lt hen
     have e1:vI kv2 (place [("stretch" : Str),a,b]) = vI kv a:=hvp a
     have hst:∀ x,la kv2 [("stretch" : Str),a,b] x ↔ x = vI kv b:=fun x=>by
       constructor
       . rintro (⟨_,z⟩ | ⟨z,_⟩)
         . rw [z]; exact hvp b
         . exact absurd z (show ¬ ("stretch" : Str) = "tree" by decide +kernel)
       . intro z; exact .inl ⟨rfl,z.trans (hvp b).symm⟩
     have hab:vI kv a ≠ vI kv b:=fun z=>he ⟨(show ¬ ("stretch" : Str) = "cell" by decide +kernel),(R.vi hpl hen).mp z⟩
     have hp0':vI kv a < bs:=hp0.2
     have hb0':vI kv b < bs:=hb0.2
     rw [hS,e1]
     refine .step 2 _ bs s0 _ _ _ (fun z=>hab ((hst _).mp z)) (hlk (List.mem_cons_self ..)) (by simp) ?_
     refine .step 1 _ bs (vI kv b) _ _ _ (fun z=>?_) (hlk (List.mem_cons_of_mem _ (List.mem_cons_self ..))) (by simp; omega) ?_
     . have:=(hst _).mp z; omega
     exact .stop 0 _ _ _ _ ((hst _).mpr rfl) (.done 0 _)
   . have hcf:c6 kv bs s0 s1 [("tree" : Str),a] = [(vI kv a,s0,s1),(s0,0,0),(s1,0,0)]:=by
       unfold c6
       exact (if_neg (show ¬ ("tree" : Str) = "cell" by decide +kernel)).trans (if_neg (show ¬ ("tree" : Str) = "stretch" by decide +kernel))
     rw [hcf] at hlk |-
     refine ⟨fun c=>absurd c (show ¬ ("tree" : Str) = "cell" by decide +kernel),fun _=>⟨7,by decide,?_⟩⟩
     have hS:decide (([("tree" : Str),a]:List Str).getD 0 "" = "stretch") = false:=decide_eq_false (show ¬ ("tree" : Str) = "stretch" by decide +kernel)
     have e1:vI kv2 (place [("tree" : Str),a]) = vI kv a:=hvp a
     have hst:∀ x,la kv2 [("tree" : Str),a] x ↔ x = 0:=fun x=>by
       constructor
       . rintro (⟨z,_⟩ | ⟨_,z⟩)
         . exact absurd z (show ¬ ("tree" : Str) = "stretch" by decide +kernel)
         . exact z
       . intro z; exact .inr ⟨rfl,z⟩
     have hnn':vI kv a ≠ 0:=hnn
     have hp1':0 <= vI kv a:=hp0.1
     have hp0':vI kv a < bs:=hp0.2
     rw [hS,e1]
     refine .step 6 _ s0 s1 _ _ _ (fun z=>hnn' ((hst _).mp z)) (hlk (List.mem_cons_self ..)) (by simp) ?_
     refine .step 5 _ 0 0 _ _ _ (fun z=>?_) (hlk (List.mem_cons_of_mem _ (List.mem_cons_self ..))) (by simp; omega) ?_
     . have:=(hst _).mp z; omega
     refine .stop 4 _ _ _ _ ((hst _).mpr rfl) (.stop 3 _ _ _ _ ((hst _).mpr rfl) ?_)
     refine .step 2 _ 0 0 _ _ _ (fun z=>?_) (hlk (List.mem_cons_of_mem _ (List.mem_cons_of_mem _ (List.mem_cons_self ..)))) (by simp; omega) ?_
     . have:=(hst _).mp z; omega
     exact .stop 1 _ _ _ _ ((hst _).mpr rfl) (.stop 0 _ _ _ _ ((hst _).mpr rfl) (.done 0 _))
theorem Ready.facts (R:Ready F P ws kv kv2):∀ r ∈ F,nj kv2 r = true:=fun r hr=>by
 have hd:=R.dF r hr
 obtain ⟨k,u,v,rfl,hk⟩:=R.hF r hr
 have hu:=hd u (List.mem_cons_self ..)
 have hv:=hd v (List.mem_cons_of_mem _ (List.mem_cons_self ..))
 show (decide (vI kv2 u = vI kv2 v) == decide (k = "is")) = true
 rw [ji R.eq,ji R.eq]
 rcases hk with rfl | rfl
 . rw [decide_eq_true ((R.vi hu hv).mpr ((cy R.hF _ _).mpr (.fact hr))),decide_eq_true rfl]; rfl
 . have:¬ vI kv u = vI kv v:=fun z=>by
     have c:=(cy R.hF _ _).mp ((R.vi hu hv).mp z)
     exact R.nocl v ((cu F P).conn _ _ _ c.symm ((cu F P).fact _ _ hr))
   rw [decide_eq_false this,decide_eq_false (show ¬ ("not" : Str) = "is" by decide +kernel)]; rfl
theorem Ready.fits (R:Ready F P ws kv kv2) (hP15:P.length <= 15):∃ rs:List (Option (List Int)),Paired (fun r o=>k7 kv2 (c8 kv ((ws.length:Int) + 1) P (neOf F P)) r o) P rs /\ (rs.filterMap id).flatten.length <= 900 /\ ∀ F0:List (List Str),(∀ r ∈ F0,r ∈ F) -> ∃ rows,CovOk kv2 F0 rs rows /\ rows.flatten.length = (c8 kv ((ws.length:Int) + 1) P (neOf F P)).length:=by
 obtain ⟨bs,hbs⟩:∃ bs:Int,(ws.length:Int) + 1 = bs:=⟨_,rfl⟩
 have hPl:=R.places
 have htk:=fun {j:Nat} {r:List Str} (h:P[j]? = some r)=>R.taken h
 rw [hbs] at hPl
 simp only [hbs] at htk |-
 have hnd:=gx hPl
 have hfl:=a1m (F:=F) (P:=P) (kv:=kv) bs
 have hlen:(c8 kv bs P (neOf F P)).length <= 45:=by
   have h1:=jt kv bs P (neOf F P)
   have h2:=List.length_filter_le (fun n => !dz P (ap F) n) (List.range P.length)
   rw [List.length_range] at h2
   unfold neOf at h1 |-
   lia
 refine ⟨((List.range P.length).map (rowN F P kv bs)).map some,?_,?_,fun F0 hF0=>⟨(List.range P.length).map (rowN F P kv bs),⟨fun r hr=>R.facts r (hF0 r hr),rfl,?_⟩,?_⟩⟩
 . have key:∀ n (hn:n <= P.length),Paired (fun r o=>k7 kv2 (c8 kv bs P (neOf F P)) r o) (P.take n) (((List.range n).map (rowN F P kv bs)).map some):=fun n=>by
     induction n with
     | zero=>intro _; exact .nil
     | succ n ih =>
       intro hn
       have hs:P[n]? = some P[n]:=List.getElem?_eq_getElem (by lia)
       rw [List.take_add_one,hs,List.range_succ,List.map_append,List.map_append]
       exact Paired.snocP (ih (by lia)) (htk hs)
   have:=key P.length (Nat.le_refl _)
   rw [List.take_length] at this
   exact this
 . rw [List.filterMap_map]
   have e1:List.filterMap (id ∘ some) ((List.range P.length).map (rowN F P kv bs)) = (List.range P.length).map (rowN F P kv bs):=List.filterMap_some
   rw [e1,hfl,List.length_map]
   lia
 . rw [hfl]; exact hnd
 . rw [hfl,List.length_map]
end
end K23
namespace L2
open PySem PySem.Spec PyProof.Rows
section
variable {X:Cx}
theorem rp (hc:X.calm = true):bx X (.builtin "min") (fun vs H Q => ∃ (a:Addr) (ns:List Int),vs = [.ref a] /\ SqT X.K H a (ns.map V.int) /\ ns ≠ [] /\ ∀ M ∈ ns,Q (.int M) H):=by
 intro pins s σ H vs us Q I r h
 obtain ⟨a,ns,rfl,hq,hne,q⟩:=h
 obtain ⟨u,rfl,ru⟩:=r.one
 cases ru
 obtain ⟨its,rv,p,_⟩:=I.tuple hq
 have T:s.heap.IsTuple a its.toArray:=p
 have hl:its.length = ns.length:=by have:=rv.length; rw [List.length_map] at this; lia
 have hn:0 < ns.length:=List.length_pos_iff.mpr hne
 have hat:∀ (i:Nat) (v:Value),its.toArray[i]? = some v -> ∃ t,v = .int (ns.getD i 0) t:=fun i v hv=>by
   have hv':its[i]? = some v:=by simpa using hv
   have hi:i < ns.length:=by rw [<- hl]; exact (List.getElem?_eq_some_iff.mp hv').1
   obtain ⟨w',hw,rw'⟩:=rv.get (show (ns.map V.int)[i]? = some (.int ns[i]) by rw [List.getElem?_map,List.getElem?_eq_getElem hi]; rfl)
   rw [hv'] at hw
   cases hw
   obtain ⟨t,rfl⟩:=rw'
   exact ⟨t,by rw [List.getD_eq_getElem?_getD,List.getElem?_eq_getElem hi]; rfl⟩
 have hax:a < s.heap.objs.size:=by obtain ⟨o,ho,_⟩:=T; exact Heap.lt_size ho
 refine call_min_walk (wpAny_pyIter_tuple T ⟨s.heap.objs.size,_,_,_,_,_,fun i j=>decide (ns.getD i 0 < ns.getD j 0),rfl,Walks.tuple (show X.A.in1.handled = none from I.ok.hd hc) s.heap.objs.size a (Nat.ne_of_lt hax) its.toArray,⟨?_,?_⟩,fun b hb=>?_,by rw [List.size_toArray]; lia,CmpOf.ints_lt (fun i=>ns.getD i 0) hat,fun v h' tk hv hk=>?_⟩)
 . exact ⟨_,Heap.get?_push_size _ rfl,rfl,rfl⟩
 . obtain ⟨o,e,r⟩:=T
   exact ⟨o,Heap.get?_push_of_some _ e,r⟩
 . rw [Heap.size_push]
   simp only [List.mem_cons,List.not_mem_nil,or_false] at hb
   rcases hb with rfl | rfl
   . exact Nat.lt_succ_self _
   . exact Nat.lt_succ_of_lt hax
 . obtain ⟨t,rfl⟩:=hat _ _ hv
   have hb:=argBest_lt (fun i=>ns.getD i 0) (its.toArray.size - 1)
   rw [List.size_toArray] at hb hv
   have hi:argBest (fun i j=>decide (ns.getD i 0 < ns.getD j 0)) (its.length - 1) < ns.length:=by have:=hb.1; lia
   refine ⟨.int _,H,I.kept (t':=tk) fun b o hbo=>hk b o (by simp only [List.mem_cons,List.not_mem_nil,or_false]; exact Nat.ne_of_lt (Heap.lt_size hbo)) (Heap.get?_push_of_some _ hbo),⟨t,rfl⟩,q _ ?_⟩
   rw [List.size_toArray,List.getD_eq_getElem?_getD,List.getElem?_eq_getElem hi]; exact List.getElem_mem hi
inductive rMinS (K:PySem.W.Frag) (vs:List V) (H:Hp) (Q:VK):Prop
 | mk (a:Addr) (ns:List Int) (h0:vs = [.ref a]) (h1:SqT K H a (ns.map V.int)) (h2:ns ≠ []) (h3:∀ M ∈ ns,Q (.int M) H):rMinS K vs H Q
theorem a05 {K:PySem.W.Frag} (hK:X.K = K) (hc:X.calm = true):bx X (.builtin "min") (rMinS K):=by
 subst hK
 intro pins s σ H vs us Q I r hh
 obtain ⟨a,ns,e,h1,h2,h3⟩:=hh
 exact rp hc pins s σ H vs us Q I r ⟨a,ns,e,h1,h2,h3⟩
inductive rClearDS (x:V) (vs:List V) (H:Hp) (Q:VK):Prop
 | mk (a kvs) (h0:x = .ref a) (h1:vs = []) (h2:H a = some (.dK kvs)) (h3:Q .non (upd H a (.dK []))):rClearDS x vs H Q
noncomputable def a6k:V -> List V -> Hp -> VK -> Prop:=fun x vs H Q=>rClearDS x vs H Q
theorem pf:MtR X "dict.clear" a6k:=by
 intro pins s σ H x vs v us Q I rx rv h
 obtain ⟨a,kvs,rfl,rfl,ha,q⟩:=h
 cases rx
 cases rv
 exact a5u I ha fun s' I'=>⟨.non,_,I',rfl,q⟩
theorem js:bx X (.builtin "isinstance") (fun xs H Q => ∃ a kvs,xs = [.ref a,.ty "dict"] /\ H a = some (.dK kvs) /\ Q (.bl true) H):=by
 intro pins s σ H xs us Q I r h
 obtain ⟨a,kvs,rfl,ha,q⟩:=h
 cases r with
 | cons r1 r =>
   cases r with
   | cons r2 r =>
     cases r
     cases r1
     cases r2
     obtain ⟨z,hd,vs,rel,dd⟩:=j4 I.hok ha
     obtain ⟨o,e,hc⟩:=dd.typeIs
     exact IsiPair.dict_dict e hc ⟨.bl true,H,I,rfl,q⟩
end
end L2
namespace K23
open PySem PySem.Spec L2 Mir Kn
noncomputable abbrev rh:Stmt:=top 15
noncomputable abbrev yq:Stmt:=top 28
noncomputable abbrev u9:Stmt:=top 29
noncomputable abbrev u2:Stmt:=top 30
noncomputable abbrev sLaw:Stmt:=top 31
inductive spWholeS (vs:List V) (H:Hp) (Q:VK):Prop
 | mk (n:Int) (h0:vs = [.int n]) (h1:Q (.bl true) H):spWholeS vs H Q
noncomputable def x4:Sp:=fun vs H Q _=>spWholeS vs H Q
structure GoodR (F P:List (List Str)):Prop where
 nocl:∀ y,¬ Un F P y y
 rdy:∀ (j:Nat) r,P[j]? = some r -> ¬ fi r (ap F) [] -> ¬ w8 F P (neOf F P) j r
noncomputable def rj (ka:List (List Key × V)) (r:List Str):Prop:=r.getD 0 "" = "cell" \/ ¬ InT ka (place r) (end2 r)
open Classical in
noncomputable def gz (ka:List (List Key × V)) (r:List Str):Bool:=decide (rj ka r)
open Classical in
theorem standL_iff {ka:List (List Key × V)} {r:List Str}:gz ka r = true ↔ rj ka r:=by unfold gz; exact decide_eq_true_iff
noncomputable def besB (ka:List (List Key × V)) (s r:List Str):Bool:=(valV ka [Sum.inr (place r),Sum.inr (place s)]).isSome
noncomputable def kx (ku:List (List Key × V)) (a:Str):Bool:=(valV ku [Sum.inr a,Sum.inr a]).isSome
noncomputable def xr (ka:List (List Key × V)) (L:List (List Str)):Prop:=(∀ r ∈ L,¬ InT ka (place r) "nil") /\ L.Pairwise fun r s => ¬ InT ka (place r) (place s)
theorem a3a {xs:List Str} {F P:List (List Str)} {ka ku:List (List Key × V)} (hF:∀ r ∈ F,cm r) (hP:∀ r ∈ P,PoolPart xs r) (hka:∀ a ∈ xs,∀ b,InT ka a b ↔ Conn F a b) (hku:∀ a b,InT ku a b ↔ Un F P a b) (tu:Tab xs ku):GoodR F P ↔ ((xs.filter (kx ku)) = [] /\ xr ka (P.filter (gz ka))):=by
 have st:∀ r ∈ P,(gz ka r = true ↔ ¬ fi r (ap F) []):=fun r hr=>by
   have hx:=(hP r hr).place
   rw [standL_iff]
   unfold rj fi
   rw [hka _ hx,cy hF]
   constructor
   . rintro (z | z) ⟨y1,y2⟩
     . exact y1 z
     . exact z y2
   . intro z
     by_cases c:r.getD 0 "" = "cell"
     . exact .inl c
     . exact .inr fun y=>z ⟨c,y⟩
 have al:∀ r ∈ P,∀ b,InT ka (place r) b ↔ ap F (place r) = ap F b:=fun r hr b=>by rw [hka _ (hP r hr).place,cy hF]
 constructor
 . intro G
   refine ⟨List.eq_nil_iff_forall_not_mem.mpr fun y hy=>G.nocl y ((hku y y).mp (List.mem_filter.mp hy).2),fun r hr z=>?_,?_⟩
   . obtain ⟨h1,h2⟩:=List.mem_filter.mp hr
     obtain ⟨j,hj⟩:=List.mem_iff_getElem?.mp h1
     exact G.rdy j r hj ((st r h1).mp h2) (.inr ((al r h1 _).mp z))
   . rw [List.pairwise_filter,List.pairwise_iff_getElem]
     intro i j hi hj hij h1 h2 z
     have gi:P[i]? = some P[i]:=List.getElem?_eq_getElem hi
     have gj:P[j]? = some P[j]:=List.getElem?_eq_getElem hj
     have mi:=List.getElem_mem hi
     have mj:=List.getElem_mem hj
     exact G.rdy i _ gi ((st _ mi).mp h1) (.inl ⟨j,(gt gj).mpr ((st _ mj).mp h2),by lia,_,gj,(al _ mi _).mp z⟩)
 . rintro ⟨h1,h2,h3⟩
   refine ⟨fun y u=>?_,fun j r hj he hs=>?_⟩
   . have hi:=(hku y y).mpr u
     have:y ∈ xs.filter (kx ku):=List.mem_filter.mpr ⟨(tu.words hi).1,hi⟩
     rw [h1] at this; cases this
   . have hrm:=List.mem_of_getElem? hj
     have hsr:=(st r hrm).mpr he
     rcases hs with ⟨j',hj',hne,s,hs',hh⟩ | hh
     . have hsm:=List.mem_of_getElem? hs'
       have hss:=(st s hsm).mpr ((gt hs').mp hj')
       rw [List.pairwise_filter,List.pairwise_iff_getElem] at h3
       obtain ⟨jl,je⟩:=List.getElem?_eq_some_iff.mp hj
       obtain ⟨jl',je'⟩:=List.getElem?_eq_some_iff.mp hs'
       rcases Nat.lt_or_ge j j' with z | z
       . exact h3 j j' jl jl' z (by rw [je]; exact hsr) (by rw [je']; exact hss) (by rw [je,je']; exact (al r hrm _).mpr hh)
       . exact h3 j' j jl' jl (by lia) (by rw [je']; exact hss) (by rw [je]; exact hsr) (by rw [je,je']; exact (al s hsm _).mpr hh.symm)
     . exact h2 r (List.mem_filter.mpr ⟨hrm,hsr⟩) ((al r hrm _).mpr hh)
theorem ga {l:List Str} (h:∀ x ∈ l,Ok x):EqOk (.list (cn l)):=by
 have h1:PyData.canLayAll0 (cn l) = true:=by
   unfold cn
   induction l with
   | nil=>simp only [List.map_nil,PyData.canLayAll0]
   | cons x l ih =>
     simp only [List.map_cons,PyData.canLayAll0,Bool.and_eq_true]
     exact ⟨h x (List.mem_cons_self ..),ih fun y hy=>h y (List.mem_cons_of_mem _ hy)⟩
 have h2:PyData.depthAll (cn l) <= 0:=by
   clear h h1
   unfold cn
   induction l with
   | nil=>simp only [List.map_nil,PyData.depthAll]; exact Nat.le_refl _
   | cons x l ih=>simp only [List.map_cons,PyData.depthAll,PyData.depth]; exact Nat.max_le.mpr ⟨Nat.le_refl _,ih⟩
 refine ⟨h1,?_⟩
 simp only [PyData.depth]
 lia
theorem a40 (l:List Str):(!(cn l).isEmpty) = decide (0 < l.length):=by
 cases l with
 | nil=>rfl
 | cons x l=>simp [cn]
theorem a39 {k:Str} (h:k = "is" \/ k = "not"):Ok k:=by
 rcases h with rfl | rfl
 . exact (show (PyData.str "is").canLay0 = true by decide +kernel)
 . exact (show (PyData.str "not").canLay0 = true by decide +kernel)
theorem PoolRow.fact {xs:List Str} {r:List Str} (h:PoolRow xs r):cm r:=by
 obtain ⟨k,u,v,h1,h2,_,_⟩:=h
 exact ⟨k,u,v,h1,h2⟩
theorem PoolRow.ok {xs:List Str} (hx:∀ x ∈ xs,Ok x) {r:List Str} (h:PoolRow xs r):∀ y ∈ r,Ok y:=by
 obtain ⟨k,u,v,rfl,h2,h3,h4⟩:=h
 intro y hy
 simp only [List.mem_cons,List.not_mem_nil,or_false] at hy
 rcases hy with rfl | rfl | rfl
 . exact a39 h2
 . exact hx _ h3
 . exact hx _ h4
theorem PoolPart.ok {xs:List Str} (hx:∀ x ∈ xs,Ok x) {r:List Str} (h:PoolPart xs r):∀ y ∈ r,Ok y:=by
 have ha:∀ {f:Str},(f ∈ xs \/ f = "any") -> Ok f:=fun {f} z=>by
   rcases z with z | rfl
   . exact hx _ z
   . exact (show (PyData.str "any").canLay0 = true by decide +kernel)
 rcases h with ⟨a,f,s,rfl,h1,h2,h3⟩ | ⟨a,b,rfl,h1,h2⟩ | ⟨a,rfl,h1⟩
 . intro y hy
   simp only [List.mem_cons,List.not_mem_nil,or_false] at hy
   rcases hy with rfl | rfl | rfl | rfl
   . exact (show (PyData.str "cell").canLay0 = true by decide +kernel)
   . exact hx _ h1
   . exact ha h2
   . exact ha h3
 . intro y hy
   simp only [List.mem_cons,List.not_mem_nil,or_false] at hy
   rcases hy with rfl | rfl | rfl
   . exact (show (PyData.str "stretch").canLay0 = true by decide +kernel)
   . exact hx _ h1
   . exact hx _ h2
 . intro y hy
   simp only [List.mem_cons,List.not_mem_nil,or_false] at hy
   rcases hy with rfl | rfl
   . exact (show (PyData.str "tree").canLay0 = true by decide +kernel)
   . exact hx _ h1
theorem a1l {α β:Type} {R:α -> β -> Prop} (n:Nat) {l:List α} {m:List β} (h:Paired R l m):Paired R (l.take n) (m.take n):=by
 induction h generalizing n with
 | nil=>rw [List.take_nil,List.take_nil]; exact .nil
 | cons h t ih =>
   cases n with
   | zero=>exact .nil
   | succ n=>rw [List.take_succ_cons,List.take_succ_cons]; exact .cons h (ih n)
theorem a6x {α:Type} (l:List α) {i:Nat} (h:i <= l.length):(l.drop (HT.sIx l.length 0 none)).take (HT.sIx l.length l.length (some (i:Int)) - HT.sIx l.length 0 none) = l.take i:=by
 have e1:HT.sIx l.length 0 none = 0:=rfl
 have e2:HT.sIx l.length l.length (some (i:Int)) = i:=by
   unfold HT.sIx
   simp only
   rw [if_neg (by lia),Int.toNat_natCast]
   lia
 rw [e1,e2,List.drop_zero,Nat.sub_zero]
inductive spGoodS (K:PySem.W.Frag) (vs:List V) (H:Hp) (Q:VK):Prop
 | mk (fl ql pl:Addr) (F P:List (List Str)) (xs:List Str) (h0:vs = [.ref fl,.ref ql,.ref pl]) (h1:RowsAt K H fl F) (h2:F.length <= 8) (h3:(∀ r ∈ F,PoolRow xs r)) (h4:RowsAt K H ql P) (h5:P.length <= 6) (h6:(∀ r ∈ P,PoolPart xs r)) (h7:H pl = some (.lst (xs.map V.str))) (h8:xs.length <= 8) (h9:("nil" : Str) ∈ xs) (h10:(∀ x ∈ xs,Ok x)) (h11:∀ (b:Bool) H',Same H H' -> (b = true ↔ GoodR F P) -> Q (.bl b) H'):spGoodS K vs H Q
noncomputable def a06 (K:PySem.W.Frag):Sp:=fun vs H Q _=>spGoodS K vs H Q
section
variable {P:Program} {w:World} {K:PySem.W.Frag} {mg:Str -> Option Value} {base:Heap} {f gW gE:Addr} {fd dW dE:FuncData}
theorem a6h:FnScope ["_law_found"] ["_law_found"] (ao rh):=⟨rfl,rfl,rfl,by decide +kernel,rfl,by decide +kernel,by decide +kernel⟩
theorem a3n (C:Con K mg w) (F:Fun K "_law_whole" "_law_whole" rh f fd):FnOk P w K mg base CX0 1 f fd ["_law_found"] x4:=by
 refine F.okQ a6h (fun vs H Q E h=>?_) (fun cdv A outer s0 H vs Q E hr h=>?_)
 . obtain ⟨n,rfl,_⟩:=h; rfl
 obtain ⟨n,rfl,q⟩:=h
 refine ⟨_,(ah (aw (ue (b0 ux rfl C.isi PyProof.Rows.boot_isinstance (af (qv 0) (af ⟨gty C.int PyProof.Rows.boot_int⟩ ab))) (km (a7i (b0 vc rfl C.isi PyProof.Rows.boot_isinstance (af (qv 0) (af ⟨gty C.bool PyProof.Rows.boot_bool⟩ ab)))))))),?_⟩
 refine ⟨_,rfl,n,rfl,true,rfl,iteB (fun _=>?_) (fun c=>by cases c)⟩
 exact ⟨_,rfl,n,rfl,false,rfl,q⟩
theorem scGood:FnScope ["_law_facts", "_law_parts", "_law_pool", "_law_alike", "_law_unlike", "_law_some", "_law_k"] ["_law_facts", "_law_parts", "_law_pool"] (ao yq):=⟨rfl,rfl,rfl,by decide +kernel,rfl,by decide +kernel,by decide +kernel⟩
theorem a64 (C:Con K mg w) (F:Fun K "_law_good" "_law_good" yq f fd) (GW:FnOk P w K mg base CX0 4 gW dW ["_law_facts", "_law_parts", "_law_pool"] (lr K)) (cW:Cal K mg "_law_known" gW dW ["_law_facts", "_law_parts", "_law_pool"])
   (GE:FnOk P w K mg base CX0 1 gE dE ["_law_part"] (oy K)) (cE:Cal K mg "_law_ends" gE dE ["_law_part"]):FnOk P w K mg base CX0 5 f fd ["_law_facts", "_law_parts", "_law_pool"] (a06 K):=by
 refine F.okQ scGood (fun vs H Q E h=>?_) (fun cdv A outer s0 H vs Q E hr h=>?_)
 . obtain ⟨fl,ql,pl,F,P,xs,rfl,_⟩:=h; rfl
 obtain ⟨fl,ql,pl,Fs,Ps,xs,rfl,hF,hF8,hFr,hQ,hP6,hPr,hX,hx8,hnil,hok,q⟩:=h
 have nd:=scGood.nd
 have hu1:=df hr
 have hu:=Nat.lt_of_le_of_lt (Nat.add_le_add_left (show 32 <= 64 by decide) _) hr.units
 have hr1:=hr.mono (j:=1) (by lia)
 refine ⟨_,ac (kt (kb (ax GW hr rfl cW.name cW.keep cW.bind .nil av (af (qv 0) (af (qv 1) (af (qv 2) ab)))) (gr (K:=K) rfl (au (i:=3) nd rfl (Or.inr rfl)) (au (i:=4) nd rfl (Or.inr rfl)))))
   (ac (bf (ar (neDk (K:=K) rfl hu) (iq ["_law_a", "_law_unlike"] [4] (b8 (K:=K) rfl (qv 2)) (fun _ _ _ _=>(fe (io hu1 (br (af (qv 0) (af (qv 0) ab))) (qv 1)))) (fun _ _ _ _=>(qv 0))) (bp ab) (aq _)) (ah (aw dg)) bc)
   (ac (ak (i:=5) nd rfl (Or.inr rfl) (iq ["_law_part", "_law_alike"] [3] (b8 (K:=K) rfl (qv 1)) (fun _ _ _ _=>(fe (QW.qt (fg (ar bw (ai (ixTK (K:=K) rfl) (qv 0) ad (fun _ _=>rfl)) bt (aq _)) (ft (i4 hu1 (ax GE hr1 rfl cE.name cE.keep cE.bind .nil av (af (qv 0) ab)) (qv 1))))))) (fun _ _ _ _=>(qv 0))))
   (ac (bg PassesOwn.never rfl (cw rfl C.range (bv (b0 (ej (K:=K) rfl) rfl C.len PySem.boot_len (af (qv 5) ab)) ab)) (au (i:=6) nd rfl (Or.inr rfl)) (ac (bf (io hu1 (br (ay (ai (ixTk (K:=K) rfl) (ai (ixKk (K:=K) rfl) (qv 5) (qv 6) (fun _ _=>rfl)) ad (fun _ _=>rfl)) (bd ab))) (qv 3)) (ah (aw dg)) bc)
   (ah (bf (ar (neDk (K:=K) rfl hu) (iq ["_law_part", "_law_some", "_law_k", "_law_alike"] [5,6,3] (b8 (K:=K) rfl (ei (slLk (K:=K) rfl) (qv 5) ge (dk (qv 6)))) (fun _ _ _ _=>(fe (io hu1 (br (ay (ai (ixTK (K:=K) rfl) (qv 0) ad (fun _ _=>rfl)) (ay (ai (ixTK (K:=K) rfl) (ai (ixK (K:=K) rfl) (qv 1) (qv 2) (fun _ _=>rfl)) ad (fun _ _=>rfl)) ab))) (qv 3)))) (fun _ _ _ _=>(qv 0))) (bp ab) (aq _)) (ah (aw dg)) bc))))
   (ah (aw dg))))),?_⟩
 refine ⟨_,rfl,_,rfl,_,rfl,fl,ql,pl,Fs,Ps,xs,rfl,hF,hF8,hFr,hQ,hP6,hPr,hX,hx8,hnil,fun t2 at_ ut ka ku H1 e1 ht1 ha1 hU1 hka hku Tu=>?_⟩
 refine ⟨t2,_,rfl,SqT.of ht1,rfl,_,_,rfl,_,_,rfl,rfl,?_⟩
 intro τ eτ
 obtain rfl:τ = [some (.ref fl),some (.ref ql),some (.ref pl),some (.ref at_),some (.ref ut),none,none]:=eτ
 have hiff:=a3a (fun r hr=>(hFr r hr).fact) hPr hka hku Tu
 have hX1:=e1 _ _ hX
 have hQ1:=hQ.same e1
 dsimp only
 refine ce (a:=tIfS _ _ _) fun D1 hN1 hR1_ hC1_=>?_
 refine ⟨_,rfl,pl,rfl,⟨_,SqL.of hX1⟩,?_⟩
 refine jm xs (kx ku) gc (SqL.of hX1) (by lia) (fun y hy H2 e2 Q' q'=>?_) (fun y H2 Q' q'=>⟨_,rfl,q'⟩) fun D2 H2 hD2 e2 hd2=>?_
 . refine ⟨_,rfl,_,rfl,(show 2 <= sizeLine by decide),fun t3 ht3=>?_⟩
   have s3:=ae ht3 (.tup [.str y,.str y])
   refine ⟨_,rfl,ut,_,rfl,DGet.t (k:=[Sum.inr y,Sum.inr y]) (s3 _ _ (e2 _ _ hU1)) aa,_,rfl,?_⟩
   have:=q' _ s3
   exact this
 refine ⟨Nat.zero_le _,fun ln hln=>?_⟩
 have s3:=ae hln (.lst [])
 refine ⟨.list (cn (xs.filter (kx ku))),.list [],.lst (SqL.of (s3 _ _ hd2)) (ij _),.lst (SqL.of aa) .nil,ga (fun x hx=>hok x (List.mem_filter.mp hx).1),ga (l:=[]) (fun x hx=>by simp at hx),_,rfl,?_⟩
 rw [oz,a40]
 have e13:=e2.trans s3
 clear hd2 s3 hD2 e2
 generalize upd H2 ln (.lst []) = H3 at e13 |-
 clear hln
 refine iteB (fun c=>?_) (fun c=>?_)
 . refine hR1_ _ _ (q false H3 (e1.trans e13) ⟨(fun z=>by cases z),fun G=>?_⟩)
   have:=(hiff.mp G).1
   rw [this] at c
   cases c
 refine hN1 _ _ ?_
 clear hN1 hR1_ hC1_ D1
 have hself:xs.filter (kx ku) = []:=by
   have c':¬ 0 < (xs.filter (kx ku)).length:=of_decide_eq_false c
   exact List.eq_nil_of_length_eq_zero (by lia)
 have hQ3:=hQ1.same e13
 have ha3:=e13 _ _ ha1
 obtain ⟨pas,hql,hpp⟩:=id hQ3
 have hpl:=Paired.length hpp
 refine ce (a:=tAsg _ _) fun D1 hN1 hR1_ hC1_=>?_
 refine ⟨_,rfl,ql,rfl,⟨_,SqL.of hql⟩,?_⟩
 refine mt (pas.map V.ref) Ps (gz ka) (fun H a r=>RowAt K H a r) id gc (SqL.of hql) (by rw [List.length_map]; lia) (by rw [List.length_map]; exact hpl.symm) ni (fun i x r hx hr' H4 e4 Q' q'=>?_) (fun i x r hx hr' hpr H4 e4 Q' q'=>?_) fun D4 H4 as4 hD4 e4 hd4 pr4=>?_
 . obtain ⟨b,hb,rfl⟩:=ee hx
   have hR:RowAt K H4 b r:=(Paired.at2 hpp hb hr').same e4
   have hp:=(hPr r (List.mem_of_getElem? hr')).row
   refine ⟨_,rfl,b,_,0,_,rfl,rfl,hR,hp.at0,rfl,_,rfl,iteB (fun c=>?_) (fun c=>?_)⟩
   . have c':r.getD 0 "" = "cell" := by simpa using c
     have:=q' H4 (Same.refl _)
     rw [standL_iff.mpr (.inl c')] at this
     exact this
   . have c':¬ r.getD 0 "" = "cell" := by simpa using c
     refine ⟨_,rfl,b,r,rfl,hR,hp,fun t5 H5 e5 hT5=>?_⟩
     rw [uf hp c'] at hT5
     refine ⟨_,rfl,at_,_,rfl,DGet.t (k:=[Sum.inr (place r),Sum.inr (end2 r)]) ((e4.trans e5) _ _ ha3) hT5,_,rfl,?_⟩
     have:=q' H5 e5
     have e9:gz ka r = !(valV ka [Sum.inr (place r),Sum.inr (end2 r)]).isSome:=by
       rw [Bool.eq_iff_iff,standL_iff,Bool.not_eq_true']
       constructor
       . rintro (z | z)
         . exact absurd z c'
         . cases hz:(valV ka [Sum.inr (place r),Sum.inr (end2 r)]).isSome with
           | false=>rfl
           | true=>exact absurd hz z
       . intro z
         exact .inr fun y=>by rw [show (valV ka [Sum.inr (place r),Sum.inr (end2 r)]).isSome = true from y] at z; cases z
     rw [e9] at this
     exact this
 . obtain ⟨b,hb,rfl⟩:=ee hx
   exact ⟨_,rfl,q' b H4 (Same.refl _) ((Paired.at2 hpp hb hr').same e4)⟩
 refine hN1 _ _ ?_
 clear hN1 hR1_ hC1_ D1
 rw [List.map_id] at pr4
 obtain ⟨L,hL⟩:∃ L,Ps.filter (gz ka) = L:=⟨_,rfl⟩
 rw [hL] at pr4 hiff
 have hLp:∀ r ∈ L,PoolPart xs r:=fun r hr=>by rw [<- hL] at hr; exact hPr r (List.mem_filter.mp hr).1
 have hLl:L.length <= 6:=by
   have:=List.length_filter_le (gz ka) Ps
   rw [hL] at this
   lia
 have ha4:=e4 _ _ ha3
 have e14:=(e1.trans e13).trans e4
 have hal:=Paired.length pr4
 have hml:(as4.map V.ref).length = L.length:=by rw [List.length_map]; exact hal
 clear e13 hQ3 ha3 hql hpp hD4 e4 hX1 hQ1
 refine ⟨_,rfl,D4,_,rfl,.inl (SqL.of hd4),_,rfl,(by rw [hml]; lia),(by rw [hml]; lia),?_⟩
 rw [hml]
 refine fj (lo:=0) (n:=(L.length:Int).toNat) (fun i σ H5=>Same H4 H5 /\ xr ka (L.take i) /\ ∃ z6:Option V,σ = [some (.ref fl),some (.ref ql),some (.ref pl),some (.ref at_),some (.ref ut),some (.ref D4),z6])
   ⟨Same.refl _,⟨(fun r hr=>by simp at hr),(by rw [List.take_zero]; exact .nil)⟩,none,rfl⟩ ?_ ?_
 . rintro i σ H5 hi ⟨e5,hcl,z6,rfl⟩
   rw [Int.zero_add]
   have hi':i < L.length:=by lia
   have hs:L[i]? = some L[i]:=List.getElem?_eq_getElem hi'
   have hp:=(hLp _ (List.getElem_mem hi')).row
   have hrows:RowsAt K H4 D4 L:=⟨as4,hd4,pr4⟩
   obtain ⟨as5,b5,hd5,hat5,hR5⟩:=em (hrows.same e5) hs
   have et:L.take (i + 1) = L.take i ++ [L[i]]:=by rw [List.take_add_one,hs]; rfl
   refine ⟨_,rfl,_,rfl,D4,_,_,.ref b5,rfl,rfl,SqL.of hd5,hat5,b5,_,1,_,rfl,rfl,hR5,hp.at1,(show 2 <= sizeLine by decide),fun t6 ht6=>?_⟩
   have s6:=ae ht6 (.tup [.str (place L[i]),.str "nil"])
   refine ⟨_,rfl,at_,_,rfl,DGet.t (k:=[Sum.inr (place L[i]),Sum.inr "nil"]) (s6 _ _ (e5 _ _ ha4)) aa,_,rfl,iteB (fun c1=>?_) (fun c1=>?_)⟩
   . refine q false _ (e14.trans (e5.trans s6)) ⟨(fun z=>by cases z),fun G=>?_⟩
     exact ((hiff.mp G).2.1 L[i] (List.getElem_mem hi') c1).elim
   have hnn:¬ InT ka (place L[i]) "nil" := fun z=>by rw [show (valV ka [Sum.inr (place L[i]),Sum.inr "nil"]).isSome = true from z] at c1; cases c1
   have e6:=e5.trans s6
   generalize upd H5 t6 (.tup [.str (place L[i]),.str "nil"]) = H6 at e6 |-
   clear s6 hd5 hat5 hR5 ht6
   have hrows6:=hrows.same e6
   obtain ⟨as6,b6,hd6,hat6,hR6⟩:=em hrows6 hs
   have hd6':=e6 _ _ hd4
   refine ⟨_,rfl,_,rfl,_,rfl,D4,_,rfl,SqL.of hd6',fun p1 hp1=>?_⟩
   have hcv:cutV (as4.map V.ref) none (some (i:Int)) = (as4.take i).map V.ref:=by
     unfold cutV
     rw [a6x _ (by rw [hml]; lia),List.map_take]
   rw [hcv]
   have s7:=ae hp1 (.lst ((as4.take i).map V.ref))
   have hp7:(upd H6 p1 (.lst ((as4.take i).map V.ref))) p1 = some (.lst ((as4.take i).map V.ref)):=aa
   have e7:=e6.trans s7
   generalize upd H6 p1 (.lst ((as4.take i).map V.ref)) = H7 at s7 hp7 e7 |-
   have hpp7:Paired (fun b r=>RowAt K H7 b r) (as4.take i) (L.take i):=Paired.mapP (a1l i pr4) fun _ _ z=>RowAt.same z e7
   have htl:(as4.take i).length <= 6:=by rw [List.length_take]; lia
   refine ⟨p1,rfl,⟨_,SqL.of hp7⟩,?_⟩
   refine mt ((as4.take i).map V.ref) (L.take i) (besB ka L[i]) (fun H a r=>RowAt K H a r) id gc (SqL.of hp7) (by rw [List.length_map]; lia) (by rw [List.length_map]; exact (Paired.length hpp7).symm) ni (fun j x r hx hr' H8 e8 Q' q'=>?_) (fun j x r hx hr' hpr H8 e8 Q' q'=>?_) fun D8 H8 as8 hD8 e8 hd8 pr8=>?_
   . obtain ⟨b,hb,rfl⟩:=ee hx
     have hR:RowAt K H8 b r:=(Paired.at2 hpp7 hb hr').same e8
     have hpr:=(hLp r (List.mem_of_mem_take (List.mem_of_getElem? hr'))).row
     have s78:=s7.trans e8
     refine ⟨_,rfl,b,_,1,_,rfl,rfl,hR,hpr.at1,_,rfl,_,rfl,D4,_,_,.ref b6,rfl,rfl,SqL.of (s78 _ _ hd6),hat6,b6,_,1,_,rfl,rfl,RowAt.same hR6 s78,hp.at1,(show 2 <= sizeLine by decide),fun t9 ht9=>?_⟩
     have s9:=ae ht9 (.tup [.str (place r),.str (place L[i])])
     refine ⟨_,rfl,at_,_,rfl,DGet.t (k:=[Sum.inr (place r),Sum.inr (place L[i])]) (s9 _ _ ((e7.trans e8) _ _ ha4)) aa,_,rfl,?_⟩
     exact q' _ s9
   . obtain ⟨b,hb,rfl⟩:=ee hx
     exact ⟨_,rfl,q' b H8 (Same.refl _) ((Paired.at2 hpp7 hb hr').same e8)⟩
   rw [List.map_id] at pr8
   refine ⟨Nat.zero_le _,fun ln hln=>?_⟩
   have s9:=ae hln (.lst [])
   have hdr:RowsAt K H8 D8 ((L.take i).filter (besB ka L[i])):=⟨as8,hd8,pr8⟩
   refine ⟨.list (((L.take i).filter (besB ka L[i])).map dRow),.list [],(hdr.same s9).dp,.lst (SqL.of aa) .nil,jr (fun r hr=>(hLp r (List.mem_of_mem_take (List.mem_filter.mp hr).1)).ok hok),ga (l:=[]) (fun x hx=>by simp at hx),_,rfl,?_⟩
   rw [oz]
   have e9:=(e7.trans e8).trans s9
   generalize upd H8 ln (.lst []) = H9 at e9 |-
   have hinw:∀ r ∈ L.take i,(besB ka L[i] r = true ↔ InT ka (place r) (place L[i])):=fun r _=>Iff.rfl
   refine iteB (fun c2=>?_) (fun c2=>?_)
   . refine q false _ (e14.trans e9) ⟨(fun z=>by cases z),fun G=>?_⟩
     cases hz:(L.take i).filter (besB ka L[i]) with
     | nil=>rw [hz] at c2; cases c2
     | cons r l =>
       have hr:r ∈ (L.take i).filter (besB ka L[i]):=by rw [hz]; exact List.mem_cons_self ..
       obtain ⟨h1,h2⟩:=List.mem_filter.mp hr
       have hpw:=(hiff.mp G).2.2
       have hpw2:(L.take (i + 1)).Pairwise fun r s => ¬ InT ka (place r) (place s):=List.Pairwise.sublist (List.take_sublist _ _) hpw
       rw [et,List.pairwise_append] at hpw2
       exact absurd ((hinw r h1).mp h2) (hpw2.2.2 r h1 L[i] (List.mem_singleton.mpr rfl))
   . have hnil':(L.take i).filter (besB ka L[i]) = []:=by
       cases hz:(L.take i).filter (besB ka L[i]) with
       | nil=>rfl
       | cons r l=>rw [hz] at c2; cases c2
     refine ⟨e9,⟨fun r hr=>?_,?_⟩,_,rfl⟩
     . rw [et] at hr
       rcases List.mem_append.mp hr with z | z
       . exact hcl.1 r z
       . rw [List.mem_singleton.mp z]; exact hnn
     . rw [et,List.pairwise_append]
       refine ⟨hcl.2,List.pairwise_singleton _ _,fun r hr s hs' z=>?_⟩
       rw [List.mem_singleton.mp hs'] at z
       have:r ∈ (L.take i).filter (besB ka L[i]):=List.mem_filter.mpr ⟨hr,(hinw r hr).mpr z⟩
       rw [hnil'] at this; cases this
 . rintro σ H5 ⟨e5,hcl,z6,rfl⟩
   have hcl':xr ka L:=by
     have:L.take ((L.length:Int).toNat) = L:=by rw [Int.toNat_natCast,List.take_length]
     rw [this] at hcl
     exact hcl
   exact q true H5 (e14.trans e5) ⟨fun _=>hiff.mpr ⟨hself,hcl'⟩,fun _=>rfl⟩
end
end K23
namespace Kn
open PySem PySem.Spec L2
theorem a5g (y:Str):¬ Un [] [] y y:=by
 intro u
 exact u (fun _ _=>False) ⟨(fun u v h=>by cases h),(fun _ _ h=>h),(fun _ _ _ _ h=>h),(fun q hq=>by cases hq),(fun i j q r hi=>by simp at hi)⟩
end Kn
namespace K23
open PySem PySem.Spec L2 Mir Kn
theorem a3f:GoodR [] []:=⟨a5g,fun j r h=>by simp at h⟩
inductive spReadyS (K:PySem.W.Frag) (vs:List V) (H:Hp) (Q:VK):Prop
 | mk (fl ql pl:Addr) (F P:List (List Str)) (xs:List Str) (h0:vs = [.ref fl,.ref ql,.ref pl]) (h1:RowsAt K H fl F) (h2:F.length <= 8) (h3:(∀ r ∈ F,PoolRow xs r)) (h4:RowsAt K H ql P) (h5:P.length <= 6) (h6:(∀ r ∈ P,PoolPart xs r)) (h7:H pl = some (.lst (xs.map V.str))) (h8:xs.length <= 8) (h9:("nil" : Str) ∈ xs) (h10:(∀ x ∈ xs,Ok x)) (h11:∀ t kl sl F' P' H',Same H H' -> H' t = some (.tup [.ref kl,.ref sl]) -> RowsAt K H' kl F' -> RowsAt K H' sl P' -> F'.length <= 8 -> P'.length <= 6 -> (∀ r ∈ F',PoolRow xs r) -> (∀ r ∈ P',PoolPart xs r) -> GoodR F' P' -> Q (.ref t) H'):spReadyS K vs H Q
noncomputable def wj (K:PySem.W.Frag):Sp:=fun vs H Q _=>spReadyS K vs H Q
section
variable {P:Program} {w:World} {K:PySem.W.Frag} {mg:Str -> Option Value} {base:Heap} {f gG:Addr} {fd dG:FuncData}
theorem scReady:FnScope ["_law_facts", "_law_parts", "_law_pool", "_law_kept", "_law_fact", "_law_some", "_law_part"] ["_law_facts", "_law_parts", "_law_pool"] (ao u9):=⟨rfl,rfl,rfl,by decide +kernel,rfl,by decide +kernel,by decide +kernel⟩
theorem a3b (C:Con K mg w) (F:Fun K "_law_ready" "_law_ready" u9 f fd) (GG:FnOk P w K mg base CX0 5 gG dG ["_law_facts", "_law_parts", "_law_pool"] (a06 K)) (cG:Cal K mg "_law_good" gG dG ["_law_facts", "_law_parts", "_law_pool"]):FnOk P w K mg base CX0 6 f fd ["_law_facts", "_law_parts", "_law_pool"] (wj K):=by
 refine F.okQ scReady (fun vs H Q E h=>?_) (fun cdv A outer s0 H vs Q E hr h=>?_)
 . obtain ⟨fl,ql,pl,F,P,xs,rfl,_⟩:=h; rfl
 obtain ⟨fl,ql,pl,Fs,Ps,xs,rfl,hF,hF8,hFr,hQ,hP6,hPr,hX,hx8,hnil,hok,q⟩:=h
 have nd:=scReady.nd
 refine ⟨_,ac (ak (i:=3) nd rfl (Or.inl rfl) (bp ab))
   (ac (bg PassesOwn.never rfl (b8 (K:=K) rfl (qv 0)) (au (i:=4) nd rfl (Or.inl rfl)) (ah (bf (db (ax GG hr rfl cG.name cG.keep cG.bind .nil av (dt (aj dw (qv 3) (bp (af (qv 4) ab))) (a8p ab (af (qv 2) ab))))) (ah (bq (gh (K:=K) rfl PySem.F.plainAttrs_list PySem.F.slot_list_append PySem.F.type_list_append du (qv 3) (af (qv 4) ab)))) bc)))
   (ac (ak (i:=5) nd rfl (Or.inl rfl) (bp ab))
   (ac (bg PassesOwn.never rfl (b8 (K:=K) rfl (qv 1)) (au (i:=6) nd rfl (Or.inl rfl)) (ah (bf (db (ax GG hr rfl cG.name cG.keep cG.bind .nil av (af (qv 3) (dt (aj dw (qv 5) (bp (af (qv 6) ab))) (af (qv 2) ab))))) (ah (bq (gh (K:=K) rfl PySem.F.plainAttrs_list PySem.F.slot_list_append PySem.F.type_list_append du (qv 5) (af (qv 6) ab)))) bc)))
   (ah (aw (br (af (qv 3) (af (qv 5) ab)))))))),?_⟩
 obtain ⟨fas,hfl,hfp⟩:=id hF
 obtain ⟨pas,hql,hpp⟩:=id hQ
 have hfal:=Paired.length hfp
 have hpal:=Paired.length hpp
 refine ⟨Nat.zero_le _,fun kl hkl=>?_⟩
 have s1:=ae hkl (.lst [])
 refine ⟨_,rfl,fl,rfl,⟨_,SqL.of (s1 _ _ hfl)⟩,?_⟩
 refine bj (xs:=fas.map V.ref) (fun i σ H2=>Same H H2 /\ Ex3 fun (as:List Addr) (F':List (List Str)) (z4:Option V)=>And6 (H2 kl = some (.lst (as.map V.ref))) (Paired (fun b r=>RowAt K H2 b r) as F') (F'.length <= i) ((∀ r ∈ F',PoolRow xs r)) (GoodR F' []) (σ = [some (.ref fl),some (.ref ql),some (.ref pl),some (.ref kl),z4,none,none]))
   ⟨s1,[],[],none,aa,.nil,Nat.le_refl _,(fun r hr=>by cases hr),a3f,rfl⟩ (fun i σ H2 _ pv=>SqL.of (pv.1 _ _ hfl)) ?_ ?_
 . rintro i x σ H2 hi ⟨e2,as,F',z4,hk2,hp2,hl2,hr2,hg2,rfl⟩
   obtain ⟨b',hb,rfl⟩:=ee hi
   obtain ⟨r,hr1',hr2'⟩:=Paired.nth hfp hb
   have hil:i < Fs.length:=(List.getElem?_eq_some_iff.mp hr1').1
   have hrr:=hFr r (List.mem_of_getElem? hr1')
   have hal:=Paired.length hp2
   refine ⟨_,rfl,_,rfl,(show 1 <= sizeLine by decide),fun l3 hl3=>?_⟩
   have s3:=ae hl3 (.lst [.ref b'])
   refine ⟨kl,l3,_,_,rfl,rfl,s3 _ _ hk2,aa,(by rw [List.length_map]; exact Nat.le_of_lt (bm (by show _ + 1 <= 1000; lia))),fun c4 hc4=>?_⟩
   have s4:=ae hc4 (.lst (as.map V.ref ++ [.ref b']))
   have hc:(upd (upd H2 l3 (.lst [.ref b'])) c4 (.lst (as.map V.ref ++ [.ref b']))) c4 = some (.lst ((as ++ [b']).map V.ref)):=by rw [aa,List.map_append]; rfl
   have e24:=s3.trans s4
   have hpc:Paired (fun b r=>RowAt K (upd (upd H2 l3 (.lst [.ref b'])) c4 (.lst (as.map V.ref ++ [.ref b']))) b r) (as ++ [b']) (F' ++ [r]):=Paired.snocP (Paired.mapP hp2 fun _ _ z=>RowAt.same z e24) (RowAt.same hr2' (e2.trans e24))
   generalize upd (upd H2 l3 (.lst [.ref b'])) c4 (.lst (as.map V.ref ++ [.ref b'])) = H4 at hc e24 hpc |-
   clear s3 s4 hl3 hc4
   refine ⟨Nat.zero_le _,fun n5 hn5=>?_⟩
   have s5:=ae hn5 (.lst [])
   have hn:RowsAt K (upd H4 n5 (.lst [])) n5 []:=⟨[],aa,.nil⟩
   generalize upd H4 n5 (.lst []) = H5 at s5 hn |-
   have e25:=e24.trans s5
   have e5:=e2.trans e25
   have hrr':∀ r' ∈ F' ++ [r],PoolRow xs r':=fun r' h=>(List.mem_append.mp h).elim (hr2 r') (fun z=>by rw [List.mem_singleton.mp z]; exact hrr)
   refine ⟨_,rfl,c4,n5,pl,F' ++ [r],[],xs,rfl,⟨_,s5 _ _ hc,Paired.mapP hpc fun _ _ z=>RowAt.same z s5⟩,(by rw [List.length_append,List.length_singleton]; lia),hrr',hn,Nat.zero_le _,(fun r hr=>by cases hr),e5 _ _ hX,hx8,hnil,hok,fun bb H6 e6 hbb=>⟨bb,rfl,iteB (fun c=>?_) (fun c=>?_)⟩⟩
   . have hk6:=e6 _ _ (e25 _ _ hk2)
     refine ⟨_,rfl,.inl ⟨rfl,_,SqL.of hk6⟩,_,rfl,kl,_,_,rfl,rfl,hk6,bm (by rw [List.length_map]; lia),?_⟩
     have e26:=e25.trans e6
     refine ⟨bi hkl (e2.trans e26) _,as ++ [b'],F' ++ [r],_,by rw [aa,List.map_append]; rfl,Paired.snocP (Paired.mapP hp2 fun _ _ z=>il hk6 (e26.seqT z)) (il hk6 ((e2.trans e26).seqT hr2')),by rw [List.length_append,List.length_singleton]; lia,hrr',hbb.mp c,rfl⟩
   . have e26:=e25.trans e6
     exact ⟨e2.trans e26,as,F',_,e26 _ _ hk2,Paired.mapP hp2 fun _ _ z=>RowAt.same z e26,by lia,hr2,hg2,rfl⟩
 rintro σ H2 ⟨e2,as,F',z4,hk2,hp2,hl2,hr2,hg2,rfl⟩
 rw [List.length_map,hfal] at hl2
 have hF':RowsAt K H2 kl F':=⟨as,hk2,hp2⟩
 refine ⟨Nat.zero_le _,fun sl hsl=>?_⟩
 have s3:=ae hsl (.lst [])
 have hks:kl ≠ sl:=az hk2 hsl
 refine ⟨_,rfl,ql,rfl,⟨_,SqL.of ((e2.trans s3) _ _ hql)⟩,?_⟩
 refine bj (xs:=pas.map V.ref) (fun i σ H3=>Same H2 H3 /\ Ex3 fun (bs:List Addr) (P':List (List Str)) (z6:Option V)=>And6 (H3 sl = some (.lst (bs.map V.ref))) (Paired (fun b r=>RowAt K H3 b r) bs P') (P'.length <= i) ((∀ r ∈ P',PoolPart xs r)) (GoodR F' P') (σ = [some (.ref fl),some (.ref ql),some (.ref pl),some (.ref kl),z4,some (.ref sl),z6]))
   ⟨s3,[],[],none,aa,.nil,Nat.le_refl _,(fun r hr=>by cases hr),hg2,rfl⟩ (fun i σ H3 _ pv=>SqL.of ((e2.trans pv.1) _ _ hql)) ?_ ?_
 . rintro i x σ H3 hi ⟨e3,bs,P',z6,hk3,hp3,hl3,hr3,hg3,rfl⟩
   obtain ⟨b',hb,rfl⟩:=ee hi
   obtain ⟨r,hr1',hr2'⟩:=Paired.nth hpp hb
   have hil:i < Ps.length:=(List.getElem?_eq_some_iff.mp hr1').1
   have hrr:=hPr r (List.mem_of_getElem? hr1')
   have hal:=Paired.length hp3
   refine ⟨_,rfl,_,rfl,_,rfl,(show 1 <= sizeLine by decide),fun l3 hl3'=>?_⟩
   have s4:=ae hl3' (.lst [.ref b'])
   refine ⟨sl,l3,_,_,rfl,rfl,s4 _ _ hk3,aa,(by rw [List.length_map]; exact Nat.le_of_lt (bm (by show _ + 1 <= 1000; lia))),fun c4 hc4=>?_⟩
   have s5:=ae hc4 (.lst (bs.map V.ref ++ [.ref b']))
   have hc:(upd (upd H3 l3 (.lst [.ref b'])) c4 (.lst (bs.map V.ref ++ [.ref b']))) c4 = some (.lst ((bs ++ [b']).map V.ref)):=by rw [aa,List.map_append]; rfl
   have e34:=s4.trans s5
   have hpc:Paired (fun b r=>RowAt K (upd (upd H3 l3 (.lst [.ref b'])) c4 (.lst (bs.map V.ref ++ [.ref b']))) b r) (bs ++ [b']) (P' ++ [r]):=Paired.snocP (Paired.mapP hp3 fun _ _ z=>RowAt.same z e34) (RowAt.same hr2' ((e2.trans e3).trans e34))
   generalize upd (upd H3 l3 (.lst [.ref b'])) c4 (.lst (bs.map V.ref ++ [.ref b'])) = H4 at hc e34 hpc |-
   clear s4 s5 hl3' hc4
   have e24:=e3.trans e34
   have hrr':∀ r' ∈ P' ++ [r],PoolPart xs r':=fun r' h=>(List.mem_append.mp h).elim (hr3 r') (fun z=>by rw [List.mem_singleton.mp z]; exact hrr)
   refine ⟨_,rfl,kl,c4,pl,F',P' ++ [r],xs,rfl,hF'.same e24,(by lia),hr2,⟨_,hc,hpc⟩,(by rw [List.length_append,List.length_singleton]; lia),hrr',(e2.trans e24) _ _ hX,hx8,hnil,hok,fun bb H6 e6 hbb=>⟨bb,rfl,iteB (fun c=>?_) (fun c=>?_)⟩⟩
   . have e36:=e34.trans e6
     have hk6:=e36 _ _ hk3
     have hsl2:H2 sl = none:=hsl
     refine ⟨_,rfl,.inl ⟨rfl,_,SqL.of hk6⟩,_,rfl,sl,_,_,rfl,rfl,hk6,bm (by rw [List.length_map]; lia),?_⟩
     refine ⟨bi hsl2 (e3.trans e36) _,bs ++ [b'],P' ++ [r],_,by rw [aa,List.map_append]; rfl,Paired.snocP (Paired.mapP hp3 fun _ _ z=>il hk6 (e36.seqT z)) (il hk6 (((e2.trans e3).trans e36).seqT hr2')),by rw [List.length_append,List.length_singleton]; lia,hrr',hbb.mp c,rfl⟩
   . have e36:=e34.trans e6
     exact ⟨e3.trans e36,bs,P',_,e36 _ _ hk3,Paired.mapP hp3 fun _ _ z=>RowAt.same z e36,by lia,hr3,hg3,rfl⟩
 . rintro σ H3 ⟨e3,bs,P',z6,hk3,hp3,hl3,hr3,hg3,rfl⟩
   rw [List.length_map,hpal] at hl3
   refine ⟨_,rfl,_,rfl,(show 2 <= sizeLine by decide),fun t ht=>?_⟩
   have s9:=ae ht (.tup [.ref kl,.ref sl])
   exact q t kl sl F' P' _ ((e2.trans e3).trans s9) aa ((hF'.same e3).same s9) ⟨bs,s9 _ _ hk3,Paired.mapP hp3 fun _ _ z=>RowAt.same z s9⟩ (by lia) (by lia) hr2 hr3 hg3
end
theorem nr {j k:Key} (h:¬ j = k):∀ kvs:List (Key × V),valV (dj kvs k) j = valV kvs j
 | []=>rfl
 | p :: l=>by
   have ih:=nr h l
   unfold dj at ih |-
   by_cases e:p.1 = k
   . rw [List.filter_cons_of_neg (by simp [e]),ih,c5 (fun z=>h (z.symm.trans e))]
   . rw [List.filter_cons_of_pos (by simp [e])]
     by_cases e2:p.1 = j
     . rw [bz e2,bz e2]
     . rw [c5 e2,c5 e2,ih]
theorem Ready.pos {F P:List (List Str)} {ws:List Str} {kv kv2:List (Key × V)} (R:Ready F P ws kv kv2):∀ c ∈ c8 kv ((ws.length:Int) + 1) P (neOf F P),1 <= c.1 /\ 0 <= c.2.1 /\ 0 <= c.2.2:=fun c hc=>by
 obtain ⟨l,hl,hcl⟩:=List.mem_flatten.mp hc
 obtain ⟨j,hj,rfl⟩:=List.mem_map.mp hl
 have gd:P[j]? = some (P.getD j []):=by rw [List.getD_eq_getElem?_getD,List.getElem?_eq_getElem (yg hj)]; rfl
 have hrm:=List.mem_of_getElem? gd
 have he:=(gt gd).mp hj
 unfold er c6 at hcl
 generalize P.getD j [] = r at *
 have hpl:=R.pl r hrm
 have hp0:=R.lt hpl
 have hnn:vI kv (place r) ≠ 0:=fun z=>by
   have:=(R.vi hpl (.inl rfl)).mp (z.trans R.nil.symm)
   exact R.rdy j r gd he (.inr this)
 have hg:∀ x,0 <= gI kv ((ws.length:Int) + 1) x:=fun x=>by
   unfold gI
   split
   . rename_i hs
     obtain ⟨y,h1,h2⟩:=R.ok.no _ hs
     cases Sum.inr.inj h1
     exact (R.lt h2).1
   . lia
 split at hcl
 . rw [List.mem_singleton.mp hcl]
   exact ⟨by show 1 <= vI kv (place r); lia,hg _,hg _⟩
 . split at hcl
   . rename_i hs
     have hen:=R.lt (R.en r hrm hs)
     rcases List.mem_cons.mp hcl with rfl | z
     . exact ⟨by show 1 <= vI kv (place r); lia,by show (0:Int) <= (ws.length:Int) + 1; lia,by show (0:Int) <= (ws.length:Int) + 1 + 2 * (j:Int) + 1; lia⟩
     . rw [List.mem_singleton.mp z]
       exact ⟨by show (1:Int) <= (ws.length:Int) + 1 + 2 * (j:Int) + 1; lia,by show (0:Int) <= (ws.length:Int) + 1; lia,hen.1⟩
   . rcases List.mem_cons.mp hcl with rfl | z
     . exact ⟨by show 1 <= vI kv (place r); lia,by show (0:Int) <= (ws.length:Int) + 1 + 2 * (j:Int) + 1; lia,by show (0:Int) <= (ws.length:Int) + 1 + 2 * (j:Int) + 2; lia⟩
     . rcases List.mem_cons.mp z with rfl | z
       . exact ⟨by show (1:Int) <= (ws.length:Int) + 1 + 2 * (j:Int) + 1; lia,Int.le_refl _,Int.le_refl _⟩
       . rw [List.mem_singleton.mp z]
         exact ⟨by show (1:Int) <= (ws.length:Int) + 1 + 2 * (j:Int) + 2; lia,Int.le_refl _,Int.le_refl _⟩
structure RIn (K:PySem.W.Frag) (H:Hp) (t fl ql nl pl d h:Addr) (F P:List (List Str)) (zs xs:List Str) (kv:List (Key × V)) (ws:List Str) (hp:List (Int × Addr)):Prop where
 tup:H t = some (.tup [.ref d,.ref h])
 ex:Ex K H F P zs d h kv ws hp
 rF:RowsAt K H fl F
 F8:F.length <= 8
 Fr:∀ r ∈ F,PoolRow xs r
 rP:RowsAt K H ql P
 P6:P.length <= 6
 Pr:∀ r ∈ P,PoolPart xs r
 nms:H nl = some (.lst (zs.map V.str))
 zl:zs.length <= 14
 zx:∀ z ∈ zs,z ∈ xs
 pool:H pl = some (.lst (xs.map V.str))
 xl:xs.length <= 8
 nil:("nil" : Str) ∈ xs
 ok:∀ x ∈ xs,Ok x
 word:∀ x ∈ xs,Word x
 good:GoodR F P
inductive spRightS (K:PySem.W.Frag) (vs:List V) (H:Hp) (Q:VK):Prop
 | mk (t fl ql nl pl d h:Addr) (F P:List (List Str)) (zs xs:List Str) (kv:List (Key × V)) (ws:List Str) (hp:List (Int × Addr)) (h0:vs = [.ref t,.ref fl,.ref ql,.ref nl,.ref pl]) (h1:RIn K H t fl ql nl pl d h F P zs xs kv ws hp) (h2:∀ H',Same H H' -> Q (.bl true) H'):spRightS K vs H Q
noncomputable def w4 (K:PySem.W.Frag):Sp:=fun vs H Q _=>spRightS K vs H Q
section
variable {P:Program} {w:World} {K:PySem.W.Frag} {mg:Str -> Option Value} {base:Heap} {f gW gK gF:Addr} {fd dW dK dF:FuncData}
theorem scRight:FnScope ["_law_found", "_law_facts", "_law_parts", "_law_names_here", "_law_pool", "_law_values", "_law_every", "_law_row", "_law_alike", "_law_unlike", "_law_a", "_law_address", "_law_cell"] ["_law_found", "_law_facts", "_law_parts", "_law_names_here", "_law_pool"] (ao u2):=⟨rfl,rfl,rfl,by decide +kernel,rfl,by decide +kernel,by decide +kernel⟩
theorem a2z (C:Con K mg w) (F:Fun K "_law_right" "_law_right" u2 f fd) (GW:FnOk P w K mg base CX0 1 gW dW ["_law_found"] x4) (cW:Cal K mg "_law_whole" gW dW ["_law_found"])
   (GK:FnOk P w K mg base CX0 4 gK dK ["_law_facts", "_law_parts", "_law_pool"] (lr K)) (cK:Cal K mg "_law_known" gK dK ["_law_facts", "_law_parts", "_law_pool"])
   (GF:FnOk P w K mg base CX0 3 gF dF ["_law_values", "_law_heap", "_law_telling"] (a0z K)) (cF:Cal K mg "_law_fits" gF dF ["_law_values", "_law_heap", "_law_telling"]):FnOk P w K mg base CX0 5 f fd ["_law_found", "_law_facts", "_law_parts", "_law_names_here", "_law_pool"] (w4 K):=by
 refine F.okQ scRight (fun vs H Q E h=>?_) (fun cdv A outer s0 H vs Q E hr h=>?_)
 . obtain ⟨t,fl,ql,nl,pl,d,h,F,P,zs,xs,kv,ws,hp,rfl,_⟩:=h; rfl
 obtain ⟨t,fl,ql,nl,pl,d,h,Fs,Ps,zs,xs,kv,ws,hp,rfl,I,q⟩:=h
 have nd:=scRight.nd
 have hu1:=df hr
 have hu:=Nat.lt_of_le_of_lt (Nat.add_le_add_left (show 32 <= 64 by decide) _) hr.units
 have hr1:=hr.mono (j:=1) (by lia)
 have hr3:=hr.mono (j:=3) (by lia)
 refine ⟨_,ac (bf (QW.qt (fg (fz (db (b0 (isTk (K:=K) rfl) rfl C.isi PyProof.Rows.boot_isinstance (af (qv 0) (af ⟨gty C.tuple PyProof.Rows.boot_tuple⟩ ab))))) (ft (ar gf (b0 (ej (K:=K) rfl) rfl C.len PySem.boot_len (af (qv 0) ab)) ad (aq _))))) (ah (aw dg)) bc)
   (ac (bf (QW.qt (fg (fz (db (b0 js rfl C.isi PyProof.Rows.boot_isinstance (ay (ai (ixTk (K:=K) rfl) (qv 0) ad (fun _ _=>rfl)) (af ⟨gty C.dict PyProof.Rows.boot_dict⟩ ab))))) (ft (fz (db (b0 js rfl C.isi PyProof.Rows.boot_isinstance (ay (ai (ixTk (K:=K) rfl) (qv 0) ad (fun _ _=>rfl)) (af ⟨gty C.dict PyProof.Rows.boot_dict⟩ ab)))))))) (ah (aw dg)) bc)
   (ac (ak (i:=5) nd rfl (Or.inr rfl) (cf a8j rfl C.dict PyProof.Rows.boot_dict (ay (ai (ixTk (K:=K) rfl) (qv 0) ad (fun _ _=>rfl)) ab)))
   (ac (fc hu1 (qv 5) bt ad)
   (ac (ak (i:=6) nd rfl (Or.inl rfl) (aj dw (cf (lb (K:=K) rfl) rfl C.list PyProof.Rows.boot_list (af (qv 3) ab)) (bp (bd ab))))
   (ac (bg PassesOwn.never rfl (b8 (K:=K) rfl (aj dw (qv 1) (qv 2))) (au (i:=7) nd rfl (Or.inl rfl)) (ah (ak (i:=6) nd rfl (Or.inl rfl) (aj dw (qv 6) (tq (a6c (K:=K) rfl (ei (slTk (K:=K) rfl) (qv 7) (dk ad) ge)) (fun _ _ _ _=>(fe (ar gf (qv 0) bt (aq _)))) (fun _ _ _ _=>(qv 0)))))))
   (ac (kt (kb (ax GK hr rfl cK.name cK.keep cK.bind .nil av (af (qv 1) (af (qv 2) (af (qv 4) ab)))) (gr (K:=K) rfl (au (i:=8) nd rfl (Or.inr rfl)) (au (i:=9) nd rfl (Or.inl rfl)))))
   (ac (bg PassesOwn.never rfl (b8 (K:=K) rfl (qv 6)) (au (i:=10) nd rfl (Or.inr rfl)) (ah (bf (QW.qt (fg (i4 hu1 (qv 10) (qv 5)) (fg (fz (db (ax GW hr1 rfl cW.name cW.keep cW.bind .nil av (ay (cg hu1 (qv 5) (qv 10) (fun _ _=>rfl)) ab)))) (ft (ar j0 (cg hu1 (qv 5) (qv 10) (fun _ _=>rfl)) ad (aq _)))))) (ah (aw dg)) bc)))
   (ac (bg PassesOwn.never rfl (b8 (K:=K) rfl (qv 6)) (au (i:=10) nd rfl (Or.inr rfl)) (ah (bf (ar (neDk (K:=K) rfl hu) (iq ["_law_b", "_law_values", "_law_alike", "_law_a"] [5,8,10] (b8 (K:=K) rfl (qv 6)) (fun _ _ _ _=>(fe (ar gf (dl bw (cg hu1 (qv 1) (qv 3) (fun _ _=>rfl)) (cg hu1 (qv 1) (qv 0) (fun _ _=>rfl)) (aq _)) (u4 hu1 (br (af (qv 3) (af (qv 0) ab))) (qv 2)) (aq _)))) (fun _ _ _ _=>(qv 0))) (bp ab) (aq _)) (ah (aw dg)) bc)))
   (ac (bg PassesOwn.never rfl (b8 (K:=K) rfl (cf (ldSk rfl) rfl C.list PyProof.Rows.boot_list (ay (ai (ixTk (K:=K) rfl) (qv 0) ad (fun _ _=>rfl)) ab))) (au (i:=11) nd rfl (Or.inl rfl)) (ac (ak (i:=12) nd rfl (Or.inl rfl) (cg hu1 (ai (ixTk (K:=K) rfl) (qv 0) ad (fun _ _=>rfl)) (qv 11) (fun _ _=>rfl)))
   (ac (bf (QW.qt (fg (fz (db (ax GW hr1 rfl cW.name cW.keep cW.bind .nil av (af (qv 11) ab)))) (fg (ar j0 (qv 11) ad (aq _)) (fg (fz (db (b0 (isTk (K:=K) rfl) rfl C.isi PyProof.Rows.boot_isinstance (af (qv 12) (af ⟨gty C.tuple PyProof.Rows.boot_tuple⟩ ab))))) (ft (ar gf (b0 (ej (K:=K) rfl) rfl C.len PySem.boot_len (af (qv 12) ab)) ad (aq _))))))) (ah (aw dg)) bc)
   (ah (bf (QW.qt (fg (fz (db (ax GW hr1 rfl cW.name cW.keep cW.bind .nil av (ay (ai (ixTk (K:=K) rfl) (qv 12) ad (fun _ _=>rfl)) ab)))) (fg (fz (db (ax GW hr1 rfl cW.name cW.keep cW.bind .nil av (ay (ai (ixTk (K:=K) rfl) (qv 12) ad (fun _ _=>rfl)) ab)))) (ft (ar j0 (b0 (a05 (K:=K) rfl rfl) rfl C.min PyProof.Rows.Boot.min (af (qv 12) ab)) ad (aq _)))))) (ah (aw dg)) bc)))))
   (ah (aw (ax GF hr3 rfl cF.name cF.keep cF.bind .nil av (af (qv 5) (ay (ai (ixTk (K:=K) rfl) (qv 0) ad (fun _ _=>rfl)) (gw (af (qv 1) (af (qv 2) ab)) ab))))))))))))))),?_⟩
 have E:=I.ex
 have hrow:∀ r ∈ Fs,cm r:=fun r hr=>(I.Fr r hr).fact
 have hprow:∀ r ∈ Ps,PartRow r:=fun r hr=>(I.Pr r hr).row
 have hF8:=I.F8
 have hP6:=I.P6
 have hzl:=I.zl
 have hxl:=I.xl
 obtain ⟨fas,hfl,hfp⟩:=id I.rF
 obtain ⟨pas,hql,hpp⟩:=id I.rP
 have hfal:=Paired.length hfp
 have hpal:=Paired.length hpp
 have hinF:∀ r ∈ Fs,∀ y ∈ r.drop 1,y ∈ xs:=fun r hr y hy=>by
   obtain ⟨k,u,v,rfl,_,hu,hv⟩:=I.Fr r hr
   rcases List.mem_cons.mp hy with rfl | z
   . exact hu
   . rw [List.mem_singleton.mp z]; exact hv
 have hinP:∀ r ∈ Ps,∀ y ∈ r.drop 1,y = "any" \/ y ∈ xs:=fun r hr y hy=>by
   rcases I.Pr r hr with ⟨a,f,s,rfl,h1,h2,h3⟩ | ⟨a,b,rfl,h1,h2⟩ | ⟨a,rfl,h1⟩
   . rcases List.mem_cons.mp hy with rfl | z
     . exact .inr h1
     . rcases List.mem_cons.mp z with rfl | z2
       . exact h2.symm
       . rw [List.mem_singleton.mp z2]; exact h3.symm
   . rcases List.mem_cons.mp hy with rfl | z
     . exact .inr h1
     . rw [List.mem_singleton.mp z]; exact .inr h2
   . rw [List.mem_singleton.mp hy]; exact .inr h1
 have hanyN:("any" : Str) ∈ Mir.noNames:=by decide +kernel
 have inw:∀ {r:List Str} {x:Str},r ∈ Fs ++ Ps -> x ∈ r.drop 1 -> x ∈ xs -> Dom ws x:=fun {r x} hr hx hxx=>(I.word x hxx).elim .inl (fun z => .inr ((E.mem x).mpr (.inl (mem_words.mpr ⟨r,hr,hx,z⟩))))
 have anyx:¬ ("any" : Str) ∈ xs:=fun z=>(I.word _ z).elim (fun w=>absurd w (by decide +kernel)) (fun w=>w hanyN)
 obtain ⟨kv2,hkv2⟩:∃ kv2,putK (dj kv (Sum.inr "nil")) (Sum.inr "nil") (.int 0) = kv2:=⟨_,rfl⟩
 have heq:∀ k,valV kv2 k = valV kv k:=fun k=>by
   rw [<- hkv2,cx]
   by_cases e:k = Sum.inr ("nil" : Str)
   . rw [if_pos e,e,E.ok.nil]
   . rw [if_neg e,nr e]
 have RD:Ready Fs Ps ws kv kv2:=by
   refine ⟨hrow,hprow,E.ok,heq,fun r hr x hx=>inw (List.mem_append.mpr (.inl hr)) hx (hinF r hr x hx),fun r hr x hx=>(hinP r hr x hx).imp id (fun z=>inw (List.mem_append.mpr (.inr hr)) hx z),fun r hr=>?_,fun r hr c=>?_,fun z=>?_,I.good.nocl,I.good.rdy⟩
   . refine inw (r:=r) (List.mem_append.mpr (.inr hr)) ?_ (I.Pr r hr).place
     rcases hprow r hr with ⟨a,b,c,e⟩ | ⟨a,b,e⟩ | ⟨a,e⟩ <;> (rw [e]; exact List.mem_cons_self ..)
   . rcases I.Pr r hr with ⟨a,f,s,rfl,h1,h2,h3⟩ | ⟨a,b,rfl,h1,h2⟩ | ⟨a,rfl,h1⟩
     . exact absurd c (by show ¬ ("cell" : Str) = "stretch"; decide +kernel)
     . exact inw (List.mem_append.mpr (.inr hr)) (List.mem_cons_of_mem _ (List.mem_cons_self ..)) h2
     . exact absurd c (by show ¬ ("tree" : Str) = "stretch"; decide +kernel)
   . rcases z with z | z
     . exact absurd z (by decide +kernel)
     . rcases (E.mem _).mp z with w | w
       . obtain ⟨r,_,_,h2⟩:=mem_words.mp w
         exact h2 hanyN
       . exact anyx (I.zx _ w)
 obtain ⟨rs,hrs1,hrs2,hrs3⟩:=RD.fits (by lia)
 have hsm:∀ {x:Str},Dom ws x -> valV kv2 (Sum.inr x) = some (.int (vI kv2 x)):=fun {x} hx=>by rw [ji heq,heq]; exact E.ok.at_ x hx
 have hIn:IntsAt kv2:=fun x=>by
   cases hz:valV kv (Sum.inr x) with
   | none=>exact .inl (by rw [heq,hz])
   | some v =>
     obtain ⟨y,h1,h2⟩:=E.ok.no (Sum.inr x) (by rw [hz]; rfl)
     cases Sum.inr.inj h1
     exact .inr (hsm h2)
 refine ⟨_,rfl,t,_,rfl,SqT.of I.tup,true,rfl,iteN rfl ?_⟩
 refine ⟨_,rfl,t,_,rfl,.inr (SqT.of I.tup),rfl,_,rfl,iteB (fun c=>by simp at c) (fun _=>?_)⟩
 refine ⟨_,rfl,t,_,0,.ref d,rfl,rfl,SqT.of I.tup,rfl,d,_,rfl,E.vals,true,rfl,iteN rfl ?_⟩
 refine ⟨_,rfl,t,_,1,.ref h,rfl,rfl,SqT.of I.tup,rfl,h,_,rfl,E.heap,true,rfl,iteN rfl ?_⟩
 refine ⟨_,rfl,t,_,0,.ref d,rfl,rfl,SqT.of I.tup,rfl,d,_,rfl,E.vals,fun d2 hd2=>?_⟩
 have s1:=ae hd2 (.dK (dj kv (Sum.inr "nil")))
 have hkl:(dj kv (Sum.inr "nil")).length <= 1000:=by
   have h1:=E.ok.len
   have h2:=E.few
   have h3:=u6 kv (Sum.inr "nil")
   lia
 refine ⟨_,rfl,d2,_,rfl,DPut.k (k:=Sum.inr "nil") aa (bm hkl),?_⟩
 rw [hkv2]
 have e2:Same H (upd (upd H d2 (.dK (dj kv (Sum.inr "nil")))) d2 (.dK kv2)):=bi hd2 s1 _
 have hD2:(upd (upd H d2 (.dK (dj kv (Sum.inr "nil")))) d2 (.dK kv2)) d2 = some (.dK kv2):=aa
 generalize upd (upd H d2 (.dK (dj kv (Sum.inr "nil")))) d2 (.dK kv2) = H2 at e2 hD2 |-
 clear s1
 refine ⟨_,rfl,nl,_,rfl,.inl (SqL.of (e2 _ _ I.nms)),fun l1 hl1=>?_⟩
 have s3:=ae hl1 (.lst (zs.map V.str))
 refine ⟨(show 1 <= sizeLine by decide),fun l2 hl2=>?_⟩
 have s4:=ae hl2 (.lst [.str "nil"])
 refine ⟨l1,l2,_,_,rfl,rfl,s4 _ _ aa,aa,(by rw [List.length_map]; exact Nat.le_of_lt (bm (by show _ + 1 <= 1000; lia))),fun el0 hel0=>?_⟩
 have s5:=ae hel0 (.lst (zs.map V.str ++ [.str "nil"]))
 have hE5:(upd (upd (upd H2 l1 (.lst (zs.map V.str))) l2 (.lst [.str "nil"])) el0 (.lst (zs.map V.str ++ [.str "nil"]))) el0 = some (.lst ((zs ++ [("nil" : Str)]).map V.str)):=by rw [aa,List.map_append]; rfl
 have e25:=(s3.trans s4).trans s5
 generalize upd (upd (upd H2 l1 (.lst (zs.map V.str))) l2 (.lst [.str "nil"])) el0 (.lst (zs.map V.str ++ [.str "nil"])) = H5 at hE5 e25 |-
 clear s3 s4 s5 hl1 hl2 hel0
 have e5:=e2.trans e25
 have hD5:=e25 _ _ hD2
 dsimp only [bh]
 refine ce (a:=tFor _ _ _) fun D' hN hR' hC'=>?_
 refine ⟨_,rfl,_,rfl,fl,ql,_,_,rfl,rfl,e5 _ _ hfl,e5 _ _ hql,(by rw [List.length_map,List.length_map]; exact Nat.le_of_lt (bm (by lia))),fun cl hcl=>?_⟩
 rw [<- List.map_append]
 have s6:=ae hcl (.lst ((fas ++ pas).map V.ref))
 have hc6:(upd H5 cl (.lst ((fas ++ pas).map V.ref))) cl = some (.lst ((fas ++ pas).map V.ref)):=aa
 have e6:=e5.trans s6
 have hE6:=s6 _ _ hE5
 have hD6:=s6 _ _ hD5
 generalize upd H5 cl (.lst ((fas ++ pas).map V.ref)) = H6 at s6 hc6 e6 hE6 hD6 |-
 refine ⟨cl,rfl,⟨_,SqL.of hc6⟩,?_⟩
 have hprs:Paired (fun b r=>RowAt K H b r) (fas ++ pas) (Fs ++ Ps):=Paired.app hfp hpp
 have hdz:∀ y ∈ zs ++ [("nil" : Str)],y ∈ xs /\ Dom ws y:=fun y hy=>by
   rcases List.mem_append.mp hy with z | z
   . exact ⟨I.zx y z,.inr ((E.mem y).mpr (.inr z))⟩
   . rw [List.mem_singleton.mp z]; exact ⟨I.nil,.inl rfl⟩
 refine bj (xs:=(fas ++ pas).map V.ref) (fun i σ H7=>Same H6 H7 /\ Ex3 fun (el:Addr) (es:List Str) (z7:Option V)=>And4 (H7 el = some (.lst (es.map V.str))) ((∀ y ∈ es,y ∈ xs /\ Dom ws y)) (es.length <= 15 + 3 * i) (σ = [some (.ref t),some (.ref fl),some (.ref ql),some (.ref nl),some (.ref pl),some (.ref d2),some (.ref el),z7,none,none,none,none,none]))
   ⟨Same.refl _,el0,_,none,hE6,hdz,(by rw [List.length_append,List.length_singleton]; lia),rfl⟩ (fun i σ H7 _ pv=>SqL.of (pv.1 _ _ hc6)) ?_ ?_
 . rintro i x σ H7 hi ⟨e7,el,es,z7,hE7,hes,hel,rfl⟩
   obtain ⟨b',hb,rfl⟩:=ee hi
   obtain ⟨r,hr1',hr2'⟩:=Paired.nth hprs hb
   have hrm:=List.mem_of_getElem? hr1'
   have hil:i < (Fs ++ Ps).length:=(List.getElem?_eq_some_iff.mp hr1').1
   rw [List.length_append] at hil
   have hR7:RowAt K H7 b' r:=RowAt.same hr2' (e6.trans e7)
   have hrl:1 <= r.length /\ r.length <= 4:=by
     rcases List.mem_append.mp hrm with z | z
     . obtain ⟨k,u,v,rfl,_⟩:=hrow r z
       exact ⟨(show 1 <= 3 by decide),(show 3 <= 4 by decide)⟩
     . rcases hprow r z with ⟨a,b,c,rfl⟩ | ⟨a,b,rfl⟩ | ⟨a,rfl⟩
       . exact ⟨(show 1 <= 4 by decide),Nat.le_refl _⟩
       . exact ⟨(show 1 <= 3 by decide),(show 3 <= 4 by decide)⟩
       . exact ⟨(show 1 <= 2 by decide),(show 2 <= 4 by decide)⟩
   refine ⟨_,rfl,_,rfl,_,rfl,b',_,rfl,hR7,?_,fun p1 hp1=>?_⟩
   . rintro ⟨z,_⟩
     rw [List.length_map] at z
     have:min 1 r.length = 0:=z
     lia
   rw [show (some (1:Int)) = some ((1:Nat):Int) from rfl,x6]
   have s8:=ae hp1 (.tup ((r.drop 1).map V.str))
   have hp8:SqT K (upd H7 p1 (.tup ((r.drop 1).map V.str))) p1 ((r.drop 1).map V.str):=SqT.of aa
   have e78:=s8
   generalize upd H7 p1 (.tup ((r.drop 1).map V.str)) = H8 at hp8 e78 |-
   clear s8
   refine ⟨p1,rfl,⟨_,hp8⟩,?_⟩
   refine jm (r.drop 1) (fun y => !decide (V.str y = V.str "any")) u1 hp8 (by rw [List.length_drop]; lia) (fun y hy H9 e9 Q' q'=>⟨_,rfl,rfl,_,rfl,q' H9 (Same.refl _)⟩) (fun y H9 Q' q'=>⟨_,rfl,q'⟩) fun D9 H9 hD9 e9 hd9=>?_
   have e79:=e78.trans e9
   have hfl9:((r.drop 1).filter fun y => !decide (V.str y = V.str "any")).length <= 3:=by
     have h1:=List.length_filter_le (fun y => !decide (V.str y = V.str "any")) (r.drop 1)
     rw [List.length_drop] at h1
     lia
   refine ⟨el,D9,_,_,rfl,rfl,e79 _ _ hE7,hd9,(by rw [List.length_map,List.length_map]; exact Nat.le_of_lt (bm (by lia))),fun nel hnel=>?_⟩
   have s10:=ae hnel (.lst (es.map V.str ++ ((r.drop 1).filter fun y => !decide (V.str y = V.str "any")).map V.str))
   refine ⟨(e7.trans e79).trans s10,nel,es ++ (r.drop 1).filter (fun y => !decide (V.str y = V.str "any")),_,by rw [aa,List.map_append],fun y hy=>?_,by rw [List.length_append]; lia,rfl⟩
   rcases List.mem_append.mp hy with z | z
   . exact hes y z
   . obtain ⟨h1,h2⟩:=List.mem_filter.mp z
     have hya:¬ y = "any" := by simpa using h2
     have hyx:y ∈ xs:=by
       rcases List.mem_append.mp hrm with w | w
       . exact hinF r w y h1
       . exact (hinP r w y h1).resolve_left hya
     exact ⟨hyx,inw hrm h1 hyx⟩
 rintro σ H7 ⟨e7,el,es,z7,hE7,hes,hel,rfl⟩
 refine hN _ _ ?_
 clear hN hR' hC' D'
 have hel':es.length <= 60:=by
   have h1:((fas ++ pas).map V.ref).length = fas.length + pas.length:=by rw [List.length_map,List.length_append]
   rw [h1] at hel
   lia
 have e07:=e6.trans e7
 have hD7:=e7 _ _ hD6
 refine ⟨_,rfl,_,rfl,_,rfl,fl,ql,pl,Fs,Ps,xs,rfl,I.rF.same e07,hF8,I.Fr,I.rP.same e07,hP6,I.Pr,e07 _ _ I.pool,hxl,I.nil,fun t8 at_ ut ka ku H8 e8 ht8 ha8 hu8 hka hku Tu=>?_⟩
 refine ⟨t8,_,rfl,SqT.of ht8,rfl,_,_,rfl,_,_,rfl,rfl,?_⟩
 intro τ eτ
 obtain rfl:τ = [some (.ref t),some (.ref fl),some (.ref ql),some (.ref nl),some (.ref pl),some (.ref d2),some (.ref el),z7,some (.ref at_),some (.ref ut),none,none,none]:=eτ
 have e08:=e07.trans e8
 have hD8:=e8 _ _ hD7
 have hE8:=e8 _ _ hE7
 have hv0:∀ {y:Str},Dom ws y -> 0 <= vI kv2 y:=fun {y} hy=>by rw [ji heq]; exact (RD.lt hy).1
 have hgetD:∀ {Hx:Hp} {y:Str},Same H8 Hx -> Dom ws y -> DGet Hx d2 (.str y) (some (.int (vI kv2 y))):=fun {Hx y} ex hy=>hsm hy ▸ DGet.k (k:=Sum.inr y) (ex _ _ hD8)
 clear hE7 hD7 hE6 hD6 hD5 hD2
 dsimp only
 refine ce (a:=tFor _ _ _) fun D' hN hR' hC'=>?_
 refine ⟨_,rfl,el,rfl,⟨_,SqL.of hE8⟩,?_⟩
 refine bj (xs:=es.map V.str) (fun i σ H9=>Same H8 H9 /\ ∃ z10:Option V,σ = [some (.ref t),some (.ref fl),some (.ref ql),some (.ref nl),some (.ref pl),some (.ref d2),some (.ref el),z7,some (.ref at_),some (.ref ut),z10,none,none])
   ⟨Same.refl _,none,rfl⟩ (fun i σ H9 _ pv=>SqL.of (pv.1 _ _ hE8)) ?_ ?_
 . rintro i x σ H9 hi ⟨e9,z10,rfl⟩
   obtain ⟨y,hy,rfl⟩:∃ y,y ∈ es /\ x = .str y:=by
     obtain ⟨y,hy,e⟩:=List.mem_map.mp (List.mem_of_getElem? hi)
     exact ⟨y,hy,e.symm⟩
   have hdy:=(hes y hy).2
   refine ⟨_,rfl,_,rfl,d2,_,rfl,hgetD e9 hdy,_,rfl,iteB (fun c=>by cases c) (fun _=>?_)⟩
   refine ⟨_,rfl,_,rfl,d2,_,rfl,hgetD e9 hdy,_,rfl,true,rfl,iteN rfl ?_⟩
   refine ⟨_,rfl,_,rfl,d2,_,rfl,hgetD e9 hdy,_,_,rfl,rfl,_,rfl,iteB (fun c=>?_) (fun _=>⟨e9,_,rfl⟩)⟩
   have:=of_decide_eq_true c
   have:=hv0 hdy
   lia
 rintro σ H9 ⟨e9,z10,rfl⟩
 refine hN _ _ ?_
 clear hN hR' hC' D'
 refine ce (a:=tFor _ _ _) fun D' hN hR' hC'=>?_
 refine ⟨_,rfl,el,rfl,⟨_,SqL.of (e9 _ _ hE8)⟩,?_⟩
 refine bj (xs:=es.map V.str) (fun i σ H9=>Same H8 H9 /\ ∃ z10:Option V,σ = [some (.ref t),some (.ref fl),some (.ref ql),some (.ref nl),some (.ref pl),some (.ref d2),some (.ref el),z7,some (.ref at_),some (.ref ut),z10,none,none])
   ⟨e9,z10,rfl⟩ (fun i σ H9 _ pv=>SqL.of (pv.1 _ _ hE8)) ?_ ?_
 . clear e9 z10
   rintro i x σ H9 hi ⟨e9,z10,rfl⟩
   obtain ⟨y,hy,rfl⟩:∃ y,y ∈ es /\ x = .str y:=by
     obtain ⟨y,hy,e⟩:=List.mem_map.mp (List.mem_of_getElem? hi)
     exact ⟨y,hy,e.symm⟩
   obtain ⟨hyx,hdy⟩:=hes y hy
   obtain ⟨pB,hpB⟩:∃ pB:Str -> Bool,pB = fun b => !decide (V.bl (decide (V.int (vI kv2 y) = V.int (vI kv2 b))) = V.bl (valV ka [Sum.inr y,Sum.inr b]).isSome):=⟨_,rfl⟩
   have hno:∀ b ∈ es,pB b = false:=fun b hb=>by
     have hdb:=(hes b hb).2
     have h1:(vI kv2 y = vI kv2 b) ↔ InT ka y b:=by rw [ji heq,ji heq,RD.vi hdy hdb,cy hrow,hka y hyx]
     have h2:decide (V.int (vI kv2 y) = V.int (vI kv2 b)) = (valV ka [Sum.inr y,Sum.inr b]).isSome:=by
       rw [Bool.eq_iff_iff,decide_eq_true_eq]
       constructor
       . intro z; exact h1.mp (V.int.inj z)
       . intro z; rw [h1.mpr z]
     rw [hpB]
     simp only [h2,decide_true,Bool.not_true]
   refine ⟨_,rfl,el,rfl,⟨_,SqL.of (e9 _ _ hE8)⟩,?_⟩
   refine jm es pB gc (SqL.of (e9 _ _ hE8)) (by lia) (fun b hb H10 e10 Q' q'=>?_) (fun b H10 Q' q'=>⟨_,rfl,q'⟩) fun D10 H10 hD10 e10 hd10=>?_
   . have hdb:=(hes b hb).2
     have e810:=e9.trans e10
     refine ⟨_,rfl,_,rfl,d2,_,rfl,hgetD e810 hdy,_,rfl,_,rfl,d2,_,rfl,hgetD e810 hdb,rfl,_,rfl,_,rfl,(show 2 <= sizeLine by decide),fun t11 ht11=>?_⟩
     have s11:=ae ht11 (.tup [.str y,.str b])
     refine ⟨_,rfl,at_,_,rfl,DGet.t (k:=[Sum.inr y,Sum.inr b]) (s11 _ _ (e810 _ _ ha8)) aa,rfl,_,rfl,?_⟩
     have:=q' _ s11
     rw [hpB] at this
     exact this
   refine ⟨Nat.zero_le _,fun ln hln=>?_⟩
   have s11:=ae hln (.lst [])
   have hnil':es.filter pB = []:=List.filter_eq_nil_iff.mpr fun b hb=>by rw [hno b hb]; decide
   rw [hnil'] at hd10
   refine ⟨.list (cn []),.list [],.lst (SqL.of (s11 _ _ hd10)) (ij _),.lst (SqL.of aa) .nil,ga (fun x hx=>by cases hx),ga (l:=[]) (fun x hx=>by cases hx),_,rfl,iteB (fun c=>by cases c) (fun _=>⟨(e9.trans e10).trans s11,_,rfl⟩)⟩
 clear e9 z10
 rintro σ H9 ⟨e9,z10,rfl⟩
 refine hN _ _ ?_
 clear hN hR' hC' D'
 have e09:=e08.trans e9
 have hH9:=e09 _ _ E.heap
 have hT9:=e09 _ _ I.tup
 refine ce (a:=tFor _ _ _) fun D' hN hR' hC'=>?_
 refine ⟨_,rfl,t,_,1,.ref h,rfl,rfl,SqT.of hT9,rfl,h,_,rfl,hH9,fun al hal=>?_⟩
 have hks:(hv hp).map (fun kv=>kV kv.1) = hp.map fun p=>V.int p.1:=by unfold hv; rw [List.map_map]; rfl
 rw [hks]
 have s10:=ae hal (.lst (hp.map fun p=>V.int p.1))
 have hA10:(upd H9 al (.lst (hp.map fun p=>V.int p.1))) al = some (.lst (hp.map fun p=>V.int p.1)):=aa
 have e910:=e9.trans s10
 generalize upd H9 al (.lst (hp.map fun p=>V.int p.1)) = H10 at s10 hA10 e910 |-
 refine ⟨al,rfl,⟨_,SqL.of hA10⟩,?_⟩
 refine bj (xs:=hp.map fun p=>V.int p.1) (fun i σ H11=>Same H10 H11 /\ ∃ z11 z12:Option V,σ = [some (.ref t),some (.ref fl),some (.ref ql),some (.ref nl),some (.ref pl),some (.ref d2),some (.ref el),z7,some (.ref at_),some (.ref ut),z10,z11,z12])
   ⟨Same.refl _,none,none,rfl⟩ (fun i σ H11 _ pv=>SqL.of (pv.1 _ _ hA10)) ?_ ?_
 . rintro i x σ H11 hi ⟨e11,z11,z12,rfl⟩
   obtain ⟨pp,hpm,rfl⟩:∃ pp,pp ∈ hp /\ x = .int pp.1:=by
     obtain ⟨y,hy,e⟩:=List.mem_map.mp (List.mem_of_getElem? hi)
     exact ⟨y,hy,e.symm⟩
   have e011:=e08.trans (e910.trans e11)
   have hT11:=e011 _ _ I.tup
   obtain ⟨tc,fv,sv,z1,z2,z3⟩:=((E.cells.same e011).look pp.1).resolve_left (fun z=>by
     have h1:=z.1
     have h2:=uj h1
     exact h2 (List.mem_map.mpr ⟨(Sum.inl pp.1,V.ref pp.2),List.mem_map.mpr ⟨pp,hpm,rfl⟩,rfl⟩))
   have hpos:1 <= pp.1 /\ 0 <= fv /\ 0 <= sv:=by
     unfold dh at z2
     cases hz:(c8 kv ((ws.length:Int) + 1) Ps (neOf Fs Ps)).find? (fun c=>decide (c.1 = pp.1)) with
     | none=>rw [hz] at z2; cases z2
     | some c =>
       rw [hz] at z2
       have hcm:=List.mem_of_find?_eq_some hz
       have hc1:=List.find?_some hz
       have h3:=RD.pos c hcm
       have h4:c.2 = (fv,sv):=Option.some.inj z2
       have h5:c.1 = pp.1:=of_decide_eq_true hc1
       rw [h4,h5] at h3
       exact h3
   refine ⟨_,rfl,t,_,1,.ref h,rfl,rfl,SqT.of hT11,rfl,_,rfl,h,_,rfl,z1 ▸ DGet.k (k:=Sum.inl pp.1) (e011 _ _ E.heap),?_⟩
   refine ⟨_,rfl,pp.1,rfl,true,rfl,iteN rfl ?_⟩
   refine ⟨_,rfl,_,_,rfl,rfl,_,rfl,iteB (fun c=>?_) (fun _=>?_)⟩
   . have:=of_decide_eq_true c
     lia
   refine ⟨_,rfl,tc,_,rfl,z3,true,rfl,iteN rfl ?_⟩
   refine ⟨_,rfl,tc,_,rfl,.inr z3,rfl,_,rfl,iteB (fun c=>by simp at c) (fun _=>?_)⟩
   refine ⟨_,rfl,tc,_,0,.int fv,rfl,rfl,z3,rfl,fv,rfl,true,rfl,iteN rfl ?_⟩
   refine ⟨_,rfl,tc,_,1,.int sv,rfl,rfl,z3,rfl,sv,rfl,true,rfl,iteN rfl ?_⟩
   refine ⟨_,rfl,tc,[fv,sv],rfl,z3,(by simp),fun M hM=>⟨_,_,rfl,rfl,_,rfl,iteB (fun c=>?_) (fun _=>⟨e11,_,_,rfl⟩)⟩⟩
   have:=of_decide_eq_true c
   rcases List.mem_cons.mp hM with rfl | hM
   . lia
   . rw [List.mem_singleton.mp hM] at this; lia
 . rintro σ H11 ⟨e11,z11,z12,rfl⟩
   refine hN _ _ ?_
   clear hN hR' hC' D'
   have e811:=e910.trans e11
   have e011:=e08.trans e811
   have hT11:=e011 _ _ I.tup
   refine ⟨_,rfl,_,rfl,t,_,1,.ref h,rfl,rfl,SqT.of hT11,rfl,_,rfl,_,rfl,(show 2 <= sizeLine by decide),fun t3 ht3=>?_⟩
   have s12:=ae ht3 (.tup [.ref fl,.ref ql])
   have ex:=e811.trans s12
   have e0x:=e011.trans s12
   have cov:CovIn K (upd H11 t3 (.tup [.ref fl,.ref ql])) d2 h t3 fl ql kv2 hp (c8 kv ((ws.length:Int) + 1) Ps (neOf Fs Ps)) Fs Ps rs :=
     ⟨ex _ _ hD8,hIn,e0x _ _ E.heap,E.cells.same e0x,SqT.of aa,I.rF.same e0x,hrow,(fun r hr=>⟨fun x hx => .inr (by rw [hsm (RD.dF r hr x hx)]; rfl),fun z=>anyx (hinF r hr _ z)⟩),I.rP.same e0x,hprow,(fun r hr=>⟨fun x hx=>(RD.dP r hr x hx).imp id (fun z=>by rw [hsm z]; rfl),(by rw [hsm (RD.pl r hr)]; rfl),fun c=>by rw [hsm (RD.en r hr c)]; rfl⟩),hrs1,hrs2,(by lia)⟩
   refine ⟨d2,h,t3,fl,ql,kv2,hp,_,Fs,Ps,rs,rfl,cov,fun b9 H12 e12 hb9=>?_⟩
   have:b9 = true:=hb9.mpr (hrs3 Fs (fun r h=>h))
   subst this
   exact q _ (e0x.trans e12)
end
theorem a7j (ns:List Int):∃ ms:List Int,cutV (ns.map V.int) (some 3) (some 17) = ms.map V.int /\ ms.length <= 14:=by
 refine ⟨(ns.drop (HT.sIx ns.length 0 (some 3))).take (HT.sIx ns.length ns.length (some 17) - HT.sIx ns.length 0 (some 3)),?_,?_⟩
 . unfold cutV
   rw [List.length_map,List.map_take,List.map_drop]
 . rw [List.length_take,List.length_drop]
   show min (min 17 ns.length - min 3 ns.length) _ <= 14
   lia
theorem w6 (ys:List Str) (lo hi:Option Int):∃ zs:List Str,cutV (ys.map V.str) lo hi = zs.map V.str /\ (∀ z ∈ zs,z ∈ ys) /\ zs.length <= ys.length:=by
 refine ⟨(ys.drop (HT.sIx ys.length 0 lo)).take (HT.sIx ys.length ys.length hi - HT.sIx ys.length 0 lo),?_,fun z hz=>List.mem_of_mem_drop (List.mem_of_mem_take hz),?_⟩
 . unfold cutV
   rw [List.length_map,List.map_take,List.map_drop]
 . rw [List.length_take,List.length_drop]
   lia
theorem nt (rs:List (List Str)):PyData.depthAll (rs.map dRow) <= 1:=by
 have h2:∀ r:List Str,PyData.depthAll (cn r) <= 0:=fun r=>by
   unfold cn
   induction r with
   | nil=>simp only [List.map_nil,PyData.depthAll]; exact Nat.le_refl _
   | cons x l ih=>simp only [List.map_cons,PyData.depthAll,PyData.depth]; exact Nat.max_le.mpr ⟨Nat.le_refl _,ih⟩
 induction rs with
 | nil=>simp only [List.map_nil,PyData.depthAll]; lia
 | cons r l ih =>
   have:=h2 r
   simp only [List.map_cons,PyData.depthAll,dRow,PyData.depth]
   lia
theorem y0 (l:List Str):PyData.depthAll (cn l) <= 0:=by
 unfold cn
 induction l with
 | nil=>simp only [List.map_nil,PyData.depthAll]; exact Nat.le_refl _
 | cons x l ih=>simp only [List.map_cons,PyData.depthAll,PyData.depth]; exact Nat.max_le.mpr ⟨Nat.le_refl _,ih⟩
theorem ym {F P:List (List Str)} {zs:List Str} (hF:∀ r ∈ F,∀ y ∈ r,Ok y) (hP:∀ r ∈ P,∀ y ∈ r,Ok y) (hz:∀ z ∈ zs,Ok z):EqOk (.list [.list (F.map dRow),.list (P.map dRow),.list (cn zs)]):=by
 constructor
 . simp only [PyData.canLay0,PyData.canLayAll0,Bool.and_eq_true,and_true]
   have h1:=(jr hF).1
   have h2:=(jr hP).1
   have h3:=(ga hz).1
   simp only [PyData.canLay0] at h1 h2 h3
   exact ⟨h1,h2,h3⟩
 . have h1:=nt F
   have h2:=nt P
   have h3:=y0 zs
   simp only [PyData.depth,PyData.depthAll]
   lia
theorem PoolRow.mono {xs ys:List Str} (h:∀ x ∈ xs,x ∈ ys) {r:List Str} (hr:PoolRow xs r):PoolRow ys r:=by
 obtain ⟨k,u,v,h1,h2,h3,h4⟩:=hr
 exact ⟨k,u,v,h1,h2,h _ h3,h _ h4⟩
theorem PoolPart.mono {xs ys:List Str} (h:∀ x ∈ xs,x ∈ ys) {r:List Str} (hr:PoolPart xs r):PoolPart ys r:=by
 rcases hr with ⟨a,f,s,h1,h2,h3,h4⟩ | ⟨a,b,h1,h2,h3⟩ | ⟨a,h1,h2⟩
 . exact .inl ⟨a,f,s,h1,h _ h2,h3.imp (h _) id,h4.imp (h _) id⟩
 . exact .inr (.inl ⟨a,b,h1,h _ h2,h _ h3⟩)
 . exact .inr (.inr ⟨a,h1,h _ h2⟩)
section
variable {P:Program} {w:World} {K:PySem.W.Frag} {mg:Str -> Option Value} {base:Heap} {f gC gN gD gY gX gR:Addr} {fd dC dN dD dY dX dR:FuncData}
theorem scLaw:FnScope ["_law_script", "_law_some", "_law_pool", "_law_facts", "_law_parts", "_law_at", "_law_names_here", "_law_handed", "_law_found"] ["_law_script"] (ao sLaw):=⟨rfl,rfl,rfl,by decide +kernel,rfl,by decide +kernel,by decide +kernel⟩
theorem a8c (C:Con K mg w) (F:Fun K "law" "law" sLaw f fd)
   (GC:FnOk P w K mg base CX0 1 gC dC ["_law_script", "_law_k"] (a0j K)) (cC:Cal K mg "_law_cell_at" gC dC ["_law_script", "_law_k"])
   (GN:FnOk P w K mg base CX0 2 gN dN ["_law_cell", "_law_many"] (ky K)) (cN:Cal K mg "_law_names" gN dN ["_law_cell", "_law_many"])
   (GD:FnOk P w K mg base CX0 2 gD dD ["_law_cells", "_law_pool"] (xc K)) (cD:Cal K mg "_law_drawn" gD dD ["_law_cells", "_law_pool"])
   (GY:FnOk P w K mg base CX0 6 gY dY ["_law_facts", "_law_parts", "_law_pool"] (wj K)) (cY:Cal K mg "_law_ready" gY dY ["_law_facts", "_law_parts", "_law_pool"])
   (GX:FnOk P w K mg base CX0 7 gX dX ["facts", "parts", "names"] (qa K)) (cX:Cal K mg "example" gX dX ["facts", "parts", "names"])
   (GR:FnOk P w K mg base CX0 5 gR dR ["_law_found", "_law_facts", "_law_parts", "_law_names_here", "_law_pool"] (w4 K)) (cR:Cal K mg "_law_right" gR dR ["_law_found", "_law_facts", "_law_parts", "_law_names_here", "_law_pool"]):FnOk P w K mg base CX0 8 f fd ["_law_script"] (r6 K):=by
 refine F.okQ scLaw (fun vs H Q E h=>?_) (fun cdv A outer s0 H vs Q E hr h=>?_)
 . obtain ⟨c,k,rfl,_⟩:=h; rfl
 obtain ⟨a,ns,rfl,hA,q⟩:=h
 have nd:=scLaw.nd
 have hu1:=df hr
 have hu:=Nat.lt_of_le_of_lt (Nat.add_le_add_left (show 32 <= 64 by decide) _) hr.units
 have hr1:=hr.mono (j:=1) (by lia)
 have hr2:=hr.mono (j:=2) (by lia)
 have hr5:=hr.mono (j:=5) (by lia)
 have hr6:=hr.mono (j:=6) (by lia)
 refine ⟨_,ac (ak (i:=1) nd rfl (Or.inl rfl) (ax GN hr2 rfl cN.name cN.keep cN.bind .nil av (bv (ax GC hr1 rfl cC.name cC.keep cC.bind .nil av (af (qv 0) (gg ab))) (gg ab))))
   (ac (ak (i:=2) nd rfl (Or.inl rfl) (aj dw (ei (slLk (K:=K) rfl) (qv 1) ge (dk ad)) (bp (bd ab))))
   (ac (kt (kb (ax GD hr2 rfl cD.name cD.keep cD.bind .nil av (ay (ei (slLk (K:=K) rfl) (qv 0) (dk ad) (dk ad)) (af (qv 2) ab))) (gr (K:=K) rfl (au (i:=3) nd rfl (Or.inl rfl)) (au (i:=4) nd rfl (Or.inl rfl)))))
   (ac (kt (kb (ax GY hr6 rfl cY.name cY.keep cY.bind .nil av (af (qv 3) (af (qv 4) (af (qv 2) ab)))) (gr (K:=K) rfl (au (i:=3) nd rfl (Or.inl rfl)) (au (i:=4) nd rfl (Or.inl rfl)))))
   (ac (ak (i:=5) nd rfl (Or.inl rfl) (aj bo (ax GC hr1 rfl cC.name cC.keep cC.bind .nil av (af (qv 0) (gg ab))) ad))
   (ac (ak (i:=6) nd rfl (Or.inl rfl) (ei (slLk (K:=K) rfl) (aj dw (qv 1) (qv 1)) (dk (qv 5)) (dk (aj ca (qv 5) (aj bo (ax GC hr1 rfl cC.name cC.keep cC.bind .nil av (af (qv 0) (gg ab))) ad)))))
   (ac (ak (i:=7) nd rfl (Or.inl rfl) (bp (bv (cf (lb (K:=K) rfl) rfl C.list PyProof.Rows.boot_list (af (qv 3) ab)) (bv (cf (lb (K:=K) rfl) rfl C.list PyProof.Rows.boot_list (af (qv 4) ab)) (bv (cf (lb (K:=K) rfl) rfl C.list PyProof.Rows.boot_list (af (qv 6) ab)) ab)))))
   (ac (ak (i:=8) nd rfl (Or.inl rfl) (ax GX hr rfl cX.name cX.keep cX.bind .nil av (ay (ai (ixKk (K:=K) rfl) (qv 7) ad (fun _ _=>rfl)) (ay (ai (ixKk (K:=K) rfl) (qv 7) ad (fun _ _=>rfl)) (ay (ai (ixKk (K:=K) rfl) (qv 7) ad (fun _ _=>rfl)) ab)))))
   (ac (bf (QW.qt (fg (ar (neDk (K:=K) rfl hu) (qv 7) (bp (af (qv 3) (af (qv 4) (af (qv 6) ab)))) (aq _)) (ft (fz (db (ax GR hr5 rfl cR.name cR.keep cR.bind .nil av (af (qv 8) (af (qv 3) (af (qv 4) (af (qv 6) (dt (aj dw (qv 1) (bp (bd ab))) ab))))))))))) (ah (aw dg)) bc)
   (ac (bq (vh (K:=K) rfl PySem.F.plainAttrs_dict PySem.F.slot_dict_clear PySem.F.type_dict_clear pf (ai (ixTk (K:=K) rfl) (qv 8) ad (fun _ _=>rfl))))
   (ac (bq (vh (K:=K) rfl PySem.F.plainAttrs_dict PySem.F.slot_dict_clear PySem.F.type_dict_clear pf (ai (ixTk (K:=K) rfl) (qv 8) ad (fun _ _=>rfl))))
   (ah (aw (ax GR hr5 rfl cR.name cR.keep cR.bind .nil av (bv (ax GX hr rfl cX.name cX.keep cX.bind .nil av (af (qv 3) (af (qv 4) (af (qv 6) ab)))) (af (qv 3) (af (qv 4) (af (qv 6) (dt (aj dw (qv 1) (bp (bd ab))) ab)))))))))))))))))),?_⟩
 refine ⟨_,rfl,a,ns,0,rfl,hA,fq ns 0,7,rfl,by decide,fun l0 ys H1 e1 hL0 hy7 hynm=>?_⟩
 obtain ⟨x5,hx5,hx5m,hx5l⟩:=w6 ys none (some 5)
 have hx5e:x5.length = 5:=by
   have h1:(cutV (ys.map V.str) none (some 5)).length = x5.length:=by rw [hx5,List.length_map]
   unfold cutV at h1
   rw [List.length_take,List.length_drop,List.length_map,hy7] at h1
   have h2:min (min 5 7 - 0) (7 - 0) = x5.length:=h1
   lia
 dsimp only [bh]
 refine ce (a:=tAsg _ _) fun D1 hN1 hR1_ hC1_=>?_
 refine ⟨_,rfl,_,rfl,l0,_,rfl,SqL.of hL0,fun l1 hl1=>?_⟩
 rw [hx5]
 have s2:=ae hl1 (.lst (x5.map V.str))
 refine ⟨(show 1 <= sizeLine by decide),fun l2 hl2=>?_⟩
 have s3:=ae hl2 (.lst [.str "nil"])
 refine ⟨l1,l2,_,_,rfl,rfl,s3 _ _ aa,aa,(by rw [List.length_map,hx5e]; decide),fun pl hpl=>?_⟩
 have s4:=ae hpl (.lst (x5.map V.str ++ [.str "nil"]))
 have hX4:(upd (upd (upd H1 l1 (.lst (x5.map V.str))) l2 (.lst [.str "nil"])) pl (.lst (x5.map V.str ++ [.str "nil"]))) pl = some (.lst ((x5 ++ [("nil" : Str)]).map V.str)):=by rw [aa,List.map_append]; rfl
 have e14:=(s2.trans s3).trans s4
 generalize upd (upd (upd H1 l1 (.lst (x5.map V.str))) l2 (.lst [.str "nil"])) pl (.lst (x5.map V.str ++ [.str "nil"])) = H4 at e14 hX4 |-
 refine hN1 _ _ ?_
 clear hN1 hR1_ hC1_ D1
 clear s2 s3 s4 hl1 hl2 hpl hx5 hx5l
 have hL4:=e14 _ _ hL0
 have hA4:=(e1.trans e14).seq hA
 obtain ⟨ok8,word8,short8⟩:(∀ x ∈ ys ++ [("nil" : Str)],Ok x) /\ (∀ x ∈ ys ++ [("nil" : Str)],Word x) /\ (∀ x ∈ ys ++ [("nil" : Str)],rc x):=⟨(fun x hx=>by
   rcases List.mem_append.mp hx with z | z
   . exact (hynm x z).1.ok
   . rw [List.mem_singleton.mp z]; exact (show (PyData.str "nil").canLay0 = true by decide +kernel)),(fun x hx=>by
   rcases List.mem_append.mp hx with z | z
   . exact .inr (hynm x z).2
   . exact .inl (List.mem_singleton.mp z)),(fun x hx=>by
   rcases List.mem_append.mp hx with z | z
   . exact Nat.le_trans (hynm x z).1.len (by decide)
   . rw [List.mem_singleton.mp z]; exact (show Str.length "nil" <= 1000 by decide +kernel))⟩
 have hsub:∀ x ∈ x5 ++ [("nil" : Str)],x ∈ ys ++ [("nil" : Str)]:=fun x hx=>(List.mem_append.mp hx).elim (fun z=>List.mem_append.mpr (.inl (hx5m x z))) (fun z=>List.mem_append.mpr (.inr z))
 have hx6:(x5 ++ [("nil" : Str)]).length = 6:=by rw [List.length_append,hx5e]; rfl
 have hnil6:("nil" : Str) ∈ x5 ++ [("nil" : Str)]:=List.mem_append.mpr (.inr (List.mem_singleton.mpr rfl))
 obtain ⟨ms,hms,hm14⟩:=a7j ns
 refine ⟨_,rfl,_,rfl,_,rfl,a,_,rfl,hA4,fun p hp=>?_⟩
 rw [hms]
 have s5:=ae hp (.lst (ms.map V.int))
 refine ⟨_,rfl,p,pl,ms,_,rfl,SqL.of aa,hm14,s5 _ _ hX4,hx6,hnil6,fun t fl ql F0 P0 H6 e6 ht _ hF hQ hF8 hP6 hFr hPr=>?_⟩
 have e46:=s5.trans e6
 refine ⟨t,_,rfl,ht,rfl,_,_,rfl,_,_,rfl,rfl,?_⟩
 intro τ eτ
 obtain rfl:τ = [some (.ref a),some (.ref l0),some (.ref pl),some (.ref fl),some (.ref ql),none,none,none,none]:=eτ
 refine ⟨_,rfl,_,rfl,_,rfl,fl,ql,pl,F0,P0,_,rfl,hF,hF8,hFr,hQ,hP6,hPr,e46 _ _ hX4,(by lia),hnil6,(fun x hx=>ok8 x (hsub x hx)),fun t7 kl sl Fs Ps H7 e7 ht7 hF7 hQ7 hF8' hP6' hFr' hPr' hG=>?_⟩
 refine ⟨t7,_,rfl,SqT.of ht7,rfl,_,_,rfl,_,_,rfl,rfl,?_⟩
 intro τ eτ
 obtain rfl:τ = [some (.ref a),some (.ref l0),some (.ref pl),some (.ref kl),some (.ref sl),none,none,none,none]:=eτ
 have e47:=e46.trans e7
 have hL7:=e47 _ _ hL4
 have hA7:=e47.seq hA4
 clear hF hQ ht ht7 hms hp hX4 hA4 e46 e6 e7 s5
 have hFr8:∀ r ∈ Fs,PoolRow (ys ++ [("nil" : Str)]) r:=fun r hr=>(hFr' r hr).mono hsub
 have hPr8:∀ r ∈ Ps,PoolPart (ys ++ [("nil" : Str)]) r:=fun r hr=>(hPr' r hr).mono hsub
 have hrow:∀ r ∈ Fs,cm r:=fun r hr=>(hFr8 r hr).fact
 have hprow:∀ r ∈ Ps,PartRow r:=fun r hr=>(hPr8 r hr).row
 have m7:=Int.emod_nonneg (fq ns 1) (show (7:Int) ≠ 0 by decide)
 refine ⟨_,rfl,a,ns,1,rfl,hA7,_,_,rfl,rfl,(show (0:Int) < 7 by decide),?_⟩
 refine ⟨_,rfl,_,rfl,l0,l0,_,_,rfl,rfl,hL7,hL7,(by rw [List.length_map,hy7]; decide),fun ss hss=>?_⟩
 rw [<- List.map_append]
 have s8:=ae hss (.lst ((ys ++ ys).map V.str))
 refine ⟨_,rfl,_,rfl,_,rfl,_,rfl,a,ns,2,rfl,s8.seq hA7,_,_,rfl,rfl,(show (0:Int) < 4 by decide),_,_,rfl,rfl,_,rfl,ss,_,rfl,SqL.of aa,fun nl hnl=>?_⟩
 obtain ⟨zs,hzs,hzm,hzl⟩:=w6 (ys ++ ys) (some (fq ns 1 % 7)) (some (fq ns 1 % 7 + fq ns 2 % 4))
 rw [hzs]
 have s9:=ae hnl (.lst (zs.map V.str))
 have hN9:(upd (upd H7 ss (.lst ((ys ++ ys).map V.str))) nl (.lst (zs.map V.str))) nl = some (.lst (zs.map V.str)):=aa
 have e79:=s8.trans s9
 generalize upd (upd H7 ss (.lst ((ys ++ ys).map V.str))) nl (.lst (zs.map V.str)) = H9 at hN9 e79 |-
 clear s8 s9 hss hnl hzs
 have hzx:∀ z ∈ zs,z ∈ ys ++ [("nil" : Str)]:=fun z hz=>List.mem_append.mpr (.inl ((List.mem_append.mp (hzm z hz)).elim id id))
 have hzl':zs.length <= 14:=by rw [List.length_append] at hzl; lia
 have hF9:=hF7.same e79
 have hQ9:=hQ7.same e79
 have hL9:=e79 _ _ hL7
 clear hF7 hQ7 hL7 e79
 have hinF:∀ r ∈ Fs,∀ y ∈ r.drop 1,y ∈ ys ++ [("nil" : Str)]:=fun r hr y hy=>by
   obtain ⟨k,u,v,rfl,_,hu,hv⟩:=hFr8 r hr
   rcases List.mem_cons.mp hy with rfl | z
   . exact hu
   . rw [List.mem_singleton.mp z]; exact hv
 have hinP:∀ r ∈ Ps,∀ y ∈ r.drop 1,y = "any" \/ y ∈ ys ++ [("nil" : Str)]:=fun r hr y hy=>by
   rcases hPr8 r hr with ⟨a,f,s,rfl,h1,h2,h3⟩ | ⟨a,b,rfl,h1,h2⟩ | ⟨a,rfl,h1⟩
   . rcases List.mem_cons.mp hy with rfl | z
     . exact .inr h1
     . rcases List.mem_cons.mp z with rfl | z2
       . exact h2.symm
       . rw [List.mem_singleton.mp z2]; exact h3.symm
   . rcases List.mem_cons.mp hy with rfl | z
     . exact .inr h1
     . rw [List.mem_singleton.mp z]; exact .inr h2
   . rw [List.mem_singleton.mp hy]; exact .inr h1
 have hshA:rc "any" := (show Str.length "any" <= 1000 by decide +kernel)
 have hsF:gb Fs:=⟨by lia,fun r hr=>by
   have hd:=hinF r hr
   obtain ⟨k,u,v,rfl,hk,_,_⟩:=hFr8 r hr
   refine ⟨(show 3 <= 5 by decide),fun x hx=>?_⟩
   rcases List.mem_cons.mp hx with rfl | z
   . rcases hk with rfl | rfl
     . exact (show Str.length "is" <= 1000 by decide +kernel)
     . exact (show Str.length "not" <= 1000 by decide +kernel)
   . exact short8 x (hd x z)⟩
 have hsP:gb Ps:=⟨by lia,fun r hr=>by
   have hd:=hinP r hr
   have hw:∀ x ∈ r.drop 1,rc x:=fun x hx=>(hd x hx).elim (fun z=>z ▸ hshA) (fun z=>short8 x z)
   rcases hprow r hr with ⟨a,f,s,rfl⟩ | ⟨a,b,rfl⟩ | ⟨a,rfl⟩
   . refine ⟨(show 4 <= 5 by decide),fun x hx=>?_⟩
     rcases List.mem_cons.mp hx with rfl | z
     . exact (show Str.length "cell" <= 1000 by decide +kernel)
     . exact hw x z
   . refine ⟨(show 3 <= 5 by decide),fun x hx=>?_⟩
     rcases List.mem_cons.mp hx with rfl | z
     . exact (show Str.length "stretch" <= 1000 by decide +kernel)
     . exact hw x z
   . refine ⟨(show 2 <= 5 by decide),fun x hx=>?_⟩
     rcases List.mem_cons.mp hx with rfl | z
     . exact (show Str.length "tree" <= 1000 by decide +kernel)
     . exact hw x z⟩
 have hanyN:("any" : Str) ∈ Mir.noNames:=by decide +kernel
 have hwx:∀ y,y ∈ words (Fs ++ Ps) -> y ∈ ys ++ [("nil" : Str)]:=fun y hy=>by
   obtain ⟨r,hr,h1,h2⟩:=mem_words.mp hy
   rcases List.mem_append.mp hr with z | z
   . exact hinF r z y h1
   . exact (hinP r z y h1).resolve_left (fun w=>h2 (w ▸ hanyN))
 have hl8:(ys ++ [("nil" : Str)]).length = 8:=by rw [List.length_append,hy7]; rfl
 have h64:∀ ss:List Str,ss.Nodup -> (∀ y ∈ ss,y ∈ words (Fs ++ Ps)) -> ss.length < 64:=fun ss h1 h2=>by
   have:=ot h1 (m:=ys ++ [("nil" : Str)]) fun y hy=>hwx y (h2 y hy)
   lia
 have gd:∀ {j:Nat},j ∈ neOf Fs Ps -> Ps[j]? = some (Ps.getD j []):=fun {j} hj=>by
   rw [List.getD_eq_getElem?_getD,List.getElem?_eq_getElem (yg hj)]; rfl
 have hAp:a4w Fs Ps:=fun i hi j hj hij z=>hG.rdy i _ (gd hi) ((gt (gd hi)).mp hi) (.inl ⟨j,hj,Ne.symm hij,_,gd hj,z⟩)
 have hwd:∀ r ∈ Ps,Word (place r) /\ (r.getD 0 "" = "stretch" -> Word (r.getD 2 "")):=fun r hr=>by
   refine ⟨word8 _ (hPr8 r hr).place,fun c=>?_⟩
   rcases hPr8 r hr with ⟨a,f,s,rfl,h1,h2,h3⟩ | ⟨a,b,rfl,h1,h2⟩ | ⟨a,rfl,h1⟩
   . exact absurd c (by show ¬ ("cell" : Str) = "stretch"; decide +kernel)
   . exact word8 _ h2
   . exact absurd c (by show ¬ ("tree" : Str) = "stretch"; decide +kernel)
 have hFok:∀ r ∈ Fs,∀ y ∈ r,Ok y:=fun r hr=>(hFr8 r hr).ok ok8
 have hPok:∀ r ∈ Ps,∀ y ∈ r,Ok y:=fun r hr=>(hPr8 r hr).ok ok8
 have hnil8:("nil" : Str) ∈ ys ++ [("nil" : Str)]:=List.mem_append.mpr (.inr (List.mem_singleton.mpr rfl))
 obtain ⟨fas,hfl,hfp⟩:=id hF9
 obtain ⟨pas,hql,hpp⟩:=id hQ9
 dsimp only [bh]
 refine ce (a:=tAsg _ _) fun D1 hN1 hR1 hC1=>?_
 refine ⟨_,rfl,kl,_,rfl,.inl (SqL.of hfl),fun f2 hf2=>?_⟩
 have s10:=ae hf2 (.lst (fas.map V.ref))
 refine ⟨_,rfl,sl,_,rfl,.inl (SqL.of (s10 _ _ hql)),fun q2 hq2=>?_⟩
 have s11:=ae hq2 (.lst (pas.map V.ref))
 refine ⟨_,rfl,nl,_,rfl,.inl (SqL.of (s11 _ _ (s10 _ _ hN9))),fun n2 hn2=>?_⟩
 have s12:=ae hn2 (.lst (zs.map V.str))
 have e912:=(s10.trans s11).trans s12
 have hf12:=s12 _ _ (s11 _ _ (show (upd H9 f2 (.lst (fas.map V.ref))) f2 = some (.lst (fas.map V.ref)) from aa))
 have hq12:=s12 _ _ (show (upd (upd H9 f2 (.lst (fas.map V.ref))) q2 (.lst (pas.map V.ref))) q2 = some (.lst (pas.map V.ref)) from aa)
 have hn12:(upd (upd (upd H9 f2 (.lst (fas.map V.ref))) q2 (.lst (pas.map V.ref))) n2 (.lst (zs.map V.str))) n2 = some (.lst (zs.map V.str)):=aa
 generalize upd (upd (upd H9 f2 (.lst (fas.map V.ref))) q2 (.lst (pas.map V.ref))) n2 (.lst (zs.map V.str)) = H12 at e912 hf12 hq12 hn12 |-
 clear s10 s11 s12 hf2 hq2 hn2
 refine ⟨(show 3 <= sizeLine by decide),fun hl hhl=>?_⟩
 have s13:=ae hhl (.lst [.ref f2,.ref q2,.ref n2])
 have hh13:(upd H12 hl (.lst [.ref f2,.ref q2,.ref n2])) hl = some (.lst [.ref f2,.ref q2,.ref n2]):=aa
 have hf13:=s13 _ _ hf12
 have hq13:=s13 _ _ hq12
 have hn13:=s13 _ _ hn12
 have e13:=e912.trans s13
 generalize upd H12 hl (.lst [.ref f2,.ref q2,.ref n2]) = H13 at hh13 hf13 hq13 hn13 e13 |-
 clear s13 hf12 hq12 hn12 e912 hhl
 have hF13:RowsAt K H13 f2 Fs:=⟨fas,hf13,Paired.mapP hfp fun _ _ z=>RowAt.same z e13⟩
 have hQ13:RowsAt K H13 q2 Ps:=⟨pas,hq13,Paired.mapP hpp fun _ _ z=>RowAt.same z e13⟩
 dsimp only [bh]
 refine hN1 _ _ ?_
 clear hN1 hR1 hC1 D1
 refine ce (a:=tAsg _ _) fun D1 hN1 hR1 hC1=>?_
 refine ⟨_,rfl,hl,_,0,.ref f2,rfl,rfl,SqL.of hh13,rfl,_,rfl,hl,_,1,.ref q2,rfl,rfl,SqL.of hh13,rfl,_,rfl,hl,_,2,.ref n2,rfl,rfl,SqL.of hh13,rfl,f2,q2,n2,Fs,Ps,zs,rfl,hF13,(by lia),hrow,hQ13,(by lia),hprow,hsF,hsP,h64,hn13,(by lia),hAp,hwd,fun tf d h kv ws hp14 H14 e14' hd0 hh0 hdh hT14 E14=>?_⟩
 have e914:=e13.trans e14'
 have dph:∀ {Hx:Hp},Same H13 Hx -> Dp K Hx (.ref hl) (.list [.list (Fs.map dRow),.list (Ps.map dRow),.list (cn zs)]):=fun e => .lst (SqL.of (e _ _ hh13)) (.cons (hF13.same e).dp (.cons (hQ13.same e).dp (.cons (.lst (SqL.of (e _ _ hn13)) (ij zs)) .nil)))
 have dpn:∀ {Hx:Hp} {l:Addr},Same H9 Hx -> Hx l = some (.lst [.ref kl,.ref sl,.ref nl]) -> Dp K Hx (.ref l) (.list [.list (Fs.map dRow),.list (Ps.map dRow),.list (cn zs)]):=fun e h => .lst (SqL.of h) (.cons (hF9.same e).dp (.cons (hQ9.same e).dp (.cons (.lst (SqL.of (e _ _ hN9)) (ij zs)) .nil)))
 have hok3:=ym hFok hPok (fun z hz=>ok8 z (hzx z hz))
 dsimp only [bh]
 refine hN1 _ _ ?_
 clear hN1 hR1 hC1 D1
 refine ce (a:=tIfS _ _ _) fun D1 hN1 hR1 hC1=>?_
 refine ⟨_,rfl,_,rfl,_,rfl,_,rfl,(show 3 <= sizeLine by decide),fun l15 hl15=>?_⟩
 have s15:=ae hl15 (.lst [.ref kl,.ref sl,.ref nl])
 refine ⟨_,_,dph (e14'.trans s15),dpn (e914.trans s15) aa,hok3,hok3,_,rfl,?_⟩
 rw [PySem.SeqAt.eqv_refl _ hok3.1]
 refine iteB (fun c=>by cases c) (fun _=>?_)
 have e15:=e914.trans s15
 have hT15:=s15 _ _ hT14
 have E15:Ex K (upd H14 l15 (.lst [.ref kl,.ref sl,.ref nl])) Fs Ps zs d h kv ws hp14:=⟨E14.ok,E14.mem,s15 _ _ E14.vals,s15 _ _ E14.heap,E14.cells.same s15,E14.few⟩
 have e1315:=e14'.trans s15
 generalize upd H14 l15 (.lst [.ref kl,.ref sl,.ref nl]) = H15 at s15 e15 hT15 E15 e1315 |-
 have rin:∀ {Hx:Hp} {tx dx hx px:Addr} {kvx:List (Key × V)} {wx:List Str} {hpx:List (Int × Addr)},Same H9 Hx -> Hx tx = some (.tup [.ref dx,.ref hx]) -> Ex K Hx Fs Ps zs dx hx kvx wx hpx -> Hx px = some (.lst ((ys ++ [("nil" : Str)]).map V.str)) -> RIn K Hx tx kl sl nl px dx hx Fs Ps zs (ys ++ [("nil" : Str)]) kvx wx hpx:=fun {Hx tx dx hx px kvx wx hpx} e ht hx' hpx' =>
   ⟨ht,hx',hF9.same e,hF8',hFr8,hQ9.same e,hP6',hPr8,e _ _ hN9,hzl',hzx,hpx',(by lia),hnil8,ok8,word8,hG⟩
 refine ⟨_,rfl,_,rfl,_,rfl,_,rfl,_,rfl,(show 1 <= sizeLine by decide),fun l16 hl16=>?_⟩
 have s16:=ae hl16 (.lst [.str "nil"])
 refine ⟨l0,l16,_,_,rfl,rfl,(e15.trans s16) _ _ hL9,aa,(by rw [List.length_map,hy7]; decide),fun px hpx=>?_⟩
 have s17:=ae hpx (.lst (ys.map V.str ++ [.str "nil"]))
 have hp17:(upd (upd H15 l16 (.lst [.str "nil"])) px (.lst (ys.map V.str ++ [.str "nil"]))) px = some (.lst ((ys ++ [("nil" : Str)]).map V.str)):=by rw [aa,List.map_append]; rfl
 have e1517:=s16.trans s17
 generalize upd (upd H15 l16 (.lst [.str "nil"])) px (.lst (ys.map V.str ++ [.str "nil"])) = H17 at e1517 hp17 |-
 clear s16 s17 hl16 hpx
 have E17:Ex K H17 Fs Ps zs d h kv ws hp14:=⟨E15.ok,E15.mem,e1517 _ _ E15.vals,e1517 _ _ E15.heap,E15.cells.same e1517,E15.few⟩
 refine ⟨tf,kl,sl,nl,px,d,h,Fs,Ps,zs,_,kv,ws,hp14,rfl,rin (e15.trans e1517) (e1517 _ _ hT15) E17 hp17,fun H18 e18=>⟨true,rfl,iteN rfl ?_⟩⟩
 have e1518:=e1517.trans e18
 have hT18:=e1518 _ _ hT15
 have hv18:=e1518 _ _ E15.vals
 have hh18:=e1518 _ _ E15.heap
 have e1318:=e1315.trans e1518
 refine hN1 _ _ ?_
 clear hN1 hR1 hC1 D1
 refine ⟨_,rfl,tf,_,0,.ref d,rfl,rfl,SqT.of hT18,rfl,.inr (.inr (.inl ⟨rfl,.inl ⟨_,hv18⟩⟩)),d,_,rfl,rfl,hv18,?_⟩
 have hT19:(upd H18 d (.dK [])) tf = some (.tup [.ref d,.ref h]):=by
   rw [ag (fun z=>by rw [z,hv18] at hT18; cases hT18)]; exact hT18
 have hh19:(upd H18 d (.dK [])) h = some (.dK (hv hp14)):=by rw [ag (Ne.symm hdh)]; exact hh18
 have e1319:Same H13 (upd H18 d (.dK [])):=bi hd0 e1318 _
 generalize upd H18 d (.dK []) = H19 at hT19 hh19 e1319 |-
 refine ⟨_,rfl,tf,_,1,.ref h,rfl,rfl,SqT.of hT19,rfl,.inr (.inr (.inl ⟨rfl,.inl ⟨_,hh19⟩⟩)),h,_,rfl,rfl,hh19,?_⟩
 have e1320:Same H13 (upd H19 h (.dK [])):=bi hh0 e1319 _
 generalize upd H19 h (.dK []) = H20 at e1320 |-
 have e20:=e13.trans e1320
 clear hT19 hh19 e1319 hT18 hv18 hh18 e1318 e1518 E17 hp17 e1517 E15 e15 e1315 s15 hT15
 refine ⟨_,rfl,_,rfl,_,rfl,kl,sl,nl,Fs,Ps,zs,rfl,hF9.same e20,(by lia),hrow,hQ9.same e20,(by lia),hprow,hsF,hsP,h64,e20 _ _ hN9,(by lia),hAp,hwd,fun tg d' h' kv' ws' hp' H21 e21 _ _ _ hT21 E21=>?_⟩
 have e921:=e20.trans e21
 refine ⟨_,rfl,_,rfl,_,rfl,_,rfl,(show 1 <= sizeLine by decide),fun l22 hl22=>?_⟩
 have s22:=ae hl22 (.lst [.str "nil"])
 refine ⟨l0,l22,_,_,rfl,rfl,(e921.trans s22) _ _ hL9,aa,(by rw [List.length_map,hy7]; decide),fun py hpy=>?_⟩
 have s23:=ae hpy (.lst (ys.map V.str ++ [.str "nil"]))
 have hp23:(upd (upd H21 l22 (.lst [.str "nil"])) py (.lst (ys.map V.str ++ [.str "nil"]))) py = some (.lst ((ys ++ [("nil" : Str)]).map V.str)):=by rw [aa,List.map_append]; rfl
 have e2123:=s22.trans s23
 generalize upd (upd H21 l22 (.lst [.str "nil"])) py (.lst (ys.map V.str ++ [.str "nil"])) = H23 at e2123 hp23 |-
 have E23:Ex K H23 Fs Ps zs d' h' kv' ws' hp':=⟨E21.ok,E21.mem,e2123 _ _ E21.vals,e2123 _ _ E21.heap,E21.cells.same e2123,E21.few⟩
 exact ⟨tg,kl,sl,nl,py,d',h',Fs,Ps,zs,_,kv',ws',hp',rfl,rin (e921.trans e2123) (e2123 _ _ hT21) E23 hp23,fun H24 _=>q _⟩
end
theorem ls1 {us:List Value} (h:us.length = 1):∃ a,us = [a]:=by
 cases us with
 | nil=>cases h
 | cons a us=>exact ⟨a,by rw [List.eq_nil_of_length_eq_zero (Nat.succ.inj h)]⟩
theorem ls2 {us:List Value} (h:us.length = 2):∃ a b,us = [a,b]:=by
 cases us with
 | nil=>cases h
 | cons a us =>
   obtain ⟨b,z⟩:=ls1 (Nat.succ.inj h)
   exact ⟨a,b,by rw [z]⟩
theorem ls3 {us:List Value} (h:us.length = 3):∃ a b c,us = [a,b,c]:=by
 cases us with
 | nil=>cases h
 | cons a us =>
   obtain ⟨b,c,z⟩:=ls2 (Nat.succ.inj h)
   exact ⟨a,b,c,by rw [z]⟩
theorem ls4 {us:List Value} (h:us.length = 4):∃ a b c d,us = [a,b,c,d]:=by
 cases us with
 | nil=>cases h
 | cons a us =>
   obtain ⟨b,c,d,z⟩:=ls3 (Nat.succ.inj h)
   exact ⟨a,b,c,d,by rw [z]⟩
theorem ls5 {us:List Value} (h:us.length = 5):∃ a b c d e,us = [a,b,c,d,e]:=by
 cases us with
 | nil=>cases h
 | cons a us =>
   obtain ⟨b,c,d,e,z⟩:=ls4 (Nat.succ.inj h)
   exact ⟨a,b,c,d,e,by rw [z]⟩
theorem ig {K:PySem.W.Frag} {x qual:Str} {st:Stmt} {f:Addr} {fd:FuncData} {p:Str} (F:Fun K x qual st f fd) (h:∀ (kV doc pm:Value) (an:Option Addr) (cdv ct a:Value),bindArgs (PySem.W.fnOf x qual (ff st) (dr st) (ao st) .none kV doc pm an cdv ct) ⟨[a],[]⟩ = pure [(p,a)]):Binds K fd [p] []:=F.binds fun _ _ _ _ _ _ us hl=>by
 obtain ⟨a,rfl⟩:=ls1 hl
 exact h ..
theorem dm {K:PySem.W.Frag} {x qual:Str} {st:Stmt} {f:Addr} {fd:FuncData} {p q:Str} (F:Fun K x qual st f fd) (h:∀ (kV doc pm:Value) (an:Option Addr) (cdv ct a b:Value),bindArgs (PySem.W.fnOf x qual (ff st) (dr st) (ao st) .none kV doc pm an cdv ct) ⟨[a,b],[]⟩ = pure [(p,a),(q,b)]):Binds K fd [p,q] []:=F.binds fun _ _ _ _ _ _ us hl=>by
 obtain ⟨a,b,rfl⟩:=ls2 hl
 exact h ..
theorem cz {K:PySem.W.Frag} {x qual:Str} {st:Stmt} {f:Addr} {fd:FuncData} {p q r:Str} (F:Fun K x qual st f fd) (h:∀ (kV doc pm:Value) (an:Option Addr) (cdv ct a b c:Value),bindArgs (PySem.W.fnOf x qual (ff st) (dr st) (ao st) .none kV doc pm an cdv ct) ⟨[a,b,c],[]⟩ = pure [(p,a),(q,b),(r,c)]):Binds K fd [p,q,r] []:=F.binds fun _ _ _ _ _ _ us hl=>by
 obtain ⟨a,b,c,rfl⟩:=ls3 hl
 exact h ..
theorem a5p {K:PySem.W.Frag} {x qual:Str} {st:Stmt} {f:Addr} {fd:FuncData} {p q r s:Str} (F:Fun K x qual st f fd) (h:∀ (kV doc pm:Value) (an:Option Addr) (cdv ct a b c d:Value),bindArgs (PySem.W.fnOf x qual (ff st) (dr st) (ao st) .none kV doc pm an cdv ct) ⟨[a,b,c,d],[]⟩ = pure [(p,a),(q,b),(r,c),(s,d)]):Binds K fd [p,q,r,s] []:=F.binds fun _ _ _ _ _ _ us hl=>by
 obtain ⟨a,b,c,d,rfl⟩:=ls4 hl
 exact h ..
theorem a5e {K:PySem.W.Frag} {x qual:Str} {st:Stmt} {f:Addr} {fd:FuncData} {p q r s t:Str} (F:Fun K x qual st f fd) (h:∀ (kV doc pm:Value) (an:Option Addr) (cdv ct a b c d e:Value),bindArgs (PySem.W.fnOf x qual (ff st) (dr st) (ao st) .none kV doc pm an cdv ct) ⟨[a,b,c,d,e],[]⟩ = pure [(p,a),(q,b),(r,c),(s,d),(t,e)]):Binds K fd [p,q,r,s,t] []:=F.binds fun _ _ _ _ _ _ us hl=>by
 obtain ⟨a,b,c,d,e,rfl⟩:=ls5 hl
 exact h ..
theorem a3o {K:PySem.W.Frag} {h:Heap} {mg:Str -> Option Value} {x:Str} {a:Addr} (X:K.In h) (G:h.Ns mainGlobals mg) (e:PySem.W.nsIn K mainGlobals x = some (some (.ref a))):Glob mg x (.ref a):=⟨_,PySem.W.mg_of X G e,rfl⟩
set_option maxHeartbeats 0 in
theorem all_mk {l:PySem.W.OpenLaw} {w:World} {K:PySem.W.Frag} {h:Heap} {mg:Str -> Option Value} {fa Cl f1 f2 f3 f4 f5 f6 f7 f8 f9 f10 f11 f12 f13 f14 f15 f16 f17 f18 f19 f20 f21 f22 f23 f24 f25 f26 f27 f28 f29 f30 f31 f32 f33 f34:Addr} (X:K.In h) (G:h.Ns mainGlobals mg) (hfa:mg "law" = some (.ref fa))
   {d1 d2 d3 d4 d5 d6 d7 d8 d9 d10 d11 d12 d13 d14 d15 d16 d17 d18 d19 d20 d21 d22 d23 d24 d25 d26 d27 d28 d29 d30 d31 d32 d33 d34:FuncData}
   (aC:PySem.W.nsIn K mainGlobals "Knowledge" = some (some (.ref Cl)))
   (a1:PySem.W.nsIn K mainGlobals "heads_of" = some (some (.ref f1)))
   (F1:Fun K "heads_of" "heads_of" m9 f1 d1)
   (a2:PySem.W.nsIn K mainGlobals "ends_of" = some (some (.ref f2)))
   (F2:Fun K "ends_of" "ends_of" ox f2 d2)
   (a3:PySem.W.nsIn K mainGlobals "names_of" = some (some (.ref f3)))
   (F3:Fun K "names_of" "names_of" lm f3 d3)
   (a4:PySem.W.nsIn K mainGlobals "numbered" = some (some (.ref f4)))
   (F4:Fun K "numbered" "numbered" jy f4 d4)
   (a5:PySem.W.nsIn K mainGlobals "cells_of" = some (some (.ref f5)))
   (F5:Fun K "cells_of" "cells_of" lq f5 d5)
   (a6:PySem.W.nsIn K mainGlobals "state_of" = some (some (.ref f6)))
   (F6:Fun K "state_of" "state_of" md f6 d6)
   (a7:PySem.W.nsIn K mainGlobals "example" = some (some (.ref f7)))
   (F7:Fun K "example" "example" ma f7 d7)
   (a8:PySem.W.nsIn K mainGlobals "_law_cell_at" = some (some (.ref f8)))
   (F8:Fun K "_law_cell_at" "_law_cell_at" xz f8 d8)
   (a9:PySem.W.nsIn K mainGlobals "_law_whole" = some (some (.ref f9)))
   (F9:Fun K "_law_whole" "_law_whole" rh f9 d9)
   (a10:PySem.W.nsIn K mainGlobals "_law_mixed" = some (some (.ref f10)))
   (F10:Fun K "_law_mixed" "_law_mixed" ua f10 d10)
   (a11:PySem.W.nsIn K mainGlobals "_law_free_names" = some (some (.ref f11)))
   (F11:Fun K "_law_free_names" "_law_free_names" zh f11 d11)
   (a12:PySem.W.nsIn K mainGlobals "_law_names" = some (some (.ref f12)))
   (F12:Fun K "_law_names" "_law_names" uz f12 d12)
   (a13:PySem.W.nsIn K mainGlobals "_law_drawn" = some (some (.ref f13)))
   (F13:Fun K "_law_drawn" "_law_drawn" rq f13 d13)
   (a14:PySem.W.nsIn K mainGlobals "_law_ends" = some (some (.ref f14)))
   (F14:Fun K "_law_ends" "_law_ends" sm f14 d14)
   (a15:PySem.W.nsIn K mainGlobals "_law_put" = some (some (.ref f15)))
   (F15:Fun K "_law_put" "_law_put" sPut f15 d15)
   (a16:PySem.W.nsIn K mainGlobals "_law_is_full" = some (some (.ref f16)))
   (F16:Fun K "_law_is_full" "_law_is_full" p6 f16 d16)
   (a17:PySem.W.nsIn K mainGlobals "_law_places_apart" = some (some (.ref f17)))
   (F17:Fun K "_law_places_apart" "_law_places_apart" tm f17 d17)
   (a18:PySem.W.nsIn K mainGlobals "_law_known" = some (some (.ref f18)))
   (F18:Fun K "_law_known" "_law_known" pd f18 d18)
   (a19:PySem.W.nsIn K mainGlobals "_law_taken" = some (some (.ref f19)))
   (F19:Fun K "_law_taken" "_law_taken" uw f19 d19)
   (a20:PySem.W.nsIn K mainGlobals "_law_cover" = some (some (.ref f20)))
   (F20:Fun K "_law_cover" "_law_cover" uo f20 d20)
   (a21:PySem.W.nsIn K mainGlobals "_law_fits" = some (some (.ref f21)))
   (F21:Fun K "_law_fits" "_law_fits" yc f21 d21)
   (a22:PySem.W.nsIn K mainGlobals "_law_good" = some (some (.ref f22)))
   (F22:Fun K "_law_good" "_law_good" yq f22 d22)
   (a23:PySem.W.nsIn K mainGlobals "_law_ready" = some (some (.ref f23)))
   (F23:Fun K "_law_ready" "_law_ready" u9 f23 d23)
   (a24:PySem.W.nsIn K mainGlobals "_law_right" = some (some (.ref f24)))
   (F24:Fun K "_law_right" "_law_right" u2 f24 d24)
   (a25:PySem.W.nsIn K mainGlobals "law" = some (some (.ref f25)))
   (F25:Fun K "law" "law" sLaw f25 d25)
   (a26:PySem.W.findIn K (.ref Cl) "__init__" = some (some (.ref f26))) (i26:PySem.W.isFn K (.ref f26) = true)
   (F26:Fun K "__init__" "Knowledge.__init__" ya f26 d26)
   (a27:PySem.W.findIn K (.ref Cl) "head" = some (some (.ref f27))) (i27:PySem.W.isFn K (.ref f27) = true)
   (F27:Fun K "head" "Knowledge.head" yp f27 d27)
   (a28:PySem.W.findIn K (.ref Cl) "alike" = some (some (.ref f28))) (i28:PySem.W.isFn K (.ref f28) = true)
   (F28:Fun K "alike" "Knowledge.alike" sx f28 d28)
   (a29:PySem.W.findIn K (.ref Cl) "unlike" = some (some (.ref f29))) (i29:PySem.W.isFn K (.ref f29) = true)
   (F29:Fun K "unlike" "Knowledge.unlike" ou f29 d29)
   (a30:PySem.W.findIn K (.ref Cl) "tell_unlike" = some (some (.ref f30))) (i30:PySem.W.isFn K (.ref f30) = true)
   (F30:Fun K "tell_unlike" "Knowledge.tell_unlike" ui f30 d30)
   (a31:PySem.W.findIn K (.ref Cl) "is_empty" = some (some (.ref f31))) (i31:PySem.W.isFn K (.ref f31) = true)
   (F31:Fun K "is_empty" "Knowledge.is_empty" ly f31 d31)
   (a32:PySem.W.findIn K (.ref Cl) "must_be_full" = some (some (.ref f32))) (i32:PySem.W.isFn K (.ref f32) = true)
   (F32:Fun K "must_be_full" "Knowledge.must_be_full" k9 f32 d32)
   (a33:PySem.W.findIn K (.ref Cl) "find_fulls" = some (some (.ref f33))) (i33:PySem.W.isFn K (.ref f33) = true)
   (F33:Fun K "find_fulls" "Knowledge.find_fulls" si f33 d33)
   (a34:PySem.W.findIn K (.ref Cl) "tell_full" = some (some (.ref f34))) (i34:PySem.W.isFn K (.ref f34) = true)
   (F34:Fun K "tell_full" "Knowledge.tell_full" ud f34 d34)
   (z1:PySem.W.nsIn K mainGlobals "min" = some none)
   (z2:PySem.W.nsIn K mainGlobals "len" = some none)
   (z3:PySem.W.nsIn K mainGlobals "all" = some none)
   (z4:PySem.W.nsIn K mainGlobals "any" = some none)
   (z5:PySem.W.nsIn K mainGlobals "isinstance" = some none)
   (z6:PySem.W.nsIn K mainGlobals "list" = some none)
   (z7:PySem.W.nsIn K mainGlobals "int" = some none)
   (z8:PySem.W.nsIn K mainGlobals "bool" = some none)
   (z9:PySem.W.nsIn K mainGlobals "str" = some none)
   (z10:PySem.W.nsIn K mainGlobals "dict" = some none)
   (z11:PySem.W.nsIn K mainGlobals "sorted" = some none)
   (z12:PySem.W.nsIn K mainGlobals "set" = some none)
   (z13:PySem.W.nsIn K mainGlobals "sum" = some none)
   (z14:PySem.W.nsIn K mainGlobals "range" = some none)
   (z15:PySem.W.nsIn K mainGlobals "tuple" = some none)
   (z16:PySem.W.nsIn K mainGlobals "max" = some none)
   (z17:PySem.W.nsIn K mainGlobals "zip" = some none)
   {aN:Addr} {oN:Obj} {itN:Array Value} {nN:Nat}
   (gN:PySem.W.nsIn K mainGlobals "NO_NAMES" = some (some (.ref aN))) (lN:K.lookup aN = some oN) (cN:oN.cls = .type "tuple") (dN:oN.data = .seq itN nN) (sN:itN.size <= 100) (vN:L2.Vals (Mir.noNames.map V.str) itN.toList)
   (pg:PySem.W.plainGet K Cl Str.empty = true) (hd:PySem.W.hasDictIn K Cl = true) (po:PySem.W.plainOver K Cl = true) (sa:PySem.W.findIn K (.ref Cl) "__setattr__" = some (some (.builtin "object.__setattr__"))) (mk:PySem.W.makesIn K Cl = true) (kc:PySem.W.keepIn K (.ref Cl) = true)
   (nP:PySem.W.findIn K (.ref Cl) "parts" = some none) (nH:PySem.W.findIn K (.ref Cl) "heads" = some none) (nU:PySem.W.findIn K (.ref Cl) "unlikes" = some none) (nF:PySem.W.findIn K (.ref Cl) "fulls" = some none) (nE:PySem.W.findIn K (.ref Cl) "not_empty" = some none) :
   ∃ fd:FuncData,(∀ (s:Shared) (v:Value),BindsTo s fd ⟨[v],[]⟩ [("_law_script",v)]) /\ ∀ base:Heap,K.In base -> base.Ns mainGlobals mg -> FnOk l.prog w K mg base CX0 8 fa fd ["_law_script"] (r6 K):=by
 have e:=hfa.symm.trans (PySem.W.mg_of X G a25)
 cases e
 have B1:Binds K d1 ["facts"] []:=ig F1 fun _ _ _ _ _ _ _=>rfl
 have C1:Cal K mg "heads_of" f1 _ ["facts"]:=⟨PySem.W.mg_of X G a1,F1.kp,B1⟩
 have B2:Binds K d2 ["part"] []:=ig F2 fun _ _ _ _ _ _ _=>rfl
 have C2:Cal K mg "ends_of" f2 _ ["part"]:=⟨PySem.W.mg_of X G a2,F2.kp,B2⟩
 have B3:Binds K d3 ["telling"] []:=ig F3 fun _ _ _ _ _ _ _=>rfl
 have C3:Cal K mg "names_of" f3 _ ["telling"]:=⟨PySem.W.mg_of X G a3,F3.kp,B3⟩
 have B4:Binds K d4 ["knowledge", "names"] []:=dm F4 fun _ _ _ _ _ _ _ _=>rfl
 have C4:Cal K mg "numbered" f4 _ ["knowledge", "names"]:=⟨PySem.W.mg_of X G a4,F4.kp,B4⟩
 have B5:Binds K d5 ["part", "values", "spares", "beside"] []:=a5p F5 fun _ _ _ _ _ _ _ _ _ _=>rfl
 have C5:Cal K mg "cells_of" f5 _ ["part", "values", "spares", "beside"]:=⟨PySem.W.mg_of X G a5,F5.kp,B5⟩
 have B6:Binds K d6 ["knowledge", "names", "amid"] []:=cz F6 fun _ _ _ _ _ _ _ _ _=>rfl
 have C6:Cal K mg "state_of" f6 _ ["knowledge", "names", "amid"]:=⟨PySem.W.mg_of X G a6,F6.kp,B6⟩
 have B7:Binds K d7 ["facts", "parts", "names"] []:=cz F7 fun _ _ _ _ _ _ _ _ _=>rfl
 have C7:Cal K mg "example" f7 _ ["facts", "parts", "names"]:=⟨PySem.W.mg_of X G a7,F7.kp,B7⟩
 have B8:Binds K d8 ["_law_script", "_law_k"] []:=dm F8 fun _ _ _ _ _ _ _ _=>rfl
 have C8:Cal K mg "_law_cell_at" f8 _ ["_law_script", "_law_k"]:=⟨PySem.W.mg_of X G a8,F8.kp,B8⟩
 have B9:Binds K d9 ["_law_found"] []:=ig F9 fun _ _ _ _ _ _ _=>rfl
 have C9:Cal K mg "_law_whole" f9 _ ["_law_found"]:=⟨PySem.W.mg_of X G a9,F9.kp,B9⟩
 have B10:Binds K d10 ["_law_cell", "_law_k"] []:=dm F10 fun _ _ _ _ _ _ _ _=>rfl
 have C10:Cal K mg "_law_mixed" f10 _ ["_law_cell", "_law_k"]:=⟨PySem.W.mg_of X G a10,F10.kp,B10⟩
 have B11:Binds K d11 ["_law_cell", "_law_many"] []:=dm F11 fun _ _ _ _ _ _ _ _=>rfl
 have C11:Cal K mg "_law_free_names" f11 _ ["_law_cell", "_law_many"]:=⟨PySem.W.mg_of X G a11,F11.kp,B11⟩
 have B12:Binds K d12 ["_law_cell", "_law_many"] []:=dm F12 fun _ _ _ _ _ _ _ _=>rfl
 have C12:Cal K mg "_law_names" f12 _ ["_law_cell", "_law_many"]:=⟨PySem.W.mg_of X G a12,F12.kp,B12⟩
 have B13:Binds K d13 ["_law_cells", "_law_pool"] []:=dm F13 fun _ _ _ _ _ _ _ _=>rfl
 have C13:Cal K mg "_law_drawn" f13 _ ["_law_cells", "_law_pool"]:=⟨PySem.W.mg_of X G a13,F13.kp,B13⟩
 have B14:Binds K d14 ["_law_part"] []:=ig F14 fun _ _ _ _ _ _ _=>rfl
 have C14:Cal K mg "_law_ends" f14 _ ["_law_part"]:=⟨PySem.W.mg_of X G a14,F14.kp,B14⟩
 have B15:Binds K d15 ["_law_table", "_law_one", "_law_other"] []:=cz F15 fun _ _ _ _ _ _ _ _ _=>rfl
 have C15:Cal K mg "_law_put" f15 _ ["_law_table", "_law_one", "_law_other"]:=⟨PySem.W.mg_of X G a15,F15.kp,B15⟩
 have B16:Binds K d16 ["_law_part", "_law_unlike"] []:=dm F16 fun _ _ _ _ _ _ _ _=>rfl
 have C16:Cal K mg "_law_is_full" f16 _ ["_law_part", "_law_unlike"]:=⟨PySem.W.mg_of X G a16,F16.kp,B16⟩
 have B17:Binds K d17 ["_law_parts", "_law_unlike"] []:=dm F17 fun _ _ _ _ _ _ _ _=>rfl
 have C17:Cal K mg "_law_places_apart" f17 _ ["_law_parts", "_law_unlike"]:=⟨PySem.W.mg_of X G a17,F17.kp,B17⟩
 have B18:Binds K d18 ["_law_facts", "_law_parts", "_law_pool"] []:=cz F18 fun _ _ _ _ _ _ _ _ _=>rfl
 have C18:Cal K mg "_law_known" f18 _ ["_law_facts", "_law_parts", "_law_pool"]:=⟨PySem.W.mg_of X G a18,F18.kp,B18⟩
 have B19:Binds K d19 ["_law_values", "_law_heap", "_law_part"] []:=cz F19 fun _ _ _ _ _ _ _ _ _=>rfl
 have C19:Cal K mg "_law_taken" f19 _ ["_law_values", "_law_heap", "_law_part"]:=⟨PySem.W.mg_of X G a19,F19.kp,B19⟩
 have B20:Binds K d20 ["_law_values", "_law_heap", "_law_telling"] []:=cz F20 fun _ _ _ _ _ _ _ _ _=>rfl
 have C20:Cal K mg "_law_cover" f20 _ ["_law_values", "_law_heap", "_law_telling"]:=⟨PySem.W.mg_of X G a20,F20.kp,B20⟩
 have B21:Binds K d21 ["_law_values", "_law_heap", "_law_telling"] []:=cz F21 fun _ _ _ _ _ _ _ _ _=>rfl
 have C21:Cal K mg "_law_fits" f21 _ ["_law_values", "_law_heap", "_law_telling"]:=⟨PySem.W.mg_of X G a21,F21.kp,B21⟩
 have B22:Binds K d22 ["_law_facts", "_law_parts", "_law_pool"] []:=cz F22 fun _ _ _ _ _ _ _ _ _=>rfl
 have C22:Cal K mg "_law_good" f22 _ ["_law_facts", "_law_parts", "_law_pool"]:=⟨PySem.W.mg_of X G a22,F22.kp,B22⟩
 have B23:Binds K d23 ["_law_facts", "_law_parts", "_law_pool"] []:=cz F23 fun _ _ _ _ _ _ _ _ _=>rfl
 have C23:Cal K mg "_law_ready" f23 _ ["_law_facts", "_law_parts", "_law_pool"]:=⟨PySem.W.mg_of X G a23,F23.kp,B23⟩
 have B24:Binds K d24 ["_law_found", "_law_facts", "_law_parts", "_law_names_here", "_law_pool"] []:=a5e F24 fun _ _ _ _ _ _ _ _ _ _ _=>rfl
 have C24:Cal K mg "_law_right" f24 _ ["_law_found", "_law_facts", "_law_parts", "_law_names_here", "_law_pool"]:=⟨PySem.W.mg_of X G a24,F24.kp,B24⟩
 have B26:Binds K d26 ["self", "facts", "parts"] []:=cz F26 fun _ _ _ _ _ _ _ _ _=>rfl
 have C26:MCal K Cl "__init__" f26 _ ["self", "facts", "parts"]:=⟨⟨a26,i26,F26.kp⟩,B26⟩
 have B27:Binds K d27 ["self", "word"] []:=dm F27 fun _ _ _ _ _ _ _ _=>rfl
 have C27:MCal K Cl "head" f27 _ ["self", "word"]:=⟨⟨a27,i27,F27.kp⟩,B27⟩
 have B28:Binds K d28 ["self", "one", "other"] []:=cz F28 fun _ _ _ _ _ _ _ _ _=>rfl
 have C28:MCal K Cl "alike" f28 _ ["self", "one", "other"]:=⟨⟨a28,i28,F28.kp⟩,B28⟩
 have B29:Binds K d29 ["self", "one", "other"] []:=cz F29 fun _ _ _ _ _ _ _ _ _=>rfl
 have C29:MCal K Cl "unlike" f29 _ ["self", "one", "other"]:=⟨⟨a29,i29,F29.kp⟩,B29⟩
 have B30:Binds K d30 ["self", "one", "other"] []:=cz F30 fun _ _ _ _ _ _ _ _ _=>rfl
 have C30:MCal K Cl "tell_unlike" f30 _ ["self", "one", "other"]:=⟨⟨a30,i30,F30.kp⟩,B30⟩
 have B31:Binds K d31 ["self", "number"] []:=dm F31 fun _ _ _ _ _ _ _ _=>rfl
 have C31:MCal K Cl "is_empty" f31 _ ["self", "number"]:=⟨⟨a31,i31,F31.kp⟩,B31⟩
 have B32:Binds K d32 ["self", "number"] []:=dm F32 fun _ _ _ _ _ _ _ _=>rfl
 have C32:MCal K Cl "must_be_full" f32 _ ["self", "number"]:=⟨⟨a32,i32,F32.kp⟩,B32⟩
 have B33:Binds K d33 ["self"] []:=ig F33 fun _ _ _ _ _ _ _=>rfl
 have C33:MCal K Cl "find_fulls" f33 _ ["self"]:=⟨⟨a33,i33,F33.kp⟩,B33⟩
 have B34:Binds K d34 ["self", "number"] []:=dm F34 fun _ _ _ _ _ _ _ _=>rfl
 have C34:MCal K Cl "tell_full" f34 _ ["self", "number"]:=⟨⟨a34,i34,F34.kp⟩,B34⟩
 have C:Con K mg w:={
   noNames:=⟨aN,a3o X G gN,fun _ => .inr ⟨oN,itN,nN,lN,cN,dN,Nat.le_trans sN (by decide),vN⟩⟩
   min:=PySem.W.mg_none_of X G z1
   len:=PySem.W.mg_none_of X G z2
   all:=PySem.W.mg_none_of X G z3
   any:=PySem.W.mg_none_of X G z4
   isi:=PySem.W.mg_none_of X G z5
   list:=PySem.W.mg_none_of X G z6
   int:=PySem.W.mg_none_of X G z7
   bool:=PySem.W.mg_none_of X G z8
   str:=PySem.W.mg_none_of X G z9
   dict:=PySem.W.mg_none_of X G z10
   sorted:=PySem.W.mg_none_of X G z11
   set:=PySem.W.mg_none_of X G z12
   sum:=PySem.W.mg_none_of X G z13
   range:=PySem.W.mg_none_of X G z14
   tuple:=PySem.W.mg_none_of X G z15
   max:=PySem.W.mg_none_of X G z16
   zip:=PySem.W.mg_none_of X G z17 }
 have T:Txt K mg Cl f26:=⟨⟨pg,hd,po,sa⟩,nP,nH,nU,nF,nE,PySem.W.mg_of X G aC,⟨mk,a26,i26,kc⟩⟩
 obtain ⟨_,_,kV,dc,pm,an,cd,ct,_,rfl,_,_⟩:=id F25.ex
 refine ⟨PySem.W.fnOf "law" "law" (ff sLaw) (dr sLaw) (ao sLaw) .none kV dc pm an cd ct,fun s v => .of_eq rfl,fun base _ _=>?_⟩
 have O1:=yf (P:=l.prog) (base:=base) C F1
 have O3:=zg (P:=l.prog) (base:=base) C F3
 have O2:=a65 (P:=l.prog) (w:=w) (mg:=mg) (base:=base) F2
 have O27:=a5y (P:=l.prog) (w:=w) (base:=base) T F27
 have O28:=a2k  T F28 O27 C27
 have O29:=zu  T F29 O27 C27
 have O30:=a47  T F30 O27 C27
 have O31:=a4b  T F31 O2 C2 O28 C28
 have O32:=a5x  T F32 O2 C2 O29 C29
 have O34:=a4a  T F34 O30 C30
 have O33:=a5w  C T F33 O32 C32 O34 C34
 have O26:=a2w  C T F26 O1 C1 O30 C30 O33 C33 O31 C31
 have O4:=v8  C T F4 O27 C27
 have O5:=yl (P:=l.prog) (w:=w) (mg:=mg) (base:=base) F5
 have O6:=ze  C T F6 O4 C4 O5 C5
 have O7:=yx  C T F7 O26 B26 O3 C3 O6 C6
 have O8:=a2a (P:=l.prog) (base:=base) C F8
 have O10:=a2g (P:=l.prog) (base:=base) C F10
 have O11:=a6j (P:=l.prog) (base:=base) C F11
 have O12:=a4c  C F12 O11 C11
 have O13:=a2v  C F13 O10 C10
 have O9:=a3n (P:=l.prog) (base:=base) C F9
 have O14:=a4f (P:=l.prog) (w:=w) (mg:=mg) (base:=base) F14
 have O15:=a6v (P:=l.prog) (w:=w) (mg:=mg) (base:=base) F15
 have O16:=a1o  F16 O14 C14
 have O17:=a3t  C F17 O16 C16 O15 C15
 have O18:=a0c  C F18 O17 C17 O15 C15
 have O19:=a3c (P:=l.prog) (base:=base) C F19
 have O20:=a2s  C F20 O19 C19
 have O21:=a5f  C F21 O20 C20
 have O22:=a64  C F22 O18 C18 O14 C14
 have O23:=a3b  C F23 O22 C22
 have O24:=a2z  C F24 O9 C9 O18 C18 O21 C21
 exact a8c C F25 O8 C8 O12 C12 O13 C13 O23 C23 O7 C7 O24 C24
theorem walk {l:PySem.W.OpenLaw} {q:Program} {loose:List Str} {XP:(Str -> Option Value) -> Heap -> Prop} {YP:World -> Heap -> Prop} {d:DefRec} {K:Params -> PySem.W.Frag} (hn:l.most = some 63) (hdf:d.params.defaults = [])
   (hY:∀ (w:World) (h:Heap),YP w h -> (K w.params).In h)
   (F:∀ (w:World) (mg:Str -> Option Value) (fa:Addr) (h:Heap),(K w.params).In h -> h.Ns mainGlobals mg -> mg d.name = some (.ref fa) ->
     ∃ fd:FuncData,(∀ (s:Shared) (u:Value),BindsTo s fd ⟨[u],[]⟩ [("_law_script",u)]) /\ ∀ base:Heap,(K w.params).In base -> base.Ns mainGlobals mg -> FnOk l.prog w (K w.params) mg base CX0 8 fa fd ["_law_script"] (r6 (K w.params))) :
   PySem.W.WalkO q loose XP YP l.row.toRowW d [] (fun f vs=>PySem.call f vs) :=
 L2.walk_of (n:=63) (k:=8) (x := "_law_script") (CX:=fun _=>CX0) (sp:=fun w=>r6 (K w.params)) hn (by decide) hdf ⟨rfl,by decide,by decide⟩ hY F (fun _ _ a ns hl _ hS=>⟨a,ns,rfl,hS,fun _=>rfl⟩) fun _ _ _ _ _ z=>z
end K23
open PySem PySem.W PyProof.Rows
theorem PySem.W.Fast.te5182737355217987799 : True := trivial
theorem PySem.W.Fast.tw5182737355217987799 : True := trivial
set_option maxRecDepth 100000 in
set_option maxHeartbeats 0 in
theorem PySem.Challenge.cw_apart_k23_examples_holds : PySem.Challenge.rw_apart_k23_examples.Holds := by
 w_on; o_law; k_head; (case hw => w_witness2)
 k_fill
 refine K23.walk (l := PySem.Challenge.rw_apart_k23_examples) rfl rfl (fun w h Y => PySem.W.kIn_of Y) ?F
 case F =>
   intro w mg fa h KX G hmg
   refine' K23.all_mk KX G hmg ?aC ?a1 ?F1 ?a2 ?F2 ?a3 ?F3 ?a4 ?F4 ?a5 ?F5 ?a6 ?F6 ?a7 ?F7 ?a8 ?F8 ?a9 ?F9 ?a10 ?F10 ?a11 ?F11 ?a12 ?F12 ?a13 ?F13 ?a14 ?F14 ?a15 ?F15 ?a16 ?F16 ?a17 ?F17 ?a18 ?F18 ?a19 ?F19 ?a20 ?F20 ?a21 ?F21 ?a22 ?F22 ?a23 ?F23 ?a24 ?F24 ?a25 ?F25 ?a26 ?i26 ?F26 ?a27 ?i27 ?F27 ?a28 ?i28 ?F28 ?a29 ?i29 ?F29 ?a30 ?i30 ?F30 ?a31 ?i31 ?F31 ?a32 ?i32 ?F32 ?a33 ?i33 ?F33 ?a34 ?i34 ?F34 ?z1 ?z2 ?z3 ?z4 ?z5 ?z6 ?z7 ?z8 ?z9 ?z10 ?z11 ?z12 ?z13 ?z14 ?z15 ?z16 ?z17 ?gN ?lN ?cN ?dN ?sN ?vN ?pg ?hd ?po ?sa ?mk ?kc ?nP ?nH ?nU ?nF ?nE
   (case aC => k_is)
   (case a1 => k_is)
   (case F1 => (refine' L2.fun_mk ?l ?c ?k; (case l => k_is); (case c => k_is); (case k => k_is)))
   (case a2 => k_is)
   (case F2 => (refine' L2.fun_mk ?l ?c ?k; (case l => k_is); (case c => k_is); (case k => k_is)))
   (case a3 => k_is)
   (case F3 => (refine' L2.fun_mk ?l ?c ?k; (case l => k_is); (case c => k_is); (case k => k_is)))
   (case a4 => k_is)
   (case F4 => (refine' L2.fun_mk ?l ?c ?k; (case l => k_is); (case c => k_is); (case k => k_is)))
   (case a5 => k_is)
   (case F5 => (refine' L2.fun_mk ?l ?c ?k; (case l => k_is); (case c => k_is); (case k => k_is)))
   (case a6 => k_is)
   (case F6 => (refine' L2.fun_mk ?l ?c ?k; (case l => k_is); (case c => k_is); (case k => k_is)))
   (case a7 => k_is)
   (case F7 => (refine' L2.fun_mk ?l ?c ?k; (case l => k_is); (case c => k_is); (case k => k_is)))
   (case a8 => k_is)
   (case F8 => (refine' L2.fun_mk ?l ?c ?k; (case l => k_is); (case c => k_is); (case k => k_is)))
   (case a9 => k_is)
   (case F9 => (refine' L2.fun_mk ?l ?c ?k; (case l => k_is); (case c => k_is); (case k => k_is)))
   (case a10 => k_is)
   (case F10 => (refine' L2.fun_mk ?l ?c ?k; (case l => k_is); (case c => k_is); (case k => k_is)))
   (case a11 => k_is)
   (case F11 => (refine' L2.fun_mk ?l ?c ?k; (case l => k_is); (case c => k_is); (case k => k_is)))
   (case a12 => k_is)
   (case F12 => (refine' L2.fun_mk ?l ?c ?k; (case l => k_is); (case c => k_is); (case k => k_is)))
   (case a13 => k_is)
   (case F13 => (refine' L2.fun_mk ?l ?c ?k; (case l => k_is); (case c => k_is); (case k => k_is)))
   (case a14 => k_is)
   (case F14 => (refine' L2.fun_mk ?l ?c ?k; (case l => k_is); (case c => k_is); (case k => k_is)))
   (case a15 => k_is)
   (case F15 => (refine' L2.fun_mk ?l ?c ?k; (case l => k_is); (case c => k_is); (case k => k_is)))
   (case a16 => k_is)
   (case F16 => (refine' L2.fun_mk ?l ?c ?k; (case l => k_is); (case c => k_is); (case k => k_is)))
   (case a17 => k_is)
   (case F17 => (refine' L2.fun_mk ?l ?c ?k; (case l => k_is); (case c => k_is); (case k => k_is)))
   (case a18 => k_is)
   (case F18 => (refine' L2.fun_mk ?l ?c ?k; (case l => k_is); (case c => k_is); (case k => k_is)))
   (case a19 => k_is)
   (case F19 => (refine' L2.fun_mk ?l ?c ?k; (case l => k_is); (case c => k_is); (case k => k_is)))
   (case a20 => k_is)
   (case F20 => (refine' L2.fun_mk ?l ?c ?k; (case l => k_is); (case c => k_is); (case k => k_is)))
   (case a21 => k_is)
   (case F21 => (refine' L2.fun_mk ?l ?c ?k; (case l => k_is); (case c => k_is); (case k => k_is)))
   (case a22 => k_is)
   (case F22 => (refine' L2.fun_mk ?l ?c ?k; (case l => k_is); (case c => k_is); (case k => k_is)))
   (case a23 => k_is)
   (case F23 => (refine' L2.fun_mk ?l ?c ?k; (case l => k_is); (case c => k_is); (case k => k_is)))
   (case a24 => k_is)
   (case F24 => (refine' L2.fun_mk ?l ?c ?k; (case l => k_is); (case c => k_is); (case k => k_is)))
   (case a25 => k_is)
   (case F25 => (refine' L2.fun_mk ?l ?c ?k; (case l => k_is); (case c => k_is); (case k => k_is)))
   (case a26 => k_is)
   (case i26 => k_is)
   (case F26 => (refine' L2.fun_mk ?l ?c ?k; (case l => k_is); (case c => k_is); (case k => k_is)))
   (case a27 => k_is)
   (case i27 => k_is)
   (case F27 => (refine' L2.fun_mk ?l ?c ?k; (case l => k_is); (case c => k_is); (case k => k_is)))
   (case a28 => k_is)
   (case i28 => k_is)
   (case F28 => (refine' L2.fun_mk ?l ?c ?k; (case l => k_is); (case c => k_is); (case k => k_is)))
   (case a29 => k_is)
   (case i29 => k_is)
   (case F29 => (refine' L2.fun_mk ?l ?c ?k; (case l => k_is); (case c => k_is); (case k => k_is)))
   (case a30 => k_is)
   (case i30 => k_is)
   (case F30 => (refine' L2.fun_mk ?l ?c ?k; (case l => k_is); (case c => k_is); (case k => k_is)))
   (case a31 => k_is)
   (case i31 => k_is)
   (case F31 => (refine' L2.fun_mk ?l ?c ?k; (case l => k_is); (case c => k_is); (case k => k_is)))
   (case a32 => k_is)
   (case i32 => k_is)
   (case F32 => (refine' L2.fun_mk ?l ?c ?k; (case l => k_is); (case c => k_is); (case k => k_is)))
   (case a33 => k_is)
   (case i33 => k_is)
   (case F33 => (refine' L2.fun_mk ?l ?c ?k; (case l => k_is); (case c => k_is); (case k => k_is)))
   (case a34 => k_is)
   (case i34 => k_is)
   (case F34 => (refine' L2.fun_mk ?l ?c ?k; (case l => k_is); (case c => k_is); (case k => k_is)))
   (case z1 => k_is)
   (case z2 => k_is)
   (case z3 => k_is)
   (case z4 => k_is)
   (case z5 => k_is)
   (case z6 => k_is)
   (case z7 => k_is)
   (case z8 => k_is)
   (case z9 => k_is)
   (case z10 => k_is)
   (case z11 => k_is)
   (case z12 => k_is)
   (case z13 => k_is)
   (case z14 => k_is)
   (case z15 => k_is)
   (case z16 => k_is)
   (case z17 => k_is)
   (case gN => k_is)
   (case lN => k_is)
   (case cN => rfl)
   (case dN => rfl)
   (case sN => decide)
   (case vN => repeat (first | exact .nil | refine .cons ⟨_, rfl⟩ ?_))
   (case pg => k_is)
   (case hd => k_is)
   (case po => k_is)
   (case sa => k_is)
   (case mk => k_is)
   (case kc => k_is)
   (case nP => k_is)
   (case nH => k_is)
   (case nU => k_is)
   (case nF => k_is)
   (case nE => k_is)
