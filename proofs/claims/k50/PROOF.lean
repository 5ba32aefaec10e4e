import PyProof.Rows.All
import Wide.All
import OpenK.AllK
import Wide.FinOn
import Lean
import PyProof.EqAt
import PyProof.EqKinds
import PyProof.TupleCall
import PySem.Challenge.RW_apart_k50_plain_deeds
set_option maxHeartbeats 16000000
set_option Elab.async false
set_option linter.all false
set_option compiler.extract_closed false
set_option maxRecDepth 100000
namespace L2
open PySem PySem.Spec PyProof.Rows
abbrev Key:=Sum Int Str
noncomputable def mt:Key->Value->Bool
 | .inl k,v=>Value.isInt k v
 | .inr x,v=>Value.isStrOf x v
noncomputable def keyH (w:World):Key->Int
 | .inl k=>hashInt k
 | .inr x=>hashStr w x
theorem ci:∀{k:Key}{v:Value},mt k v=true->(∃i t,k=Sum.inl i/\v=Value.int i t)\/(∃x t,k=Sum.inr x/\v=Value.str x t)
 | .inl i,v,h=>by
   obtain⟨t,e⟩:=Value.isInt_shape (k:=i) (v:=v) h
   exact .inl ⟨i,t,rfl,e⟩
 | .inr x,v,h=>by
   obtain⟨t,e⟩:=Value.isStrOf_shape (x:=x) (v:=v) h
   exact .inr ⟨x,t,rfl,e⟩
theorem a3z (i:Int) (t:Tok):mt (.inl i) (.int i t)=true:=by simp[mt,Value.isInt]
theorem a1j (x:Str) (t:Tok):mt (.inr x) (.str x t)=true:=by simp[mt,Value.isStrOf]
theorem a9y (a b:Int):decide ((Sum.inl a:Key)=Sum.inl b)=(a == b):=by
 by_cases e:a=b
 . subst e;simp
 . have h:¬ (Sum.inl a:Key)=Sum.inl b:=fun q=>e (Sum.inl.inj q)
   rw[decide_eq_false h]
   exact (beq_eq_false_iff_ne.mpr e).symm
theorem a8u (a b:Str):decide ((Sum.inr a:Key)=Sum.inr b)=decide (a=b):=by
 by_cases e:a=b
 . subst e;simp
 . have h:¬ (Sum.inr a:Key)=Sum.inr b:=fun q=>e (Sum.inr.inj q)
   rw[decide_eq_false h,decide_eq_false e]
theorem aa5 (a:Int) (b:Str):decide ((Sum.inl a:Key)=Sum.inr b)=false:=decide_eq_false (fun q=>nomatch q)
theorem a9l (a:Str) (b:Int):decide ((Sum.inr a:Key)=Sum.inl b)=false:=decide_eq_false (fun q=>nomatch q)
noncomputable def bw (prog:Program) (w:World):PySem.KeyKind prog w Key where
 is:=mt
 hash:=keyH w
 inj:=fun v a b ha hb=>by
   rcases ci ha with⟨i,t,rfl,rfl⟩|⟨x,t,rfl,rfl⟩
   . rcases ci hb with⟨j,u,rfl,e⟩|⟨y,u,rfl,e⟩
     . injection e with e1 _;rw[e1]
     . exact nomatch e
   . rcases ci hb with⟨j,u,rfl,e⟩|⟨y,u,rfl,e⟩
     . exact nomatch e
     . injection e with e1 _;rw[e1]
 byValue:=fun k v h=>by
   rcases ci h with⟨i,t,rfl,rfl⟩|⟨x,t,rfl,rfl⟩<;>rfl
 pyHash:=fun hv h=>by
   rcases ci hv with⟨i,t,rfl,rfl⟩|⟨x,t,rfl,rfl⟩
   . exact wpAny_pyHash_int h
   . exact wpAny_pyHash_str h
 eqBool:=fun hu hv h=>by
   rcases ci hu with⟨i,t,rfl,rfl⟩|⟨x,t,rfl,rfl⟩
   . rcases ci hv with⟨j,u,rfl,rfl⟩|⟨y,u,rfl,rfl⟩
     . rw[a9y] at h;exact wpAny_eqBool_int h
     . rw[aa5] at h;exact SeqAt.EqAt.int_str i t y u _ _ _ _ h
   . rcases ci hv with⟨j,u,rfl,rfl⟩|⟨y,u,rfl,rfl⟩
     . rw[a9l] at h;exact SeqAt.EqAt.str_int x t j u _ _ _ _ h
     . rw[a8u] at h;exact wpAny_eqBool_str h
 «strs» := fun k x t v h=>by
   rcases ci h with⟨i,u,rfl,e⟩|⟨y,u,rfl,e⟩
   . exact nomatch e
   . injection e with e1 _
     subst e1
     cases v<;>rfl
theorem xr (prog:Program) (w:World) (i:Int) (t:Tok):(bw prog w).is (.inl i) (.int i t)=true:=a3z i t
theorem xm (prog:Program) (w:World) (x:Str) (t:Tok):(bw prog w).is (.inr x) (.str x t)=true:=a1j x t
inductive V where
 | non|bl (b:Bool)|int (i:Int)|str (x:Str)|byt (b:Array UInt8)|flt (b:UInt64)|ref (a:Addr)|ty (n:String)
 deriving DecidableEq
noncomputable def RelV:V->Value->Prop
 | .non,u=>u=Value.none
 | .bl b,u=>u=Value.bool b
 | .int i,u=>∃t,u=Value.int i t
 | .str x,u=>∃t,u=Value.str x t
 | .byt b,u=>∃t,u=Value.bytes b t
 | .flt b,u=>∃t,u=Value.float b t
 | .ref a,u=>u=Value.ref a
 | .ty n,u=>u=Value.type n
abbrev Vals:List V->List Value->Prop:=Paired RelV
theorem Vals.length {xs:List V}{us:List Value}(r:Vals xs us):xs.length=us.length:=Paired.length r
theorem Vals.get:∀{xs:List V}{us:List Value}{i:Nat}{x:V},Vals xs us->xs[i]? = some x->∃u,us[i]? = some u/\RelV x u
 | _,_,_,_,.nil,e=>by simp at e
 | _,_,0,_,.cons r _,e=>by simp at e;subst e;exact⟨_,rfl,r⟩
 | _,_,i+1,x,.cons _ t,e=>by
   obtain⟨u,h1,h2⟩:=Vals.get (i:=i) (x:=x) t (by simpa using e)
   exact⟨u,by simpa using h1,h2⟩
theorem Vals.set {x:V}{u:Value}(r:RelV x u):∀{xs:List V}{us:List Value}(i:Nat),Vals xs us->Vals (xs.set i x) (us.set i u)
 | _,_,_,.nil=>.nil
 | _,_,0,.cons _ t=>.cons r t
 | _,_,i+1,.cons q t=>.cons q (Vals.set r i t)
theorem Vals.append:∀{xs ys:List V}{us ws:List Value},Vals xs us->Vals ys ws->Vals (xs++ys) (us++ws)
 | _,_,_,_,.nil,s=>s
 | _,_,_,_,.cons r t,s=>.cons r (Vals.append t s)
theorem Vals.take:∀{xs:List V}{us:List Value}(n:Nat),Vals xs us->Vals (xs.take n) (us.take n)
 | _,_,0,_=>.nil
 | _,_,_+1,.nil=>.nil
 | _,_,n+1,.cons r t=>.cons r (Vals.take n t)
theorem Vals.drop:∀{xs:List V}{us:List Value}(n:Nat),Vals xs us->Vals (xs.drop n) (us.drop n)
 | _,_,0,r=>r
 | _,_,_+1,.nil=>.nil
 | _,_,n+1,.cons _ t=>Vals.drop n t
noncomputable def RelO:Option V->Option Value->Prop
 | some v,some u=>RelV v u
 | none,none=>True
 | _,_=>False
noncomputable def KV {κ:Type}:List (κ×V)->List (κ×Value)->Prop:=Paired fun (p:κ×V) (q:κ×Value)=>p.1=q.1/\RelV p.2 q.2
noncomputable def kV:Key->V
 | .inl i=>.int i
 | .inr x=>.str x
inductive HO where
 /-- a list -/
 | lst (xs:List V)
 /-- a tuple (never changes) -/
 | tup (xs:List V)
 /-- a dict whose keys are ints and texts;one whose keys are tuples of ints and texts (the empty one is both) -/
 | dK (kvs:List (Key×V))|dT (kvs:List (List Key×V))
 /-- a set of ints: its members,its size -/
 | set (S:Int->Bool) (n:Nat)
 /-- an instance of the class at C,its dict at dx,its attributes -/
 | ins (C dx:Addr) (fs:List (Str×V))
 /-- the dict of the instance at x -/
 | own (x:Addr)
 /-- the dict of an exception -/
 | xd (fs:List (Str×V))
 /-- a bound method,f of x -/
 | met (f x:Addr)
 /-- a range object lo,lo+1,.. below hi -/
 | rng (lo hi:Int)
 /-- a thing that is known to the object (the script;a dict while a loop walks it): read,never written while it is so -/
 | frz (o:Obj) (u:HO)
 /-- a code object's table -/
 | tbl (ps:Array Value)
 /-- any other thing,by what is true of its one object (a def of one's own: SetO a S n:=HO.ext fun h=>..) -/
 | ext (φ:Heap->Prop)
abbrev Hp:=Addr->Option HO
noncomputable def upd (H:Hp) (a:Addr) (o:HO):Hp:=fun b=>if b=a then some o else H b
theorem a0 {H:Hp}{a:Addr}{o:HO}:upd H a o a=some o:=by unfold upd;rw[if_pos rfl]
theorem ac {H:Hp}{a b:Addr}{o:HO}(h:b≠a):upd H a o b=H b:=by unfold upd;rw[if_neg h]
theorem aas {H:Hp}{a b:Addr}{o u:HO}(h:H a=some o) (h':H b=some u) (d:o≠u):a≠b:=by
 intro e;subst e;rw[h] at h';exact d (Option.some.inj h')
theorem ai {H:Hp}{a b:Addr}{o:HO}(h:H a=some o) (h':H b=none):a≠b:=by
 intro e;subst e;rw[h] at h';cases h'
section
variable (P:Program) (w:World)
noncomputable def ObjOk (H:Hp) (h:Heap) (a:Addr):HO->Prop
 | .lst xs=>xs.length<=sizeLine/\∃(its:List Value) (n:Nat),Vals xs its/\h.get? a=some { cls:=.type "list",data:=.seq its.toArray n }
 | .tup xs=>xs.length<=sizeLine/\∃its:List Value,Vals xs its/\IsTup h a its.toArray
 | .dK kvs=>kvs.length<=sizeLine/\(a == sysModules)=false/\∃vs,KV kvs vs/\h.DictOf (bw P w) a vs
 | .dT kvs=>kvs.length<=sizeLine/\(a == sysModules)=false/\∃xs:List (List Key×Addr×Value),
     Paired (fun (p:List Key×V) (q:List Key×Addr×Value)=>p.1=q.1/\H q.2.1=some (.tup (p.1.map kV))/\RelV p.2 q.2.2) kvs xs/\
     ∃o es ep,h.get? a=some o/\o.ExactDict/\o.data=.dict es ep/\es.toList=xs.map (entryOfKey (tupleKind (bw P w)))/\(xs.map (·.1)).Nodup
 | .set S n=>h.SetOf (intKind P w) a S n
 | .ins C dx fs=>H dx=some (.own a)/\fs.length<=1000/\dx≠a/\h.get? a=some (PySem.W.instObj C dx)/\
     ∃mA,h.Ns1 dx mA/\(∀f,RelO (fs.lookup f) (mA f))/\PySem.Within mA (fs.map (·.1))
 | .own _=>∃o,h.get? a=some o
 | .xd fs=>∃mA,h.Ns1 a mA/\∀f,RelO (fs.lookup f) (mA f)
 | .rng lo hi=>∃t u v,h.get? a=some { cls:=.type "range",data:=.fields #[.int lo t,.int hi u,.int 1 v] }
 | .frz o u=>h.get? a=some o/\ObjOk H h a u
 | .tbl ps=>h.get? a=some { cls:=.none,data:=.fields ps }
 | .met f x=>h.get? a=some (PySem.W.methodObj (.ref f) (.ref x))
 | .ext φ=>φ h/\(∃o,h.get? a=some o)/\∀h1 h2:Heap,φ h1->(∀o,h1.get? a=some o->h2.get? a=some o)->φ h2
noncomputable def HOk (H:Hp) (h:Heap):Prop:=∀a o,H a=some o->ObjOk P w H h a o
end
section
variable {P:Program}{w:World}{H H':Hp}{h h':Heap}{a:Addr}{o:HO}
theorem ObjOk.lt (x:ObjOk P w H h a o):a<h.objs.size:=by
 cases o with
 | lst xs=>obtain⟨_,_,_,_,e⟩:=x;exact Heap.lt_size e
 | tup xs=>obtain⟨_,_,_,p⟩:=x;exact p.lt
 | dK kvs=>obtain⟨_,_,_,_,o,_,_,e,_⟩:=x;exact Heap.lt_size e
 | dT kvs=>obtain⟨_,_,_,_,o,_,_,e,_⟩:=x;exact Heap.lt_size e
 | set S n=>obtain⟨o,_,_,_,e,_⟩:=x;exact Heap.lt_size e
 | ins C dx fs=>obtain⟨_,_,_,e,_⟩:=x;exact Heap.lt_size e
 | own y=>obtain⟨_,e⟩:=x;exact Heap.lt_size e
 | xd fs=>obtain⟨_,⟨_,_,_,e,_⟩,_⟩:=x;exact Heap.lt_size e
 | rng lo hi=>obtain⟨_,_,_,e⟩:=x;exact Heap.lt_size e
 | frz ob u=>obtain⟨e,_⟩:=x;exact Heap.lt_size e
 | tbl ps=>exact Heap.lt_size (show h.get? a=some _ from x)
 | met f y=>exact Heap.lt_size (show h.get? a=some _ from x)
 | ext φ=>obtain⟨_,⟨_,e⟩,_⟩:=x;exact Heap.lt_size e
theorem Paired.mapP {α β:Type}{F G:α->β->Prop}:∀{l₁:List α}{l₂:List β},Paired F l₁ l₂->(∀a b,F a b->G a b)->Paired G l₁ l₂
 | _,_,.nil,_=>.nil
 | _,_,.cons r t,f=>.cons (f _ _ r) (Paired.mapP t f)
theorem ObjOk.stay (x:ObjOk P w H h a o) (k:∀b u,(b=a\/H b=some (.own a))->h.get? b=some u->h'.get? b=some u)
   (ho:∀b,H b=some (.own a)->H' b=some (.own a)) (ht:∀b xs,H b=some (.tup xs)->H' b=some (.tup xs)):ObjOk P w H' h' a o:=by
 induction o with
 | lst xs=>obtain⟨z,its,n,r,e⟩:=x;exact⟨z,its,n,r,k _ _ (.inl rfl) e⟩
 | tup xs=>obtain⟨z,its,r,ob,e,c⟩:=x;exact⟨z,its,r,ob,k _ _ (.inl rfl) e,c⟩
 | dK kvs=>obtain⟨z,y,vs,r,ob,es,ep,e,c⟩:=x;exact⟨z,y,vs,r,ob,es,ep,k _ _ (.inl rfl) e,c⟩
 | dT kvs =>
   obtain⟨z,y,xs,r,ob,es,ep,e,c⟩:=x
   exact⟨z,y,xs,Paired.mapP r fun p q z=>⟨z.1,ht _ _ z.2.1,z.2.2⟩,ob,es,ep,k _ _ (.inl rfl) e,c⟩
 | set S n=>obtain⟨ob,es,ep,t,e,c⟩:=x;exact⟨ob,es,ep,t,k _ _ (.inl rfl) e,c⟩
 | ins C dx fs =>
   obtain⟨d,z,ne,e,mA,⟨od,es,ep,e2,c⟩,r⟩:=x
   exact⟨ho _ d,z,ne,k _ _ (.inl rfl) e,mA,⟨od,es,ep,k _ _ (.inr d) e2,c⟩,r⟩
 | own y=>obtain⟨ob,e⟩:=x;exact⟨ob,k _ _ (.inl rfl) e⟩
 | xd fs=>obtain⟨mA,⟨od,es,ep,e,c⟩,r⟩:=x;exact⟨mA,⟨od,es,ep,k _ _ (.inl rfl) e,c⟩,r⟩
 | rng lo hi=>obtain⟨t,u,v,e⟩:=x;exact⟨t,u,v,k _ _ (.inl rfl) e⟩
 | frz ob u ih=>obtain⟨e,q⟩:=x;exact⟨k _ _ (.inl rfl) e,ih q⟩
 | tbl ps =>
   have e:h.get? a=some { cls:=.none,data:=.fields ps }:=x
   show h'.get? a=some { cls:=.none,data:=.fields ps }
   exact k a _ (.inl rfl) e
 | met f y =>
   have e:h.get? a=some (PySem.W.methodObj (.ref f) (.ref y)):=x
   show h'.get? a=some (PySem.W.methodObj (.ref f) (.ref y))
   exact k a _ (.inl rfl) e
 | ext φ=>obtain⟨p,⟨o,e⟩,st⟩:=x;exact⟨st _ _ p fun o q=>k _ _ (.inl rfl) q,⟨o,k _ _ (.inl rfl) e⟩,st⟩
theorem HOk.lt (x:HOk P w H h) (e:H a=some o):a<h.objs.size:=(x a o e).lt
theorem HOk.fresh (x:HOk P w H h) (e:h.objs.size<=a):H a=none:=by
 cases q:H a with
 | none=>rfl
 | some u=>exact absurd (Nat.lt_of_lt_of_le (x.lt q) e) (Nat.lt_irrefl _)
theorem HOk.kept (x:HOk P w H h) (k:∀b u,h.get? b=some u->h'.get? b=some u):HOk P w H h':=fun a o e =>
 (x a o e).stay (fun b u _ q=>k b u q) (fun _ q=>q) fun _ _ q=>q
theorem HOk.laid (x:HOk P w H h) (k:∀b u,h.get? b=some u->h'.get? b=some u) (hp:h.objs.size<=a) (new:ObjOk P w (upd H a o) h' a o):HOk P w (upd H a o) h':=fun b u e=>by
 have hn:=x.fresh hp
 by_cases hb:b=a
 . subst hb;rw[a0] at e;cases e;exact new
 . rw[ac hb] at e
   exact (x b u e).stay (fun c v _ q=>k c v q) (fun c q=>by rw[ac (ai q hn)];exact q) fun c xs q=>by rw[ac (ai q hn)];exact q
end
noncomputable def Rd (H:Hp) (a:Addr) (u:HO):Prop:=H a=some u\/∃o,H a=some (.frz o u)
theorem Rd.ok {P:Program}{w:World}{H:Hp}{h:Heap}{a:Addr}{u:HO}(r:Rd H a u) (x:HOk P w H h):ObjOk P w H h a u:=by
 rcases r with r|⟨o,r⟩
 . exact x a u r
 . obtain⟨_,q⟩:=x a _ r
   exact q
noncomputable def Mut:Option HO->Prop
 | some (.lst _)=>True
 | some (.dK _)=>True
 | some (.dT _)=>True
 | some (.set _ _)=>True
 | some (.ins _ _ _)=>True
 | some (.ext _)=>True
 | _=>False
section
variable {P:Program}{w:World}{H:Hp}{h h':Heap}{x e:Addr}{o':HO}
theorem HOk.write (ok:HOk P w H h) (mu:Mut (H x)) (he:e=x\/H e=some (.own x)) (k:∀b u,b≠e->h.get? b=some u->h'.get? b=some u) (heo:∃u,h'.get? e=some u)
   (new:ObjOk P w (upd H x o') h' x o'):HOk P w (upd H x o') h':=fun b u q=>by
 have nown:∀c y,H c=some (.own y)->c≠x:=fun c y r z=>by subst z;rw[r] at mu;exact mu
 have ntup:∀c xs,H c=some (.tup xs)->c≠x:=fun c xs r z=>by subst z;rw[r] at mu;exact mu
 by_cases hb:b=x
 . subst hb;rw[a0] at q;cases q;exact new
 . rw[ac hb] at q
   by_cases hbe:b=e
   . have q':H b=some (.own x):=by
       rcases he with z|z
       . exact absurd (hbe.trans z) hb
       . rw[hbe];exact z
     rw[q] at q';cases q'
     obtain⟨v,hv⟩:=heo
     exact⟨v,by rw[hbe];exact hv⟩
   . refine (ok b u q).stay (fun c v hc r=>k c v ?_ r) (fun c r=>by rw[ac (nown c b r)];exact r) fun c xs r=>by rw[ac (ntup c xs r)];exact r
     rcases hc with rfl|hc
     . exact hbe
     . rintro rfl
       rcases he with z|z
       . exact nown c b hc z
       . rw[hc] at z;cases z;exact hb rfl
end
structure Un (fs ex:List Addr) (H H':Hp) (h h':Heap):Prop where
 keep:∀b o,h.get? b=some o->H b=none->b∉fs->b∉ex->h'.get? b=some o
 slot:∀b o,h.get? b=some o->H b=none->b∈fs->b∉ex->∃sl,h'.get? b=some { o with slots:=sl }
 free:∀b o,h.get? b=some o->H b=none->b∉ex->H' b=none
 there:∀b o,h.get? b=some o->b∉ex->∃o',h'.get? b=some o'
 tups:∀b xs,H b=some (.tup xs)->H' b=some (.tup xs)
 frzs:∀b o u,H b=some (.frz o u)->H' b=some (.frz o u)
 tbls:∀b ps,H b=some (.tbl ps)->∃more,H' b=some (.tbl (ps++more))
section
variable {fs fs' ex ex':List Addr}{H H1 H2:Hp}{h h1 h2 h':Heap}{a x e:Addr}{o:HO}
theorem Un.any (u:Un fs ex H H1 h h1) {b:Addr}{ob:Obj}(q:h.get? b=some ob) (n:H b=none) (hx:b∉ex):∃sl,h1.get? b=some { ob with slots:=sl }:=by
 by_cases hb:b∈fs
 . exact u.slot b ob q n hb hx
 . exact⟨ob.slots,u.keep b ob q n hb hx⟩
theorem Un.kept (k:∀b u,h.get? b=some u->h'.get? b=some u):Un fs ex H H h h' :=
 ⟨fun b ob q _ _ _=>k b ob q,fun b ob q _ _ _=>⟨ob.slots,k b ob q⟩,fun _ _ _ n _=>n,fun b ob q _=>⟨ob,k b ob q⟩,fun _ _ q=>q,fun _ _ _ q=>q,fun _ ps q=>⟨#[],by rw[q];simp⟩⟩
theorem Un.refl:Un fs ex H H h h:=Un.kept fun _ _ q=>q
theorem Un.laid (k:∀b u,h.get? b=some u->h'.get? b=some u) (hp:h.objs.size<=a) (hn:H a=none):Un fs ex H (upd H a o) h h' where
 keep:=fun b u q _ _ _=>k b u q
 slot:=fun b u q _ _ _=>⟨u.slots,k b u q⟩
 free:=fun b u q n _=>by rw[ac (Nat.ne_of_lt (Nat.lt_of_lt_of_le (Heap.lt_size q) hp))];exact n
 there:=fun b u q _=>⟨u,k b u q⟩
 tups:=fun b xs q=>by rw[ac (ai q hn)];exact q
 frzs:=fun b u xs q=>by rw[ac (ai q hn)];exact q
 tbls:=fun b ps q=>⟨#[],by rw[ac (ai q hn),q];simp⟩
theorem Un.write (mu:Mut (H x)) (he:e=x\/H e=some (.own x)) (k:∀b u,b≠e->h.get? b=some u->h'.get? b=some u) (heo:∃u,h'.get? e=some u):Un fs ex H (upd H x o) h h':=by
 have hx:∀b,H b=none->b≠x:=fun b n z=>by subst z;rw[n] at mu;exact mu
 have hb:∀b,H b=none->b≠e:=fun b n z=>by
   subst z
   rcases he with r|r
   . exact hx b n r
   . rw[n] at r;cases r
 have hm:∀b u,H b=some u->¬ Mut (some u)->b≠x:=fun b u q nm z=>by subst z;rw[q] at mu;exact nm mu
 refine⟨fun b u q n _ _=>k b u (hb b n) q,fun b u q n _ _=>⟨u.slots,k b u (hb b n) q⟩,fun b u q n _=>by rw[ac (hx b n)];exact n,fun b u q _=>?_,
   fun b xs q=>by rw[ac (hm b _ q fun z=>z)];exact q,fun b u xs q=>by rw[ac (hm b _ q fun z=>z)];exact q,fun b ps q=>⟨#[],by rw[ac (hm b _ q fun z=>z),q];simp⟩⟩
 by_cases hbe:b=e
 . subst hbe;exact heo
 . exact⟨u,k b u hbe q⟩
end
noncomputable def trk (h:Heap) (H:Hp):List Addr:=(List.range h.objs.size).filter fun a=>(H a).isSome
noncomputable def hidT (h:Heap) (H:Hp):Heap:=PySem.W.hideAll h (trk h H)
theorem a1f (h:Heap) (H:Hp):(hidT h H).objs.size=h.objs.size:=PySem.W.hideAll_size _ _
theorem a50 {h:Heap}{H:Hp}{b:Addr}{o:Obj}(e:h.get? b=some o) (n:H b=none):(hidT h H).get? b=some o :=
 PySem.W.hideAll_get _ e fun hm=>by
   have q:(H b).isSome=true:=(List.mem_filter.mp hm).2
   rw[n] at q;simp at q
theorem a7f {h:Heap}{H:Hp}{b:Addr}{o:Obj}(e:(hidT h H).get? b=some o):h.get? b=some o/\H b=none:=by
 have e':h.get? b=some o:=PySem.W.of_hideAll (trk h H) e
 refine⟨e',?_⟩
 cases q:H b with
 | none=>rfl
 | some x =>
   have hm:b∈trk h H:=List.mem_filter.mpr ⟨List.mem_range.mpr (Heap.lt_size e'),by simp[q]⟩
   have z:(hidT h H).get? b=none:=PySem.W.hideAll_none (trk h H) hm
   rw[z] at e;cases e
noncomputable def a8g (g h:Heap) (L:Addr):List (Addr×Obj):=(List.range h.objs.size).filterMap fun a=>if a=L\/(g.get? a).isSome=true then none else (h.get? a).map fun o=>(a,o)
noncomputable def rest (g h:Heap) (L d:Addr):List (Addr×Obj):=(a8g g h L).filter fun p=>decide (p.1≠d)
structure Mod (K:PySem.W.Frag) (mg:Str->Option Value) (base:Heap):Prop where
 kin:K.In base
 glob:base.Ns mainGlobals mg
 blt:∃mb,base.Ns builtinsNs mb/\∀x:Str,x ≠ "__name__" -> mb x=bootBuiltins x
 nolimit:base.NoLimit
structure Cx where
 prog:Program
 w:World
 K:PySem.W.Frag
 mg:Str->Option Value
 base:Heap
 A:Around
 N:List Str
 s₀:Shared
 H₀:Hp
 env:Env
 outer:List Env
 stack:List Env
 ex:List Addr
 fn:Str->Bool
 calm:Bool
 pn:List (Addr×Obj)
 xe:Value->Shared->Prop
noncomputable def frs (l:List Env):List Addr:=l.filterMap (·.frame)
noncomputable abbrev Cx.fs (X:Cx):List Addr:=frs X.outer
noncomputable def Vis (sc:Scope) (x:Str):Prop:=sc.names.lookup x=some .local\/sc.names.lookup x=some .cell\/sc.names.lookup x=some .free
noncomputable def Loc (sc:Scope) (x:Str):Prop:=sc.names.lookup x=some .local\/sc.names.lookup x=some .cell
noncomputable def Look (env:Env) (h:Heap) (m:Str->Option Value) (x:Str) (u:Value):Prop :=
 (env.kindOf x=some .local/\m x=some u)\/((env.kindOf x=some .cell\/env.kindOf x=some .free)/\∃c,env.cells.lookup x=some c/\h.IsCell c (some u))
structure Cx.Ok (X:Cx):Prop where
 mod:Mod X.K X.mg X.base
 kind:X.env.scope.kind=.function
 glob:X.env.globals=mainGlobals
 blt:X.env.builtins=builtinsNs
 above:X.s₀.heap.objs.size<=X.env.locals
 inj:∀x y c,X.env.cells.lookup x=some c->X.env.cells.lookup y=some c->x=y
 has:∀x,(X.env.kindOf x=some .cell\/X.env.kindOf x=some .free)->∃c,X.env.cells.lookup x=some c
 cab:∀x c,X.fn x=true->X.env.cells.lookup x=some c->X.s₀.heap.objs.size<=c
 hd:X.calm=true->X.A.handled=none
 frames:X.A.frames=some X.stack
 stk:X.stack=X.outer\/(X.stack=X.env::X.outer/\X.env.frame=some X.env.locals)
 exf:∀b∈X.ex,b≠X.env.locals/\∀x c,X.env.cells.lookup x=some c->c≠b
 bs:∀b o,X.base.get? b=some o->X.s₀.heap.get? b=some o/\X.H₀ b=none
 bsz:X.base.objs.size<=X.s₀.heap.objs.size
 noex:∀b o,X.base.get? b=some o->b∉X.ex
 exfs:∀b∈X.ex,b∉X.fs
 funs:X.s₀.heap.FunFrames X.base X.outer
 frf:∀b∈X.fs,X.H₀ b=none
structure Inv (X:Cx) (pins:List (Addr×Obj)) (σ:List (Option V)) (H:Hp) (s:Shared):Prop where
 ok:X.Ok
 os:s.os=X.s₀.os
 bare:AllBare s.gens
 base:Un X.fs X.ex X.H₀ H X.s₀.heap s.heap
 loc:∃m,s.heap.Ns X.env.locals m/\∀(i:Nat) (x:Str) (v:V),X.N[i]? = some x->σ[i]? = some (some v)->Vis X.env.scope x->∃u,RelV v u/\Look X.env s.heap m x u
 cell:∀x c,X.env.cells.lookup x=some c->∃v,s.heap.IsCell c v
 free:H X.env.locals=none
 freeC:∀x c,X.env.cells.lookup x=some c->H c=none
 pin:∀p∈X.pn++pins,s.heap.get? p.1=some p.2/\H p.1=none/\p.1≠X.env.locals/\p.1∉X.fs/\∀v,p.2.data≠.cell v
 hok:HOk X.prog X.w H s.heap
 len:σ.length=X.N.length
section
variable {X:Cx}{pins:List (Addr×Obj)}{σ:List (Option V)}{H H':Hp}{s:Shared}{h':Heap}
theorem Cx.Ok.nofr (ok:X.Ok) {b:Addr}{o:Obj}(e:X.base.get? b=some o):b∉X.fs:=fun hb=>by
 have:=(ok.funs.mem hb).1
 rw[e] at this;cases this
theorem Inv.bs (I:Inv X pins σ H s):∀b o,X.base.get? b=some o->s.heap.get? b=some o/\H b=none:=fun b o e =>
 ⟨I.base.keep b o (I.ok.bs b o e).1 (I.ok.bs b o e).2 (I.ok.nofr e) (I.ok.noex b o e),I.base.free b o (I.ok.bs b o e).1 (I.ok.bs b o e).2 (I.ok.noex b o e)⟩
theorem Inv.bk (I:Inv X pins σ H s):∀b o,X.base.get? b=some o->s.heap.get? b=some o:=fun b o e=>(I.bs b o e).1
theorem Inv.mod (I:Inv X pins σ H s):Mod X.K X.mg X.base:=I.ok.mod
theorem Inv.kIn (I:Inv X pins σ H s):X.K.In s.heap:=I.ok.mod.kin.keeps I.bk
theorem Inv.lt (I:Inv X pins σ H s):X.env.locals<s.heap.objs.size:=let ⟨_,hn,_⟩:=I.loc;hn.lt
theorem Inv.sz (I:Inv X pins σ H s):X.s₀.heap.objs.size<=s.heap.objs.size:=Nat.le_trans I.ok.above (Nat.le_of_lt I.lt)
theorem Inv.nofs (I:Inv X pins σ H s) {a:Addr}(h:s.heap.objs.size<=a):a∉X.fs:=fun hb=>by
 obtain⟨_,o,ho,_⟩:=I.ok.funs.mem hb
 exact absurd (Nat.lt_of_lt_of_le (Heap.lt_size ho) (Nat.le_trans I.sz h)) (Nat.lt_irrefl _)
theorem Inv.cne (I:Inv X pins σ H s):∀x c,X.env.cells.lookup x=some c->c≠X.env.locals:=fun x c e z=>by
 obtain⟨v,o,ho,hd⟩:=I.cell x c e
 obtain⟨m,⟨o',es,ep,ho',hd',_⟩,_⟩:=I.loc
 rw[z,ho'] at ho;cases ho;rw[hd'] at hd;cases hd
theorem Inv.funs (I:Inv X pins σ H s):s.heap.FunFrames X.base X.outer:=by
 have all:∀(l:List Env),(∀b∈frs l,b∈X.fs)->X.s₀.heap.FunFrames X.base l->s.heap.FunFrames X.base l:=by
   intro l
   induction l with
   | nil=>intro _ _;trivial
   | cons env r ih =>
     intro hs hl
     obtain⟨hk,⟨L,o,hf,hn,ho,hd⟩,hr⟩:=hl
     have hL:L∈X.fs:=hs L (by unfold frs;rw[List.filterMap_cons,hf];exact List.mem_cons_self)
     obtain⟨sl,e⟩:=I.base.slot L o ho (I.ok.frf L hL) hL fun z=>I.ok.exfs L z hL
     exact⟨hk,⟨L,_,hf,hn,e,hd⟩,ih (fun b hb=>hs b (by unfold frs;rw[List.filterMap_cons,hf];exact List.mem_cons_of_mem _ hb)) hr⟩
 exact all X.outer (fun _ hb=>hb) I.ok.funs
theorem Inv.stack (I:Inv X pins σ H s):s.heap.FunFrames X.base X.stack:=by
 rcases I.ok.stk with e|⟨e,hf⟩
 . rw[e];exact I.funs
 . rw[e]
   obtain⟨m,hn,_⟩:=I.loc
   refine .cons (by rw[I.ok.kind];decide) hf hn ?_ I.funs
   exact Heap.get?_none_of_le (Nat.le_trans I.ok.bsz I.ok.above)
theorem Inv.stkSub (I:Inv X pins σ H s):∀b∈frs X.stack,b∈X.env.locals::X.fs:=fun b hb=>by
 rcases I.ok.stk with e|⟨e,hf⟩
 . rw[e] at hb;exact List.mem_cons_of_mem _ hb
 . rw[e] at hb
   unfold frs at hb
   rw[List.filterMap_cons,hf] at hb
   exact hb
theorem Inv.stkFree (I:Inv X pins σ H s):∀b∈frs X.stack,H b=none:=fun b hb=>by
 rcases List.mem_cons.mp (I.stkSub b hb) with e|hb
 . rw[e];exact I.free
 . obtain⟨_,o,ho,_⟩:=I.ok.funs.mem hb
   exact I.base.free b o ho (I.ok.frf b hb) fun z=>I.ok.exfs b z hb
theorem Inv.step {g':Array GenState}{t':Nat}{d':Drawn}{ch:List Addr}(I:Inv X pins σ H s)
   (hch:∀b∈ch,(b∈X.ex\/X.s₀.heap.objs.size<=b)/\b≠X.env.locals/\(∀x c,X.env.cells.lookup x=some c->c≠b)/\∀p∈X.pn++pins,p.1≠b)
   (keep:∀b o,b≠X.env.locals->b∉X.fs->b∉ch->s.heap.get? b=some o->H b=none->h'.get? b=some o)
   (slot:∀b o,b≠X.env.locals->b∈X.fs->b∉ch->s.heap.get? b=some o->H b=none->∃sl,h'.get? b=some { o with slots:=sl }) (free:∀b o,b∉ch->s.heap.get? b=some o->H b=none->H' b=none)
   (there:∀b o,b∉ch->s.heap.get? b=some o->∃o',h'.get? b=some o')
   (tups:∀b xs,H b=some (.tup xs)->H' b=some (.tup xs)) (frzs:∀b o u,H b=some (.frz o u)->H' b=some (.frz o u)) (tbls:∀b ps,H b=some (.tbl ps)->∃more,H' b=some (.tbl (ps++more)))
   (ns:∀m,s.heap.Ns X.env.locals m->h'.Ns X.env.locals m) (hok:HOk X.prog X.w H' h') (hg:AllBare g') :
   Inv X pins σ H' { s with heap:=h',gens:=g',drawn:=d',toks:=t' }:=by
 have neL:∀b o,X.s₀.heap.get? b=some o->b≠X.env.locals:=fun b o e=>Nat.ne_of_lt (Nat.lt_of_lt_of_le (Heap.lt_size e) I.ok.above)
 have neC:∀b o,X.s₀.heap.get? b=some o->b∉X.ex->b∉ch:=fun b o e hx hb=>by
   rcases (hch b hb).1 with z|z
   . exact hx z
   . exact absurd (Nat.lt_of_lt_of_le (Heap.lt_size e) z) (Nat.lt_irrefl _)
 have cellK:∀x c,X.env.cells.lookup x=some c->∀v,s.heap.IsCell c v->h'.IsCell c v:=fun x c e v ⟨o,ho,hd⟩=>by
   have nch:c∉ch:=fun z=>(hch c z).2.2.1 x c e rfl
   by_cases hc:c∈X.fs
   . obtain⟨sl,q⟩:=slot c o (I.cne x c e) hc nch ho (I.freeC x c e)
     exact⟨_,q,hd⟩
   . exact⟨o,keep c o (I.cne x c e) hc nch ho (I.freeC x c e),hd⟩
 refine⟨I.ok,I.os,hg,⟨fun b o e n hb hx=>?_,fun b o e n hb hx=>?_,fun b o e n hx=>?_,fun b o e hx=>?_,fun b xs e=>tups b xs (I.base.tups b xs e),fun b o xs e=>frzs b o xs (I.base.frzs b o xs e),fun b ps e=>?_⟩,?_,fun x c e=>?_,?_,fun x c e=>?_,fun p hp=>?_,hok,I.len⟩
 . exact keep b o (neL b o e) hb (neC b o e hx) (I.base.keep b o e n hb hx) (I.base.free b o e n hx)
 . obtain⟨sl,e1⟩:=I.base.slot b o e n hb hx
   obtain⟨sl',e2⟩:=slot b _ (neL b o e) hb (neC b o e hx) e1 (I.base.free b o e n hx)
   exact⟨sl',e2⟩
 . obtain⟨o',e1⟩:=I.base.there b o e hx
   exact free b o' (neC b o e hx) e1 (I.base.free b o e n hx)
 . obtain⟨o',e1⟩:=I.base.there b o e hx
   exact there b o' (neC b o e hx) e1
 . obtain⟨m1,e1⟩:=I.base.tbls b ps e
   obtain⟨m2,e2⟩:=tbls b _ e1
   exact⟨m1++m2,by rw[e2,Array.append_assoc]⟩
 . obtain⟨m,hn,hl⟩:=I.loc
   refine⟨m,ns m hn,fun i x v e1 e2 e3=>?_⟩
   obtain⟨u,r,l⟩:=hl i x v e1 e2 e3
   refine⟨u,r,?_⟩
   rcases l with l|⟨k,c,e,z⟩
   . exact .inl l
   . exact .inr ⟨k,c,e,cellK x c e _ z⟩
 . obtain⟨v,z⟩:=I.cell x c e
   exact⟨v,cellK x c e v z⟩
 . obtain⟨m,⟨o,_,_,ho,_⟩,_⟩:=I.loc
   exact free _ o (fun z=>(hch _ z).2.1 rfl) ho I.free
 . obtain⟨v,o,ho,hd⟩:=I.cell x c e
   exact free c o (fun z=>(hch c z).2.2.1 x c e rfl) ho (I.freeC x c e)
 . obtain⟨e,n,ne,nf,d⟩:=I.pin p hp
   have nch:p.1∉ch:=fun z=>(hch p.1 z).2.2.2 p hp rfl
   exact⟨keep p.1 p.2 ne nf nch e n,free p.1 p.2 nch e n,ne,nf,d⟩
theorem Inv.un {t':Nat}(I:Inv X pins σ H s) (u:Un X.fs [] H H' s.heap h') (hok:HOk X.prog X.w H' h'):Inv X pins σ H' { s with heap:=h',toks:=t' }:=by
 obtain⟨m,⟨o,es,ep,ho,r⟩,_⟩:=id I.loc
 obtain⟨sl,hL⟩:=u.any ho I.free (by simp)
 exact I.step (g':=s.gens) (d':=s.drawn) (ch:=[]) (fun _ z=>nomatch z) (fun b o _ hb _ e n=>u.keep b o e n hb (by simp)) (fun b o _ hb _ e n=>u.slot b o e n hb (by simp)) (fun b o _ e n=>u.free b o e n (by simp)) (fun b o _ e=>u.there b o e (by simp)) u.tups u.frzs u.tbls (fun m' hm=>by
   obtain⟨o',es',ep',ho',r'⟩:=hm
   rw[ho] at ho';cases ho'
   exact⟨_,es',ep',hL,r'⟩) hok I.bare
theorem Inv.call {g':Array GenState}{t':Nat}{d':Drawn}{ch:List Addr}(I:Inv X pins σ H s) (u:Un (frs X.stack) ch H H' s.heap h') (hok:HOk X.prog X.w H' h') (hg:AllBare g')
   (hch:∀b∈ch,(b∈X.ex\/X.s₀.heap.objs.size<=b)/\b≠X.env.locals/\(∀x c,X.env.cells.lookup x=some c->c≠b)/\∀p∈X.pn++pins,p.1≠b) :
   Inv X pins σ H' { s with heap:=h',gens:=g',drawn:=d',toks:=t' }:=by
 obtain⟨m,⟨o,es,ep,ho,r⟩,_⟩:=id I.loc
 obtain⟨sl,hL⟩:=u.any ho I.free fun z=>(hch _ z).2.1 rfl
 exact I.step (ch:=ch) hch (fun b o hL hb hc e n=>u.keep b o e n (fun z=>(List.mem_cons.mp (I.stkSub b z)).elim hL hb) hc) (fun b o _ _ hc e n=>u.any e n hc) (fun b o hc e n=>u.free b o e n hc) (fun b o hc e=>u.there b o e hc) u.tups u.frzs u.tbls (fun m' hm=>by
   obtain⟨o',es',ep',ho',r'⟩:=hm
   rw[ho] at ho';cases ho'
   exact⟨_,es',ep',hL,r'⟩) hok hg
theorem Inv.turned {t':Nat}{it:Addr}(I:Inv X pins σ H s) (k:∀b o,b≠it->s.heap.get? b=some o->h'.get? b=some o) (hn:H it=none) (hL:it≠X.env.locals)
   (h1:it∈X.ex\/X.s₀.heap.objs.size<=it) (h2:∀x c,X.env.cells.lookup x=some c->c≠it) (h3:∀p∈X.pn++pins,p.1≠it):Inv X pins σ H { s with heap:=h',toks:=t' }:=by
 have nit:∀b u,H b=some u->b≠it:=fun b u e z=>by rw[z,hn] at e;cases e
 refine I.step (g':=s.gens) (d':=s.drawn) (ch:=[it]) (fun b hb=>?_) (fun b o _ _ hc e _=>k b o (fun z=>hc (by simp[z])) e) (fun b o _ _ hc e _=>⟨o.slots,k b o (fun z=>hc (by simp[z])) e⟩) (fun _ _ _ _ n=>n)
   (fun b o hc e=>⟨o,k b o (fun z=>hc (by simp[z])) e⟩) (fun _ _ e=>e) (fun _ _ _ e=>e) (fun b ps e=>⟨#[],by rw[e];simp⟩) (fun m hm=>?_) (fun b u e=>?_) I.bare
 . have e:b=it:=by simpa using hb
   subst e
   exact⟨h1,hL,h2,h3⟩
 . obtain⟨o,es,ep,ho,r⟩:=hm
   exact⟨o,es,ep,k _ o (Ne.symm hL) ho,r⟩
 . refine (I.hok b u e).stay (fun c v hc q=>k c v ?_ q) (fun _ q=>q) fun _ _ q=>q
   rcases hc with z|z
   . rw[z];exact nit b u e
   . exact nit c _ z
theorem Inv.tok (I:Inv X pins σ H s) (t:Nat):Inv X pins σ H { s with toks:=t }:=I.un (h':=s.heap) (t':=t) Un.refl I.hok
theorem Inv.kept {t':Nat}(I:Inv X pins σ H s) (k:∀b u,s.heap.get? b=some u->h'.get? b=some u):Inv X pins σ H { s with heap:=h',toks:=t' }:=I.un (Un.kept k) (I.hok.kept k)
theorem Inv.laid {a:Addr}{o:HO}{t':Nat}(I:Inv X pins σ H s) (k:∀b u,s.heap.get? b=some u->h'.get? b=some u) (hp:s.heap.objs.size<=a) (new:ObjOk X.prog X.w (upd H a o) h' a o) :
   Inv X pins σ (upd H a o) { s with heap:=h',toks:=t' }:=I.un (Un.laid k hp (I.hok.fresh hp)) (I.hok.laid k hp new)
theorem Inv.write {x e:Addr}{o:HO}{t':Nat}(I:Inv X pins σ H s) (mu:Mut (H x)) (he:e=x\/H e=some (.own x)) (k:∀b u,b≠e->s.heap.get? b=some u->h'.get? b=some u) (heo:∃u,h'.get? e=some u)
   (new:ObjOk X.prog X.w (upd H x o) h' x o):Inv X pins σ (upd H x o) { s with heap:=h',toks:=t' }:=I.un (Un.write mu he k heo) (I.hok.write mu he k heo new)
theorem Inv.pins_of {pins':List (Addr×Obj)}(I:Inv X pins σ H s) (h:∀p∈pins',s.heap.get? p.1=some p.2/\H p.1=none/\p.1≠X.env.locals/\p.1∉X.fs/\∀v,p.2.data≠.cell v):Inv X pins' σ H s :=
 ⟨I.ok,I.os,I.bare,I.base,I.loc,I.cell,I.free,I.freeC,fun p hp=>(List.mem_append.mp hp).elim (fun z=>I.pin p (List.mem_append_left _ z)) (h p),I.hok,I.len⟩
theorem vh {N:List Str}(hN:N.Nodup) {i j:Nat}{x:Str}(a:N[i]? = some x) (b:N[j]? = some x):i=j:=by
 obtain⟨h1,e1⟩:=List.getElem?_eq_some_iff.mp a
 obtain⟨h2,e2⟩:=List.getElem?_eq_some_iff.mp b
 exact (List.getElem_inj hN).mp (e1.trans e2.symm)
theorem uf {M:Model}{A:Around}{E:Value->Shared->Prop}{i:Nat}{x:Str}{v:V}{u:Value}{Q:Unit->Shared->Prop}(I:Inv X pins σ H s) (hN:X.N.Nodup) (hi:X.N[i]? = some x) (hx:Loc X.env.scope x) (r:RelV v u)
   (h:∀s',Inv X pins (σ.set i (some v)) H s'->(∃a,Heap.SameBut a s.heap s'.heap/\(a=X.env.locals\/X.env.cells.lookup x=some a))->Q () s') (hf:X.fn x=true\/X.env.scope.names.lookup x=some .local:=by first|exact .inl rfl|exact .inr rfl|assumption):wpAny M A (storeName X.env x u) Q E s:=by
 obtain⟨m,hn,hl⟩:=id I.loc
 have hcls:(X.env.scope.kind == .class || (X.env.scope.kind == .module && X.env.locals != X.env.globals))=false:=by rw[I.ok.kind];rfl
 have hiσ:i<σ.length:=by rw[I.len];exact (List.getElem?_eq_some_iff.mp hi).1
 have cne:=I.cne
 have tracked:∀{a:Addr} {h':Heap},(∃o,s.heap.get? a=some o/\H a=none)->Heap.SameBut a s.heap h'->HOk X.prog X.w H h':=fun {a h'} ha hs b ob e=>by
   obtain⟨_,_,hfree⟩:=ha
   refine (I.hok b ob e).stay (fun c w' hc q=>(hs.2 c ?_).trans q) (fun _ q=>q) fun _ _ q=>q
   rintro rfl
   rcases hc with rfl|hc
   . rw[hfree] at e;cases e
   . rw[hfree] at hc;cases hc
 rcases hx with hk|hk
 . refine wpAny_storeName_local hk hn (fun h' hn' hs=>?_) hcls
   obtain⟨oL,_,_,hoL,_⟩:=id hn
   refine h _ ⟨I.ok,I.os,I.bare,⟨fun b o e n hb hx=>?_,fun b o e n hb hx=>?_,I.base.free,fun b o e hx=>?_,I.base.tups,I.base.frzs,I.base.tbls⟩,⟨_,hn',fun j y v' e1 e2 e3=>?_⟩,fun y c e=>?_,I.free,I.freeC,fun p hp=>?_,tracked ⟨oL,hoL,I.free⟩ hs,by simpa using I.len⟩ ⟨_,hs,.inl rfl⟩
   . exact (hs.2 b (Nat.ne_of_lt (Nat.lt_of_lt_of_le (Heap.lt_size e) I.ok.above))).trans (I.base.keep b o e n hb hx)
   . obtain⟨sl,e1⟩:=I.base.slot b o e n hb hx
     exact⟨sl,(hs.2 b (Nat.ne_of_lt (Nat.lt_of_lt_of_le (Heap.lt_size e) I.ok.above))).trans e1⟩
   . obtain⟨o',e1⟩:=I.base.there b o e hx
     exact⟨o',(hs.2 b (Nat.ne_of_lt (Nat.lt_of_lt_of_le (Heap.lt_size e) I.ok.above))).trans e1⟩
   . by_cases hj:j=i
     . subst hj
       rw[hi] at e1;cases e1
       rw[List.getElem?_set_self hiσ] at e2
       cases e2
       exact⟨u,r,.inl ⟨hk,by simp⟩⟩
     . rw[List.getElem?_set_ne (Ne.symm hj)] at e2
       obtain⟨u',r',q⟩:=hl j y v' e1 e2 e3
       refine⟨u',r',?_⟩
       rcases q with⟨k,e⟩|⟨k,c,e,z⟩
       . refine .inl ⟨k,?_⟩
         have:y≠x:=fun e=>hj (vh hN e1 (e ▸ hi))
         simp[this,e]
       . exact .inr ⟨k,c,e,z.sameBut hs (cne y c e)⟩
   . obtain⟨w',z⟩:=I.cell y c e
     exact⟨w',z.sameBut hs (cne y c e)⟩
   . obtain⟨e,n,ne,nf,d⟩:=I.pin p hp
     exact⟨(hs.2 p.1 ne).trans e,n,ne,nf,d⟩
 . have hfn:X.fn x=true:=by
     rcases hf with z|z
     . exact z
     . rw[z] at hk;cases hk
   obtain⟨c,hc⟩:=I.ok.has x (.inl hk)
   obtain⟨w',z⟩:=I.cell x c hc
   refine wpAny_storeName_cell I.ok.kind hk hc z (fun h' hc' hs=>?_)
   obtain⟨oc,hoc,hocd⟩:=id z
   refine h { s with heap:=h' } ⟨I.ok,I.os,I.bare,⟨fun b o e n hb hx=>?_,fun b o e n hb hx=>?_,I.base.free,fun b o e hx=>?_,I.base.tups,I.base.frzs,I.base.tbls⟩,⟨m,hn.sameBut hs (Ne.symm (cne x c hc)),fun j y v' e1 e2 e3=>?_⟩,fun y c' e=>?_,I.free,I.freeC,fun p hp=>?_,tracked ⟨oc,hoc,I.freeC x c hc⟩ hs,by simpa using I.len⟩ ⟨c,hs,.inr hc⟩
   . exact (hs.2 b (Nat.ne_of_lt (Nat.lt_of_lt_of_le (Heap.lt_size e) (I.ok.cab x c hfn hc)))).trans (I.base.keep b o e n hb hx)
   . obtain⟨sl,e1⟩:=I.base.slot b o e n hb hx
     exact⟨sl,(hs.2 b (Nat.ne_of_lt (Nat.lt_of_lt_of_le (Heap.lt_size e) (I.ok.cab x c hfn hc)))).trans e1⟩
   . obtain⟨o',e1⟩:=I.base.there b o e hx
     exact⟨o',(hs.2 b (Nat.ne_of_lt (Nat.lt_of_lt_of_le (Heap.lt_size e) (I.ok.cab x c hfn hc)))).trans e1⟩
   . by_cases hj:j=i
     . subst hj
       rw[hi] at e1;cases e1
       rw[List.getElem?_set_self hiσ] at e2
       cases e2
       exact⟨u,r,.inr ⟨.inl hk,c,hc,hc'⟩⟩
     . rw[List.getElem?_set_ne (Ne.symm hj)] at e2
       obtain⟨u',r',q⟩:=hl j y v' e1 e2 e3
       refine⟨u',r',?_⟩
       rcases q with q|⟨k,c',e,z'⟩
       . exact .inl q
       . refine .inr ⟨k,c',e,z'.sameBut hs ?_⟩
         rintro rfl
         exact hj (vh hN e1 (I.ok.inj _ _ _ e hc ▸ hi))
   . by_cases hcc:c'=c
     . subst hcc;exact⟨_,hc'⟩
     . obtain⟨w2,z2⟩:=I.cell y c' e
       exact⟨w2,z2.sameBut hs hcc⟩
   . obtain⟨e,n,ne,nf,d⟩:=I.pin p hp
     refine⟨(hs.2 p.1 ?_).trans e,n,ne,nf,d⟩
     intro q
     rw[q,hoc] at e
     have q':oc=p.2:=Option.some.inj e
     exact d w' (by rw[<- q'];exact hocd)
theorem o9 {M:Model}{A:Around}{E:Value->Shared->Prop}{i:Nat}{x:Str}{v:V}{u:Value}{Q:Unit->Shared->Prop}(I:Inv X pins σ H s) (hN:X.N.Nodup) (hi:X.N[i]? = some x) (hx:Loc X.env.scope x) (r:RelV v u)
   (h:∀s',Inv X pins (σ.set i (some v)) H s'->Q () s') (hf:X.fn x=true\/X.env.scope.names.lookup x=some .local:=by first|exact .inl rfl|exact .inr rfl|assumption):wpAny M A (storeName X.env x u) Q E s :=
 uf I hN hi hx r (fun s' I' _=>h s' I') hf
theorem Inv.call' {s':Shared}{ch:List Addr}(I:Inv X pins σ H s) (ho:s'.os=s.os) (u:Un (frs X.stack) ch H H' s.heap s'.heap) (hok:HOk X.prog X.w H' s'.heap) (hg:AllBare s'.gens)
   (hch:∀b∈ch,(b∈X.ex\/X.s₀.heap.objs.size<=b)/\b≠X.env.locals/\(∀x c,X.env.cells.lookup x=some c->c≠b)/\∀p∈X.pn++pins,p.1≠b):Inv X pins σ H' s':=by
 obtain⟨h',g',d',t',o'⟩:=s'
 have e:o'=s.os:=ho
 subst e
 exact I.call (g':=g') (t':=t') (d':=d') u hok hg hch
end
abbrev XK:=Value->Option Addr->Hp->Prop
abbrev St:=List (Option V)
abbrev VK:=V->Hp->Prop
abbrev TE:=St->Hp->VK->Prop
abbrev TT:=St->Hp->(Bool->Hp->Prop)->Prop
abbrev TA:=St->Hp->(List V->Hp->Prop)->Prop
structure Ends where
 nx:St->Hp->Prop
 rt:VK
 bk:St->Hp->Prop:=fun _ _=>False
 ct:St->Hp->Prop:=fun _ _=>False
abbrev TS:=Ends->St->Hp->Prop
noncomputable def EP (X:Cx) (pins:List (Addr×Obj)) (σ:St) (Q:VK) (u:Value) (s':Shared):Prop:=∃v H',Inv X pins σ H' s'/\RelV v u/\Q v H'
noncomputable def TP (X:Cx) (pins:List (Addr×Obj)) (σ:St) (Q:Bool->Hp->Prop) (b:Bool) (s':Shared):Prop:=∃H',Inv X pins σ H' s'/\Q b H'
noncomputable def AP (X:Cx) (pins:List (Addr×Obj)) (σ:St) (Q:List V->Hp->Prop) (us:List Value) (s':Shared):Prop:=∃vs H',Inv X pins σ H' s'/\Vals vs us/\Q vs H'
noncomputable def SP (X:Cx) (pins:List (Addr×Obj)) (D:Ends) (f:Flow) (s':Shared):Prop :=
 match f with
 | .next=>∃σ' H',Inv X pins σ' H' s'/\D.nx σ' H'
 | .brk=>∃σ' H',Inv X pins σ' H' s'/\D.bk σ' H'
 | .cont=>∃σ' H',Inv X pins σ' H' s'/\D.ct σ' H'
 | .ret u=>∃v σ' H',Inv X pins σ' H' s'/\RelV v u/\D.rt v H'
noncomputable def PE (X:Cx) (e:Expr) (t:TE):Prop :=
 ∀(pins:List (Addr×Obj)) (s:Shared) (σ:St) (H:Hp) (Q:VK),Inv X pins σ H s->t σ H Q->wpAny (model X.prog X.w) X.A (eval e X.env) (EP X pins σ Q) X.xe s
noncomputable def PT (X:Cx) (e:Expr) (t:TT):Prop :=
 ∀(pins:List (Addr×Obj)) (s:Shared) (σ:St) (H:Hp) (Q:Bool->Hp->Prop),Inv X pins σ H s->t σ H Q->wpAny (model X.prog X.w) X.A (isTrue e X.env (eval e X.env)) (TP X pins σ Q) X.xe s
noncomputable def PW (X:Cx) (e:Expr) (t:TT):Prop :=
 ∀(whole:Sem Value) (pins:List (Addr×Obj)) (s:Shared) (σ:St) (H:Hp) (Q:Bool->Hp->Prop),Inv X pins σ H s->t σ H Q->wpAny (model X.prog X.w) X.A (isTrue e X.env whole) (TP X pins σ Q) X.xe s
theorem PW.pt {X:Cx}{e:Expr}{t:TT}(h:PW X e t):PT X e t:=h _
noncomputable def PA (X:Cx) (es:List Expr) (t:TA):Prop :=
 ∀(pos:Pos) (pins:List (Addr×Obj)) (s:Shared) (σ:St) (H:Hp) (Q:List V->Hp->Prop),Inv X pins σ H s->t σ H Q->wpAny (model X.prog X.w) X.A (spliced (backTo pos (starEach es X.env))) (AP X pins σ Q) X.xe s
noncomputable def PS (X:Cx) (st:Stmt) (t:TS):Prop :=
 ∀(pins:List (Addr×Obj)) (s:Shared) (σ:St) (H:Hp) (D:Ends),Inv X pins σ H s->t D σ H->wpAny (model X.prog X.w) X.A (exec st X.env) (SP X pins D) X.xe s
noncomputable def PSs (X:Cx) (st:List Stmt) (t:TS):Prop :=
 ∀(pins:List (Addr×Obj)) (s:Shared) (σ:St) (H:Hp) (D:Ends),Inv X pins σ H s->t D σ H->wpAny (model X.prog X.w) X.A (execs st X.env) (SP X pins D) X.xe s
theorem thn {α:Type}{t:Sem α}{Q Q':α->Shared->Prop}{M:Model}{A:Around}{E:Value->Shared->Prop}{s:Shared}(h:wpAny M A t Q E s) (hQ:∀a s,Q a s->Q' a s):wpAny M A t Q' E s:=wpAny_mono h hQ fun _ _ x=>x
section
variable {X:Cx}
noncomputable def tVar (i:Nat):TE:=fun σ H Q=>∃v,σ[i]? = some (some v)/\Q v H
noncomputable def tC (v:V):TE:=fun _ H Q=>Q v H
theorem a9o {i:Nat}{x:Str}{pos:Pos}(hN:X.N[i]? = some x) (hv:Vis X.env.scope x) (hd:(x == ("__debug__" : Str))=false:=by decide) (hcd:(x == ("__classdict__" : Str))=false:=by decide):PE X (.Name x pos) (tVar i):=by
 intro pins s σ H Q I h
 obtain⟨v,e,h⟩:=h
 obtain⟨m,hn,hl⟩:=I.loc
 obtain⟨u,r,l⟩:=hl i x v hN e hv
 have fin:EP X pins σ Q u s:=⟨v,H,I,r,h⟩
 rcases l with⟨hk,hm⟩|⟨hk,c,hc,hcell⟩
 . exact wpAny_Name (wpAny_loadName_local I.ok.kind hk hn hm fin) hd
 . rcases hk with hk|hk
   . exact wpAny_Name (wpAny_loadName_cell I.ok.kind hk hc hcell fin) hd
   . exact wpAny_Name (wpAny_loadName_free I.ok.kind hk hc hcell fin hcd) hd
theorem ji {i j pos}:PE X (.Constant (.int i) j pos) (tC (.int i)):=fun _ _ _ H _ I h=>wpAny_Constant_int ⟨.int i,H,I.tok _,⟨_,rfl⟩,h⟩
theorem a0z {b j pos}:PE X (.Constant (.bool b) j pos) (tC (.bl b)):=fun _ _ _ H _ I h=>Constant_bool ⟨.bl b,H,I,rfl,h⟩
theorem a9i {j pos}:PE X (.Constant .none j pos) (tC .non):=fun _ _ _ H _ I h=>Constant_none ⟨.non,H,I,rfl,h⟩
theorem vm {x j pos}:PE X (.Constant (.str x) j pos) (tC (.str x)):=fun _ _ _ H _ I h=>Calls.Constant_str ⟨.str x,H,I.tok _,⟨_,rfl⟩,h⟩
noncomputable def Gl (X:Cx) (x:Str):Prop:=X.env.kindOf x=some .globalImplicit
theorem sr {E:Value->Shared->Prop}{pins:List (Addr×Obj)}{s:Shared}{σ:St}{H:Hp}{x:Str}{u:Value}{pos:Pos}{Q:Value->Shared->Prop}(I:Inv X pins σ H s) (hg:Gl X x) (hm:X.mg x=some u) (h:Q u s)
   (hd:(x == ("__debug__" : Str))=false:=by decide):wpAny (model X.prog X.w) X.A (eval (.Name x pos) X.env) Q E s :=
 Calls.Name_function_global I.ok.kind hg (Calls.loadGlobal_global (by rw[I.ok.glob];exact I.mod.glob.keeps I.bk) hm h) hd
theorem i5 {E:Value->Shared->Prop}{pins:List (Addr×Obj)}{s:Shared}{σ:St}{H:Hp}{x:Str}{u:Value}{pos:Pos}{Q:Value->Shared->Prop}(I:Inv X pins σ H s) (hg:Gl X x) (hm:X.mg x=none) (hv:bootBuiltins x=some u) (h:Q u s)
   (hn:x ≠ "__name__" := by decide) (hd:(x == ("__debug__" : Str))=false:=by decide):wpAny (model X.prog X.w) X.A (eval (.Name x pos) X.env) Q E s:=by
 obtain⟨mb,h1,h2⟩:=I.mod.blt
 exact Calls.Name_function_global I.ok.kind hg (Calls.loadGlobal_builtin (by rw[I.ok.glob];exact I.mod.glob.keeps I.bk) hm (by rw[I.ok.blt];exact h1.keeps I.bk) ((h2 x hn).trans hv) h) hd
theorem a72 {x:Str}{v:V}{u:Value}{pos:Pos}(hg:Gl X x) (hm:X.mg x=some u) (r:RelV v u) (hd:(x == ("__debug__" : Str))=false:=by decide):PE X (.Name x pos) (tC v) :=
 fun _ _ _ H _ I h=>sr I hg hm ⟨v,H,I,r,h⟩ hd
theorem a7v {x:Str}{v:V}{u:Value}{pos:Pos}(hg:Gl X x) (hm:X.mg x=none) (hv:bootBuiltins x=some u) (r:RelV v u) (hn:x ≠ "__name__" := by decide) (hd:(x == ("__debug__" : Str))=false:=by decide):PE X (.Name x pos) (tC v) :=
 fun _ _ _ H _ I h=>i5 I hg hm hv ⟨v,H,I,r,h⟩ hn hd
variable {a b:Expr}{ta tb:TE}{pos:Pos}
noncomputable def PC (X:Cx) (op:CmpOp) (a b:Expr) (t:TE):Prop :=
 ∀(pins:List (Addr×Obj)) (s:Shared) (σ:St) (H:Hp) (Q:VK),Inv X pins σ H s->t σ H Q->
   wpAny (model X.prog X.w) X.A (eval a X.env) (fun v s₁=>wpAny (model X.prog X.w) X.A (eval b X.env) (fun u s₂=>wpAny (model X.prog X.w) X.A (compareOp op v u) (EP X pins σ Q) X.xe s₂) X.xe s₁) X.xe s
noncomputable def tB (t:TE):TT:=fun σ H Q=>t σ H fun x H1=>∃c,x=.bl c/\Q c H1
theorem a9x {op:CmpOp}{t:TE}(h:PC X op a b t) (h1:behindInMarks op b=false:=by first|exact nobehind _ (by decide) (by decide)|rfl):PT X (.Compare a [op] [b] pos) (tB t):=by
 intro pins s σ H Q I hw
 refine wpAny_isTrue_Compare1 (thn (h pins s σ H _ I hw) fun v s1 h1=>thn h1 fun u s2 h2=>thn h2 fun c s3 ⟨x,H1,I1,r1,q1⟩=>?_) h1
 obtain⟨d,rfl,q⟩:=q1
 cases r1
 exact wpAny_truthy_bool ⟨H1,I1,q⟩
theorem aac {e:Expr}{t:TE}(h:PE X e t) (he:∀whole,isTrue e X.env whole=(do let v<-whole;standAt e.pos;holding [v] (truthy v)):=by intro _;rfl):PT X e (tB t):=by
 intro pins s σ H Q I hw
 refine isTrue_plain (thn (h pins s σ H _ I hw) fun v s1 ⟨x,H1,I1,r1,q1⟩=>?_) (he _)
 obtain⟨d,rfl,q⟩:=q1
 cases r1
 exact wpAny_truthy_bool ⟨H1,I1,q⟩
variable {tA tB':TT}{rest:List Expr}
noncomputable def tAnd (t u:TT):TT:=fun σ H Q=>t σ H fun c H1=>if c=true then u σ H1 Q else Q false H1
noncomputable def tOr (t u:TT):TT:=fun σ H Q=>t σ H fun c H1=>if c=true then Q true H1 else u σ H1 Q
noncomputable def tNot (t:TT):TT:=fun σ H Q=>t σ H fun c H1=>Q (!c) H1
theorem a73 (ha:PT X a tA):PW X (.BoolOp .And [a] pos) tA:=by
 intro wh pins s σ H Q I h
 refine isTrue_and (thn (ha pins s σ H Q I h) fun c s1 e=>?_)
 cases c with
 | true=>exact isTrue_and_nil e
 | false=>exact e
theorem a1m (ha:PT X a tA):PW X (.BoolOp .Or [a] pos) tA:=by
 intro wh pins s σ H Q I h
 refine isTrue_or (thn (ha pins s σ H Q I h) fun c s1 e=>?_)
 cases c with
 | false=>exact isTrue_or_nil e
 | true=>exact e
theorem aa7 (ha:PT X a tA) (hb:PW X (.BoolOp .And (b::rest) pos) tB'):PW X (.BoolOp .And (a::b::rest) pos) (tAnd tA tB'):=by
 intro wh pins s σ H Q I h
 refine isTrue_and (thn (ha pins s σ H _ I h) fun c s1 ⟨H1,I1,q1⟩=>?_)
 cases c with
 | true=>exact hb wh pins s1 σ H1 Q I1 q1
 | false=>exact⟨H1,I1,q1⟩
theorem a01 (ha:PT X a tA) (hb:PW X (.BoolOp .Or (b::rest) pos) tB'):PW X (.BoolOp .Or (a::b::rest) pos) (tOr tA tB'):=by
 intro wh pins s σ H Q I h
 refine isTrue_or (thn (ha pins s σ H _ I h) fun c s1 ⟨H1,I1,q1⟩=>?_)
 cases c with
 | true=>exact⟨H1,I1,q1⟩
 | false=>exact hb wh pins s1 σ H1 Q I1 q1
theorem a9s (ha:PT X a tA):PT X (.UnaryOp .Not a pos) (tNot tA):=by
 intro pins s σ H Q I h
 exact isTrue_not (ha pins s σ H (fun c H1=>Q (!c) H1) I h)
noncomputable def a6s (ta tb:TE):TE:=fun σ H Q=>ta σ H fun x H1=>∃c,x=.bl c/\if c=true then tb σ H1 Q else Q (.bl false) H1
noncomputable def tOrV (ta tb:TE):TE:=fun σ H Q=>ta σ H fun x H1=>∃c,x=.bl c/\if c=true then Q (.bl true) H1 else tb σ H1 Q
noncomputable def a6i (ta:TE):TE:=fun σ H Q=>ta σ H fun x H1=>∃c,x=.bl c/\Q (.bl (!c)) H1
theorem wb {op} {t:TE}(h:PE X a t):PE X (.BoolOp op [a] pos) t:=fun pins s σ H Q I hw=>BoolOp_one (h pins s σ H Q I hw)
theorem a2f (ha:PE X a ta) (hb:PE X (.BoolOp .And (b::rest) pos) tb):PE X (.BoolOp .And (a::b::rest) pos) (a6s ta tb):=by
 intro pins s σ H Q I h
 refine BoolOp_and (thn (ha pins s σ H _ I h) fun v s1 ⟨x,H1,I1,r1,q1⟩=>?_)
 obtain⟨c,rfl,q1⟩:=q1
 cases r1
 refine wpAny_truthy_bool ?_
 cases c with
 | true=>exact hb pins s1 σ H1 Q I1 q1
 | false=>exact⟨.bl false,H1,I1,rfl,q1⟩
theorem aai (ha:PE X a ta) (hb:PE X (.BoolOp .Or (b::rest) pos) tb):PE X (.BoolOp .Or (a::b::rest) pos) (tOrV ta tb):=by
 intro pins s σ H Q I h
 refine BoolOp_or (thn (ha pins s σ H _ I h) fun v s1 ⟨x,H1,I1,r1,q1⟩=>?_)
 obtain⟨c,rfl,q1⟩:=q1
 cases r1
 refine wpAny_truthy_bool ?_
 cases c with
 | false=>exact hb pins s1 σ H1 Q I1 q1
 | true=>exact⟨.bl true,H1,I1,rfl,q1⟩
theorem a9b (ha:PE X a ta):PE X (.UnaryOp .Not a pos) (a6i ta):=by
 intro pins s σ H Q I h
 refine UnaryOp_ (thn (ha pins s σ H _ I h) fun v s1 ⟨x,H1,I1,r1,q1⟩=>?_)
 obtain⟨c,rfl,q1⟩:=q1
 cases r1
 exact not_of (wpAny_truthy_bool ⟨.bl (!c),H1,I1,rfl,q1⟩)
noncomputable def tIf (t:TT) (ta tb:TE):TE:=fun σ H Q=>t σ H fun c H1=>if c=true then ta σ H1 Q else tb σ H1 Q
theorem a5k {c:Expr}(hc:PT X c tA) (ha:PE X a ta) (hb:PE X b tb):PE X (.IfExp c a b pos) (tIf tA ta tb):=by
 intro pins s σ H Q I h
 refine wpAny_IfExp (thn (hc pins s σ H _ I h) fun d s1 ⟨H1,I1,q1⟩=>?_)
 cases d with
 | true=>exact ha pins s1 σ H1 Q I1 q1
 | false=>exact hb pins s1 σ H1 Q I1 q1
end
noncomputable def SqL (K:PySem.W.Frag) (H:Hp) (a:Addr) (xs:List V):Prop :=
 Rd H a (.lst xs)\/
   ∃(o:Obj) (its:Array Value) (n:Nat),K.lookup a=some o/\o.cls=.type "list" /\ o.dict=none/\o.data=.seq its n/\its.size<=sizeLine/\Vals xs its.toList
noncomputable def SqT (K:PySem.W.Frag) (H:Hp) (a:Addr) (xs:List V):Prop :=
 Rd H a (.tup xs)\/
   ∃(o:Obj) (its:Array Value) (n:Nat),K.lookup a=some o/\o.cls=.type "tuple" /\ o.data=.seq its n/\its.size<=sizeLine/\Vals xs its.toList
noncomputable def absV:Value->Option V
 | .none=>some .non
 | .bool b=>some (.bl b)
 | .int i _=>some (.int i)
 | .str x _=>some (.str x)
 | .bytes b _=>some (.byt b)
 | .float b _=>some (.flt b)
 | .ref a=>some (.ref a)
 | .type n=>some (.ty n)
 | _=>none
theorem RelV.abs {x:V}{u:Value}(r:RelV x u):absV u=some x:=by
 cases x with
 | non=>cases r;rfl
 | bl _=>cases r;rfl
 | int _=>obtain⟨t,rfl⟩:=r;rfl
 | str _=>obtain⟨t,rfl⟩:=r;rfl
 | byt _=>obtain⟨t,rfl⟩:=r;rfl
 | flt _=>obtain⟨t,rfl⟩:=r;rfl
 | ref _=>cases r;rfl
 | ty _=>cases r;rfl
theorem RelV.inj {x y:V}{u:Value}(r:RelV x u) (q:RelV y u):x=y:=Option.some.inj (r.abs.symm.trans q.abs)
theorem Vals.inj:∀{xs ys:List V}{us:List Value},Vals xs us->Vals ys us->xs=ys
 | _,_,_,.nil,.nil=>rfl
 | _,_,_,.cons r t,.cons r' t'=>by rw[r.inj r',Vals.inj t t']
section
variable {X:Cx}{pins:List (Addr×Obj)}{σ:St}{H:Hp}{s:Shared}{a:Addr}{xs ys:List V}
theorem SqL.of {K:PySem.W.Frag}(h:H a=some (.lst xs)):SqL K H a xs:=.inl (.inl h)
theorem SqT.of {K:PySem.W.Frag}(h:H a=some (.tup xs)):SqT K H a xs:=.inl (.inl h)
theorem Inv.list (I:Inv X pins σ H s) (h:SqL X.K H a xs):∃its:List Value,Vals xs its/\PlainL s.heap a its.toArray/\xs.length<=sizeLine:=by
 rcases h with h|⟨o,its,n,hk,hc,hd,hs,hz,r⟩
 . obtain⟨z,its,n,r,e⟩:=h.ok I.hok
   exact⟨its,r,⟨_,n,e,rfl,rfl,rfl⟩,z⟩
 . refine⟨its.toList,r,⟨o,n,I.kIn a o hk,hc,hd,by simpa using hs⟩,?_⟩
   have e:=r.length
   simp only[Array.length_toList] at e
   omega
theorem Inv.tuple (I:Inv X pins σ H s) (h:SqT X.K H a xs):∃its:List Value,Vals xs its/\IsTup s.heap a its.toArray/\xs.length<=sizeLine:=by
 rcases h with h|⟨o,its,n,hk,hc,hs,hz,r⟩
 . obtain⟨z,its,r,p⟩:=h.ok I.hok
   exact⟨its,r,p,z⟩
 . refine⟨its.toList,r,⟨o,I.kIn a o hk,hc,n,by simpa using hs⟩,?_⟩
   have e:=r.length
   simp only[Array.length_toList] at e
   omega
theorem Inv.list_inj (I:Inv X pins σ H s) (h:SqL X.K H a xs) (h':SqL X.K H a ys):xs=ys:=by
 obtain⟨its,r,⟨o,n,e,_,_,d⟩,_⟩:=I.list h
 obtain⟨its',r',⟨o',n',e',_,_,d'⟩,_⟩:=I.list h'
 rw[e] at e';cases e'
 rw[d] at d'
 injection d' with d1 _
 have:its=its':=by simpa using congrArg Array.toList d1
 subst this
 exact r.inj r'
theorem Inv.tuple_inj (I:Inv X pins σ H s) (h:SqT X.K H a xs) (h':SqT X.K H a ys):xs=ys:=by
 obtain⟨its,r,⟨o,e,_,n,d⟩,_⟩:=I.tuple h
 obtain⟨its',r',⟨o',e',_,n',d'⟩,_⟩:=I.tuple h'
 rw[e] at e';cases e'
 rw[d] at d'
 injection d' with d1 _
 have:its=its':=by simpa using congrArg Array.toList d1
 subst this
 exact r.inj r'
end
noncomputable abbrev Cx.wish (X:Cx) (E:Value->Shared->Prop):Cx:={ X with xe:=E }
noncomputable abbrev Cx.nox (X:Cx):Cx:=X.wish fun _ _=>False
theorem Cx.Ok.wish {X:Cx}(ok:X.Ok) (E:Value->Shared->Prop):(X.wish E).Ok :=
 ⟨ok.mod,ok.kind,ok.glob,ok.blt,ok.above,ok.inj,ok.has,ok.cab,ok.hd,ok.frames,ok.stk,ok.exf,ok.bs,ok.bsz,ok.noex,ok.exfs,ok.funs,ok.frf⟩
theorem Cx.Ok.unwish {X:Cx}{E:Value->Shared->Prop}(ok:(X.wish E).Ok):X.Ok :=
 ⟨ok.mod,ok.kind,ok.glob,ok.blt,ok.above,ok.inj,ok.has,ok.cab,ok.hd,ok.frames,ok.stk,ok.exf,ok.bs,ok.bsz,ok.noex,ok.exfs,ok.funs,ok.frf⟩
section
variable {X:Cx}{pins:List (Addr×Obj)}{σ:St}{H:Hp}{s:Shared}{E:Value->Shared->Prop}
theorem Inv.wish (I:Inv X pins σ H s) (E:Value->Shared->Prop):Inv (X.wish E) pins σ H s:=⟨I.ok.wish E,I.os,I.bare,I.base,I.loc,I.cell,I.free,I.freeC,I.pin,I.hok,I.len⟩
theorem Inv.unwish (I:Inv (X.wish E) pins σ H s):Inv X pins σ H s:=⟨I.ok.unwish,I.os,I.bare,I.base,I.loc,I.cell,I.free,I.freeC,I.pin,I.hok,I.len⟩
theorem SP.unwish {D:Ends}{f:Flow}{s':Shared}(h:SP (X.wish E) pins D f s'):SP X pins D f s':=by
 cases f with
 | next=>obtain⟨σ',H',I,q⟩:=h;exact⟨σ',H',I.unwish,q⟩
 | brk=>obtain⟨σ',H',I,q⟩:=h;exact⟨σ',H',I.unwish,q⟩
 | cont=>obtain⟨σ',H',I,q⟩:=h;exact⟨σ',H',I.unwish,q⟩
 | ret u=>obtain⟨v,σ',H',I,r,q⟩:=h;exact⟨v,σ',H',I.unwish,r,q⟩
theorem PSs.nox {st:List Stmt}{t:TS}(h:PSs X.nox st t):PSs X st t:=fun pins s σ H D I hw =>
 wpAny_mono (h pins s σ H D (I.wish _) hw) (fun _ _ q=>q.unwish) fun _ _ z=>False.elim z
end
section
variable {X:Cx}{st:Stmt}{rest:List Stmt}{t u:TS}{e:Expr}{te:TE}{pos:Pos}
noncomputable def qa:TS:=fun D σ H=>D.nx σ H
noncomputable def tSeq (t u:TS):TS:=fun D σ H=>t { D with nx:=u D } σ H
theorem zj:PSs X [] qa:=fun _ _ σ H _ I h=>wpAny_execs_nil ⟨σ,H,I,h⟩
theorem jw (h1:PS X st t) (h2:PSs X rest u):PSs X (st::rest) (tSeq t u):=by
 intro pins s σ H D I h
 refine wpAny_execs_cons (thn (h1 pins s σ H { D with nx:=u D } I h) fun f s1 q=>?_)
 cases f with
 | next =>
   obtain⟨σ',H',I',q⟩:=q
   exact h2 pins s1 σ' H' D I' q
 | ret v=>exact q
 | brk=>exact q
 | cont=>exact q
theorem jb (h1:PS X st t):PSs X [st] t:=by
 intro pins s σ H D I h
 refine wpAny_execs_cons (thn (h1 pins s σ H D I h) fun f s1 q=>?_)
 cases f with
 | next=>exact wpAny_execs_nil q
 | ret v=>exact q
 | brk=>exact q
 | cont=>exact q
theorem Inv.quiet {pins:List (Addr×Obj)}{σ:St}{H:Hp}{s:Shared}(I:Inv X pins σ H s):interactive X.env=false:=by simp[interactive,I.ok.kind]
noncomputable def a0r (te:TE):TS:=fun D σ H=>te σ H fun _ H1=>D.nx σ H1
theorem y0 (he:PE X e te) (hs:swapsWith e none pos.line X.env=pure false:=by rfl):PS X (.Expr e pos) (a0r te):=by
 intro pins s σ H D I h
 exact wpAny_Expr_any (thn (he pins s σ H _ I h) fun v s1 ⟨x,H1,I1,r1,q1⟩=>⟨σ,H1,I1,q1⟩) I.quiet hs
noncomputable def tRet (te:TE):TS:=fun D σ H=>te σ H D.rt
theorem qq (he:PE X e te):PS X (.Return (some e) pos) (tRet te):=by
 intro pins s σ H D I h
 exact wpAny_Return_some (thn (he pins s σ H _ I h) fun v s1 ⟨x,H1,I1,r1,q1⟩=>⟨x,σ,H1,I1,r1,q1⟩)
noncomputable def a6v:TS:=fun D _ H=>D.rt .non H
theorem a81:PS X (.Return none pos) a6v:=fun _ _ σ H _ I h=>wpAny_Return_none ⟨.non,σ,H,I,rfl,h⟩
noncomputable def tIfS (c:TT) (t u:TS):TS:=fun D σ H=>c σ H fun b H1=>if b=true then t D σ H1 else u D σ H1
theorem a6o {c:Expr}{a b:List Stmt}{tc:TT}(hc:PT X c tc) (ha:PSs X a t) (hb:PSs X b u):PS X (.If c a b pos) (tIfS tc t u):=by
 intro pins s σ H D I h
 refine wpAny_If (thn (hc pins s σ H _ I h) fun d s1 ⟨H1,I1,q1⟩=>?_)
 cases d with
 | true=>exact ha pins s1 σ H1 D I1 q1
 | false=>exact hb pins s1 σ H1 D I1 q1
end
abbrev TG:=V->St->Hp->(St->Hp->Prop)->Prop
abbrev TGs:=List V->St->Hp->(St->Hp->Prop)->Prop
noncomputable def PG (X:Cx) (target:Expr) (t:TG):Prop :=
 ∀(pins:List (Addr×Obj)) (s:Shared) (σ:St) (H:Hp) (v:V) (u:Value) (Q:St->Hp->Prop),Inv X pins σ H s->RelV v u->t v σ H Q->
   wpAny (model X.prog X.w) X.A (assign target X.env u) (fun _ s'=>∃σ' H',Inv X pins σ' H' s'/\Q σ' H') X.xe s
noncomputable def PGs (X:Cx) (ts:List Expr) (t:TGs):Prop :=
 ∀(pins:List (Addr×Obj)) (s:Shared) (σ:St) (H:Hp) (vs:List V) (us:List Value) (Q:St->Hp->Prop),Inv X pins σ H s->Vals vs us->t vs σ H Q->
   wpAny (model X.prog X.w) X.A (assignInOrder ((assignEach ts X.env).map (·.2)) us) (fun _ s'=>∃σ' H',Inv X pins σ' H' s'/\Q σ' H') X.xe s
abbrev TSet:=V->V->V->Hp->(Hp->Prop)->Prop
noncomputable def PSet (X:Cx) (t:TSet):Prop :=
 ∀(pins:List (Addr×Obj)) (s:Shared) (σ:St) (H:Hp) (o i v:V) (ov iv u:Value) (Q:Hp->Prop),Inv X pins σ H s->RelV o ov->RelV i iv->RelV v u->t o i v H Q->
   wpAny (model X.prog X.w) X.A (setItem ov iv u) (fun _ s'=>∃H',Inv X pins σ H' s'/\Q H') X.xe s
section
variable {X:Cx}{pos:Pos}
noncomputable def bi (i:Nat):TG:=fun v σ H Q=>Q (σ.set i (some v)) H
theorem mh {i:Nat}{x:Str}(hN:X.N.Nodup) (hi:X.N[i]? = some x) (hx:Loc X.env.scope x) (hf:X.fn x=true\/X.env.scope.names.lookup x=some .local:=by first|exact .inl rfl|exact .inr rfl|assumption):PG X (.Name x pos) (bi i):=by
 intro pins s σ H v u Q I r h
 exact wpAny_assign_Name (o9 I hN hi hx r (fun s' I'=>⟨_,H,I',h⟩) hf)
noncomputable def gNil:TGs:=fun vs σ H Q=>vs=[]/\Q σ H
noncomputable def qp (t:TG) (u:TGs):TGs:=fun vs σ H Q=>∃v r,vs=v::r/\t v σ H fun σ' H'=>u r σ' H' Q
theorem zq:PGs X [] gNil:=by
 intro pins s σ H vs us Q I r h
 obtain⟨e,h⟩:=h
 subst e
 cases r
 exact assignInOrder_nil ⟨σ,H,I,h⟩
theorem l8 {e:Expr}{es:List Expr}{t:TG}{u:TGs}(h1:PG X e t) (h2:PGs X es u)
   (hs:(assignEach (e::es) X.env).map (·.2)=assign e X.env::(assignEach es X.env).map (·.2):=by rfl):PGs X (e::es) (qp t u):=by
 intro pins s σ H vs us Q I r h
 obtain⟨v,vr,e1,h⟩:=h
 subst e1
 cases r with
 | cons r rr =>
   rw[hs]
   refine assignInOrder_cons (thn (h1 pins s σ H _ _ _ I r h) fun _ s1 ⟨σ1,H1,I1,q1⟩=>?_)
   exact h2 pins s1 σ1 H1 _ _ Q I1 rr q1
noncomputable def gTup (K:PySem.W.Frag) (n:Nat) (t:TGs):TG:=fun v σ H Q=>∃a xs,v=.ref a/\SqT K H a xs/\xs.length=n/\t xs σ H Q
theorem a2w {es:List Expr}{k:Nat}{t:TGs}{n:Nat}(hc:X.calm=true) (h:PGs X es t)
   (hn:(assignEach es X.env).length=n:=by rfl) (hst:(assignEach es X.env).findIdx? (·.1)=none:=by rfl):PG X (.Tuple es k pos) (gTup X.K n t):=by
 intro pins s σ H v u Q I r hw
 obtain⟨a,xs,e1,hq,hl,hw⟩:=hw
 subst e1
 cases r
 obtain⟨its,rv,ht,hz⟩:=I.tuple hq
 refine assign_Tuple_tuple (I.ok.hd hc) ht (by simp[hn,<- hl,rv.length]) hst fun h' hx=>?_
 have I1:Inv X pins σ H { s with heap:=h' }:=I.kept (t':=s.toks) fun b o e=>hx b o (Nat.ne_of_lt (Heap.lt_size e)) e
 exact h pins _ σ H xs _ Q I1 (by simpa using rv) hw
noncomputable def gSub (to ti:TE) (t:TSet):TG:=fun v σ H Q=>to σ H fun o H1=>ti σ H1 fun i H2=>t o i v H2 fun H3=>Q σ H3
theorem a9m {o i:Expr}{to ti:TE}{t:TSet}(ho:PE X o to) (hi:PE X i ti) (hs:PSet X t)
   (ha:∀v,assign (.Subscript o i pos) X.env v=(do
     let ov<-holding [v] (eval o X.env)
     let iv<-holding [v,ov] (eval i X.env)
     standAt pos
     holding [v,ov,iv] (setItem ov iv v)
     release [v,ov,iv] []):=by intro _;rfl):PG X (.Subscript o i pos) (gSub to ti t):=by
 intro pins s σ H v u Q I r h
 rw[ha]
 refine wpAny_bind (wpAny_holding (thn (ho pins s σ H _ I h) fun ov s1 ⟨x,H1,I1,r1,q1⟩=>?_))
 refine wpAny_bind (wpAny_holding (thn (hi pins s1 σ H1 _ I1 q1) fun iv s2 ⟨y,H2,I2,r2,q2⟩=>?_))
 refine wpAny_bind (wpAny_standAt (wpAny_bind (wpAny_holding (thn (hs pins s2 σ H2 x y v ov iv u _ I2 r1 r2 r q2) fun _ s3 ⟨H3,I3,q3⟩=>?_))))
 exact wpAny_release ⟨σ,H3,I3,q3⟩
noncomputable def tAsg (te:TE) (g:TG):TS:=fun D σ H=>te σ H fun x H1=>g x σ H1 D.nx
theorem a8z {tg e:Expr}{te:TE}{g:TG}(he:PE X e te) (hg:PG X tg g) (hs:swapsWithSole [tg] e pos.line X.env=pure false:=by rfl) (hw:swappedStores [tg] e X.env=pure none:=by rfl)
   (h1:(assignEach [tg] X.env).map (·.2)=[assign tg X.env]:=by rfl):PS X (.Assign [tg] e pos) (tAsg te g):=by
 intro pins s σ H D I h
 refine wpAny_Assign_stores (thn (he pins s σ H _ I h) fun v s1 ⟨x,H1,I1,r1,q1⟩=>?_) hs hw
 rw[h1]
 exact thn (hg pins s1 σ H1 x v _ I1 r1 q1) fun _ s2 q=>q
theorem a4b {i:Nat}{x:Str}{e:Expr}{te:TE}{pos':Pos}(hN:X.N.Nodup) (hi:X.N[i]? = some x) (hx:Loc X.env.scope x) (he:PE X e te) (hs:swapsWith e (some (.Name x pos')) pos.line X.env=pure false:=by rfl) (hf:X.fn x=true\/X.env.scope.names.lookup x=some .local:=by first|exact .inl rfl|exact .inr rfl|assumption) :
   PS X (.Assign [.Name x pos'] e pos) (tAsg te (bi i)):=by
 intro pins s σ H D I h
 refine wpAny_Assign_Name (thn (he pins s σ H _ I h) fun v s1 ⟨y,H1,I1,r1,q1⟩=>?_) hs
 exact o9 I1 hN hi hx r1 (fun s2 I2=>⟨_,H1,I2,q1⟩) hf
end
section
variable {X:Cx}{pos:Pos}
noncomputable def xj (c:TT) (tb:TS):TS:=fun D σ H=>∃W:Nat->St->Hp->Prop,(∃m,W m σ H)/\∀m σ H,W m σ H->
 c σ H fun b H1=>if b=true then ∃N:St->Hp->Prop,(∀σ' H',N σ' H'->∃m',m'<m/\W m' σ' H')/\tb { D with nx:=N,ct:=N,bk:=D.nx } σ H1 else D.nx σ H1
theorem a67 {c:Expr}{body:List Stmt}{tc:TT}{tb:TS}(hp:PassesOwn (model X.prog X.w) X.A X.env X.xe) (hc:PT X c tc) (hb:PSs X body tb):PS X (.While c body [] pos) (xj tc tb):=by
 intro pins s σ H D I h
 obtain⟨W,⟨m0,w0⟩,turn⟩:=h
 refine wpAny_While (codeAny_whileLoop (fun n s'=>∃σ' H',Inv X pins σ' H' s'/\W n σ' H') ?_ m0 ⟨σ,H,I,w0⟩)
 rintro n s1 ⟨σ1,H1,I1,w1⟩
 refine wpAny_passesOwn hp (thn (hc pins s1 σ1 H1 _ I1 (turn n σ1 H1 w1)) fun b s2 ⟨H2,I2,q2⟩=>?_)
 cases b with
 | true =>
   obtain⟨N,hN,q2⟩:=q2
   rw[if_pos rfl]
   refine wpAny_passesOwn hp (thn (hb pins s2 σ1 H2 _ I2 q2) fun f s3 q3=>?_)
   cases f with
   | next =>
     obtain⟨σ3,H3,I3,n3⟩:=q3
     obtain⟨m',hm,w3⟩:=hN σ3 H3 n3
     exact⟨m',hm,σ3,H3,I3,w3⟩
   | cont =>
     obtain⟨σ3,H3,I3,n3⟩:=q3
     obtain⟨m',hm,w3⟩:=hN σ3 H3 n3
     exact⟨m',hm,σ3,H3,I3,w3⟩
   | brk=>exact q3
   | ret v=>exact q3
 | false =>
   rw[if_neg Bool.false_ne_true]
   exact wpAny_execs_nil ⟨σ1,H2,I2,q2⟩
end
structure It where
 go:Nat->Hp->Prop
 yld:Nat->Hp->V->Hp->Prop
 stop:Nat->Hp->Prop
noncomputable def FpOk (X:Cx) (pins:List (Addr×Obj)) (H:Hp) (b:Addr):Prop :=
 H b=none/\b≠X.env.locals/\b∉X.fs/\(b∈X.ex\/X.s₀.heap.objs.size<=b)/\(∀x c,X.env.cells.lookup x=some c->c≠b)/\∀p∈X.pn++pins,p.1≠b
theorem Inv.fpOk {X:Cx}{pins:List (Addr×Obj)}{σ:St}{H H':Hp}{s:Shared}{b:Addr}(I:Inv X pins σ H s) (hb:s.heap.objs.size<=b) (hn:H' b=none):FpOk X pins H' b:=by
 refine⟨hn,Nat.ne_of_gt (Nat.lt_of_lt_of_le I.lt hb),I.nofs hb,.inr (Nat.le_trans I.sz hb),fun x c e z=>?_,fun p hp z=>?_⟩
 . obtain⟨v,q⟩:=I.cell x c e
   exact absurd (Nat.lt_of_lt_of_le q.lt (by rw[z];exact hb)) (Nat.lt_irrefl _)
 . exact absurd (Nat.lt_of_lt_of_le (Heap.lt_size (I.pin p hp).1) (by rw[z];exact hb)) (Nat.lt_irrefl _)
structure Turn (P:Program) (w:World) (K:PySem.W.Frag) (tg:Expr) (J:It) (fp:List Addr) (it:Addr) (tn:Nat->Heap->Prop):Prop where
 mem:it∈fp
 obj:∀i h,tn i h->∀b∈fp,∃o,h.get? b=some o/\∀v,o.data≠.cell v
 keep:∀i h h',tn i h->(∀b∈fp,∀o,h.get? b=some o->h'.get? b=some o)->tn i h'
 item:∀(X:Cx),X.prog=P->X.w=w->X.K=K->X.calm=true->∀(i:Nat) (pins:List (Addr×Obj)) (s:Shared) (σ:St) (H:Hp) (E:Value->Shared->Prop),Inv X pins σ H s->(∀b∈fp,FpOk X pins H b)->tn i s.heap->J.go i H->
   wpAny (model P w) X.A (pyNext (.ref it)) (fun r s1=>∃u,r=some u/\
     wpAny (model P w) X.A (letOwnedTupleGo tg (.ref it) u) (fun _ s2=>∃x H',Inv X pins σ H' s2/\RelV x u/\J.yld i H x H'/\tn (i+1) s2.heap/\∀b∈fp,H' b=none) E s1) E s
 done:∀(X:Cx),X.prog=P->X.w=w->X.K=K->X.calm=true->∀(i:Nat) (pins:List (Addr×Obj)) (s:Shared) (σ:St) (H:Hp) (E:Value->Shared->Prop),Inv X pins σ H s->(∀b∈fp,FpOk X pins H b)->tn i s.heap->J.stop i H->
   wpAny (model P w) X.A (pyNext (.ref it)) (fun r s1=>r=none/\Inv X pins σ H s1) E s
 self:∀(A:Around) (i:Nat) (s:Shared) (Q:Value->Shared->Prop) (E:Value->Shared->Prop),tn i s.heap->Q (.ref it) s->wpAny (model P w) A (pyIter (.ref it)) Q E s
abbrev TI:=St->Hp->(It->Hp->Prop)->Prop
noncomputable def PIE (X:Cx) (pins:List (Addr×Obj)) (σ:St) (tg:Expr) (R:It->Hp->Prop) (itv:Value) (s2:Shared):Prop :=
 ∃(it:Addr) (fp:List Addr) (tn:Nat->Heap->Prop) (J:It) (H':Hp),itv=.ref it/\Inv X pins σ H' s2/\Turn X.prog X.w X.K tg J fp it tn/\tn 0 s2.heap/\(∀b∈fp,FpOk X pins H' b)/\R J H'
noncomputable def PI (X:Cx) (tg iter:Expr) (wi:TI):Prop :=
 ∀(pins:List (Addr×Obj)) (s:Shared) (σ:St) (H:Hp) (R:It->Hp->Prop),Inv X pins σ H s->wi σ H R->
   wpAny (model X.prog X.w) X.A (eval iter X.env) (fun v s1=>wpAny (model X.prog X.w) X.A (pyIter v) (PIE X pins σ tg R) X.xe s1) X.xe s
theorem qo {M:Model}{A:Around}{E:Value->Shared->Prop}{s:Shared}{tg:Expr}{it:Addr}{u:Value}{o:Obj}{n:String}{vs:Array Value}{Q:Unit->Shared->Prop}(ho:s.heap.get? it=some o) (hc:o.cls=.type n) (hd:o.data=.fields vs)
   (hn:["enumerate","zip","dict_itemiterator","dict_reverseitemiterator","odict_iterator","itertools.zip_longest","itertools.pairwise"].contains n=false) (hQ:Q () s):wpAny M A (letOwnedTupleGo tg (.ref it) u) Q E s:=by
 unfold letOwnedTupleGo
 cases tg<;>first
   | exact wpAny_pure hQ
   | (cases u<;>first
       | exact wpAny_pure hQ
       | (refine wpAny_bind (wpAny_load ho ?_)
          rw[hc,hd]
          show wpAny M A (if (["enumerate","zip","dict_itemiterator","dict_reverseitemiterator","odict_iterator","itertools.zip_longest","itertools.pairwise"].contains n && vs[0]? == some (rawInt _))=true then _ else _) Q E s
          rw[if_neg (by intro h;rw[hn,Bool.false_and] at h;cases h)]
          exact wpAny_pure hQ))
noncomputable def Itl (K:PySem.W.Frag) (a:Addr):It :=
 ⟨fun i H=>∃xs x,SqL K H a xs/\xs[i]? = some x,fun i H x H'=>H'=H/\∀xs,SqL K H a xs->xs[i]? = some x,fun i H=>∃xs,SqL K H a xs/\xs.length<=i⟩
noncomputable def Itt (K:PySem.W.Frag) (a:Addr):It :=
 ⟨fun i H=>∃xs x,SqT K H a xs/\xs[i]? = some x,fun i H x H'=>H'=H/\∀xs,SqT K H a xs->xs[i]? = some x,fun i H=>∃xs,SqT K H a xs/\xs.length<=i⟩
noncomputable def Itr (lo:Int) (n:Nat):It:=⟨fun i _=>i<n,fun i H x H'=>H'=H/\x=.int (lo+i),fun i _=>n<=i⟩
theorem a2o {P:Program}{w:World}{K:PySem.W.Frag}{tg:Expr}(a it:Addr):Turn P w K tg (Itl K a) [it] it (fun i h=>h.IsListIter it a i) where
 mem:=by simp
 obj:=fun i h st b hb=>by
   have e:b=it:=by simpa using hb
   subst e
   obtain⟨o,e,c,d⟩:=st
   exact⟨o,e,fun v z=>by rw[d] at z;cases z⟩
 keep:=fun i h h' st k=>st.at fun o e=>k it (by simp) o e
 item:=by
   intro X hP hw hK hc i pins s σ H E I hf st hg
   subst hP hw hK
   obtain⟨xs,x,hq,hx⟩:=hg
   obtain⟨its,rv,p,hz⟩:=I.list hq
   obtain⟨u,hu,ru⟩:=rv.get hx
   obtain⟨f0,f1,f2,f3,f4,f5⟩:=hf it (by simp)
   refine wpAny_pyNext_list_item st p.isList (x:=u) (by simpa using hu) fun h' st' sb=>?_
   have I1:Inv X pins σ H { s with heap:=h' }:=I.turned (t':=s.toks) (fun b o hb e=>(sb.2 b hb).trans e) f0 f1 f3 f4 f5
   obtain⟨o,e,c,d⟩:=id st'
   exact⟨u,rfl,qo (s:={ s with heap:=h' }) e c d (by decide) ⟨x,H,I1,ru,⟨rfl,fun ys hy=>by rw[I.list_inj hy hq];exact hx⟩,st',fun b hb=>(hf b hb).1⟩⟩
 done:=by
   intro X hP hw hK hc i pins s σ H E I hf st hg
   subst hP hw hK
   obtain⟨xs,hq,hx⟩:=hg
   obtain⟨its,rv,p,hz⟩:=I.list hq
   obtain⟨f0,f1,f2,f3,f4,f5⟩:=hf it (by simp)
   have hl:=rv.length
   exact wpAny_pyNext_list_end (I.ok.hd hc) st p.isList (by simp;omega) fun h' eb=>⟨rfl,I.turned (t':=s.toks) (fun b o hb e=>eb b o hb e) f0 f1 f3 f4 f5⟩
 self:=fun _ _ _ _ _ st h=>wpAny_pyIter_listiter st h
theorem a0x {P:Program}{w:World}{K:PySem.W.Frag}{tg:Expr}(a it:Addr):Turn P w K tg (Itt K a) [it] it (fun i h=>h.IsTupleIter it a i) where
 mem:=by simp
 obj:=fun i h st b hb=>by
   have e:b=it:=by simpa using hb
   subst e
   obtain⟨o,e,c,d⟩:=st
   exact⟨o,e,fun v z=>by rw[d] at z;cases z⟩
 keep:=fun i h h' st k=>st.at fun o e=>k it (by simp) o e
 item:=by
   intro X hP hw hK hc i pins s σ H E I hf st hg
   subst hP hw hK
   obtain⟨xs,x,hq,hx⟩:=hg
   obtain⟨its,rv,p,hz⟩:=I.tuple hq
   obtain⟨u,hu,ru⟩:=rv.get hx
   obtain⟨f0,f1,f2,f3,f4,f5⟩:=hf it (by simp)
   refine wpAny_pyNext_tuple_item st (show s.heap.IsTuple a its.toArray from p) (x:=u) (by simpa using hu) fun h' st' sb=>?_
   have I1:Inv X pins σ H { s with heap:=h' }:=I.turned (t':=s.toks) (fun b o hb e=>(sb.2 b hb).trans e) f0 f1 f3 f4 f5
   obtain⟨o,e,c,d⟩:=id st'
   exact⟨u,rfl,qo (s:={ s with heap:=h' }) e c d (by decide) ⟨x,H,I1,ru,⟨rfl,fun ys hy=>by rw[I.tuple_inj hy hq];exact hx⟩,st',fun b hb=>(hf b hb).1⟩⟩
 done:=by
   intro X hP hw hK hc i pins s σ H E I hf st hg
   subst hP hw hK
   obtain⟨xs,hq,hx⟩:=hg
   obtain⟨its,rv,p,hz⟩:=I.tuple hq
   obtain⟨f0,f1,f2,f3,f4,f5⟩:=hf it (by simp)
   have hl:=rv.length
   exact wpAny_pyNext_tuple_end (I.ok.hd hc) st (show s.heap.IsTuple a its.toArray from p) (by simp;omega) fun h' eb=>⟨rfl,I.turned (t':=s.toks) (fun b o hb e=>eb b o hb e) f0 f1 f3 f4 f5⟩
 self:=fun _ _ _ _ _ st h=>wpAny_pyIter_tupleiter st h
theorem a0h {P:Program}{w:World}{K:PySem.W.Frag}{tg:Expr}(it:Addr) (lo:Int) (n:Nat):Turn P w K tg (Itr lo n) [it] it (fun i h=>IsRangeIter h it (lo+(i:Nat)*1) ((n:Int) - (i:Nat)) 1) where
 mem:=by simp
 obj:=fun i h st b hb=>by
   have e:b=it:=by simpa using hb
   subst e
   exact⟨_,st,fun v z=>by
     have z':Data.fields _=Data.cell v:=z
     cases z'⟩
 keep:=fun i h h' st k=>k it (by simp) _ st
 item:=by
   intro X hP hw hK hc i pins s σ H E I hf st hg
   subst hP hw hK
   obtain⟨f0,f1,f2,f3,f4,f5⟩:=hf it (by simp)
   have W:=Walks.range (prog:=X.prog) (w:=X.w) (I.ok.hd hc) it lo 1 n
   refine W.item i s _ _ hg st fun v h' tk hv st' kk=>?_
   obtain⟨t,rfl⟩:=hv
   have I1:Inv X pins σ H { s with heap:=h',toks:=tk }:=I.turned (fun b o hb e=>kk b o (by simpa using hb) e) f0 f1 f3 f4 f5
   refine⟨_,rfl,qo (s:={ s with heap:=h',toks:=tk }) (n := "range_iterator") st' rfl rfl (by decide) ⟨.int (lo+i),H,I1,⟨t,?_⟩,⟨rfl,rfl⟩,st',fun b hb=>(hf b hb).1⟩⟩
   rw[Int.mul_one]
 done:=by
   intro X hP hw hK hc i pins s σ H E I hf st hg
   subst hP hw hK
   obtain⟨f0,f1,f2,f3,f4,f5⟩:=hf it (by simp)
   exact wpAny_pyNext_range_end (I.ok.hd hc) st (by have:n<=i:=hg;omega) fun h' eb=>⟨rfl,I.turned (t':=s.toks) (fun b o hb e=>eb b o hb e) f0 f1 f3 f4 f5⟩
 self:=fun _ _ _ _ _ st h=>wpAny_pyIter_rangeiter st h
section
variable {X:Cx}{tg:Expr}
noncomputable def a0e (K:PySem.W.Frag) (tl:TE):TI:=fun σ H R=>tl σ H fun x H1=>∃a,x=.ref a/\(∃xs,SqL K H1 a xs)/\R (Itl K a) H1
noncomputable def iTup (K:PySem.W.Frag) (tl:TE):TI:=fun σ H R=>tl σ H fun x H1=>∃a,x=.ref a/\(∃xs,SqT K H1 a xs)/\R (Itt K a) H1
theorem yx {l:Expr}{tl:TE}(hl:PE X l tl):PI X tg l (a0e X.K tl):=by
 intro pins s σ H R I h
 refine thn (hl pins s σ H _ I h) fun v s1 ⟨x,H1,I1,r1,q1⟩=>?_
 obtain⟨a,e,⟨xs,hq⟩,q⟩:=q1
 subst e
 cases r1
 obtain⟨its,rv,p,hz⟩:=I1.list hq
 refine wpAny_pyIter_list p.isList ?_
 refine⟨s1.heap.objs.size,[s1.heap.objs.size],_,_,H1,rfl,I1.kept (t':=s1.toks) fun b o e=>Heap.get?_push_of_some _ e,a2o a _,⟨_,Heap.get?_push_size _ rfl,rfl,rfl⟩,fun b hb=>?_,q⟩
 have e:b=s1.heap.objs.size:=by simpa using hb
 subst e
 exact I1.fpOk (Nat.le_refl _) (I1.hok.fresh (Nat.le_refl _))
theorem a4h {l:Expr}{tl:TE}(hl:PE X l tl):PI X tg l (iTup X.K tl):=by
 intro pins s σ H R I h
 refine thn (hl pins s σ H _ I h) fun v s1 ⟨x,H1,I1,r1,q1⟩=>?_
 obtain⟨a,e,⟨xs,hq⟩,q⟩:=q1
 subst e
 cases r1
 obtain⟨its,rv,p,hz⟩:=I1.tuple hq
 refine wpAny_pyIter_tuple (show s1.heap.IsTuple a its.toArray from p) ?_
 refine⟨s1.heap.objs.size,[s1.heap.objs.size],_,_,H1,rfl,I1.kept (t':=s1.toks) fun b o e=>Heap.get?_push_of_some _ e,a0x a _,⟨_,Heap.get?_push_size _ rfl,rfl,rfl⟩,fun b hb=>?_,q⟩
 have e:b=s1.heap.objs.size:=by simpa using hb
 subst e
 exact I1.fpOk (Nat.le_refl _) (I1.hok.fresh (Nat.le_refl _))
theorem wg {pins:List (Addr×Obj)}{σ:St}{H:Hp}{s:Shared}{R:It->Hp->Prop}{E:Value->Shared->Prop}{lo hi:Int}{t u v:Tok}{tk:Nat}(I:Inv X pins σ H s) (h1 : -(2 ^ 62)<=lo) (h2:lo<2 ^ 62) (h3 : -(2 ^ 62)<=hi) (h4:hi<2 ^ 62)
   (q:R (Itr lo (hi - lo).toNat) H):wpAny (model X.prog X.w) X.A (pyIter (.ref s.heap.objs.size)) (PIE X pins σ tg R) E { s with heap:=s.heap.push { cls:=.type "range",data:=.fields #[.int lo t,.int hi u,.int 1 v] },toks:=tk }:=by
 refine wpAny_pyIter_range (IsRange.new ..) (small_one h1 h2 h3 h4) ?_
 have I1:Inv X pins σ H { s with heap:=s.heap.push { cls:=.type "range",data:=.fields #[.int lo t,.int hi u,.int 1 v] },toks:=tk }:=I.kept fun b o e=>Heap.get?_push_of_some _ e
 refine⟨(s.heap.push { cls:=.type "range",data:=.fields #[.int lo t,.int hi u,.int 1 v] }).objs.size,[(s.heap.push { cls:=.type "range",data:=.fields #[.int lo t,.int hi u,.int 1 v] }).objs.size],_,_,H,rfl,
   I1.kept (t':=tk) fun b o e=>Heap.get?_push_of_some _ e,a0h _ lo (hi - lo).toNat,?_,fun b hb=>?_,q⟩
 . have e1:lo+((0:Nat):Int)*1=lo:=by simp
   have e2:(((hi - lo).toNat:Nat):Int) - ((0:Nat):Int)=Builtin.Range.rangeSize lo hi 1:=by rw[rangeSize_one];split<;>omega
   show IsRangeIter _ _ (lo+((0:Nat):Int)*1) ((((hi - lo).toNat:Nat):Int) - ((0:Nat):Int)) 1
   rw[e1,e2]
   exact Heap.get?_push_size _ rfl
 . have e:b=(s.heap.push { cls:=.type "range",data:=.fields #[.int lo t,.int hi u,.int 1 v] }).objs.size:=by simpa using hb
   subst e
   exact I1.fpOk (Nat.le_refl _) (I1.hok.fresh (Nat.le_refl _))
noncomputable def a6n (ta:TA):TI:=fun σ H R=>ta σ H fun vs H1=>∃j:Int,vs=[.int j] /\ -(2 ^ 62)<=j/\j<2 ^ 62/\R (Itr 0 j.toNat) H1
noncomputable def a6m (ta:TA):TI:=fun σ H R=>ta σ H fun vs H1=>∃i j:Int,vs=[.int i,.int j]/\(-(2 ^ 62)<=i/\i<2 ^ 62 /\ -(2 ^ 62)<=j/\j<2 ^ 62)/\R (Itr i (j - i).toNat) H1
theorem a3c {a:Expr}{ta:TA}{p pos:Pos}(hg:Gl X "range") (hm:X.mg "range" = none) (ha:PA X [a] ta) (hs:starEach [a] X.env=[(false,eval a X.env)]:=by rfl):PI X tg (.Call (.Name "range" p) [a] [] pos) (a6n ta):=by
 intro pins s σ H R I h
 refine Call_ (i5 I hg hm boot_range (PyProof.Rows.callWith_type1 (thn (ha pos pins s σ H _ I h) fun us s1 ⟨vs,H1,I1,r1,q1⟩=>?_) hs rfl))
 obtain⟨j,e,q1,q2,q⟩:=q1
 subst e
 cases r1 with
 | cons r rr =>
   cases rr
   obtain⟨t,rfl⟩:=r
   exact call_range_1 (wg I1 (by omega) (by omega) q1 q2 (by simpa using q))
theorem a1q {a b:Expr}{ta:TA}{p pos:Pos}(hg:Gl X "range") (hm:X.mg "range" = none) (ha:PA X [a,b] ta) (hs:starEach [a,b] X.env=[(false,eval a X.env),(false,eval b X.env)]:=by rfl) (hs2:starEach [b] X.env=[(false,eval b X.env)]:=by rfl) :
   PI X tg (.Call (.Name "range" p) [a,b] [] pos) (a6m ta):=by
 intro pins s σ H R I h
 refine Call_ (i5 I hg hm boot_range (PyProof.Rows.callWith_type1 (thn (ha pos pins s σ H _ I h) fun us s1 ⟨vs,H1,I1,r1,q1⟩=>?_) (by rw[hs,hs2]) (by rw[hs2];rfl)))
 obtain⟨i,j,e,⟨q1,q2,q3,q4⟩,q⟩:=q1
 subst e
 cases r1 with
 | cons r rr =>
   cases rr with
   | cons r' rr =>
     cases rr
     obtain⟨t,rfl⟩:=r
     obtain⟨t',rfl⟩:=r'
     exact call_range_2 (wg I1 q1 q2 q3 q4 q)
noncomputable def tFor (wi:TI) (g:TG) (tb:TS):TS:=fun D σ H=>wi σ H fun J H1=>∃W:Nat->Nat->St->Hp->Prop,(∃m,W 0 m σ H1)/\∀i m σ H,W i m σ H->
 (J.stop i H/\D.nx σ H)\/(J.go i H/\∃N:St->Hp->Prop,(∀σ' H',N σ' H'->∃m',m'<m/\W (i+1) m' σ' H')/\∀x H',J.yld i H x H'->g x σ H' fun σ2 H2=>tb { D with nx:=N,ct:=N,bk:=D.nx } σ2 H2)
noncomputable def il (fp:List Addr) (h:Heap):List (Addr×Obj):=fp.filterMap fun b=>(h.get? b).map fun o=>(b,o)
theorem fw {fp:List Addr}{h:Heap}{b:Addr}{o:Obj}(hb:b∈fp) (e:h.get? b=some o):(b,o)∈il fp h:=List.mem_filterMap.mpr ⟨b,hb,by rw[e];rfl⟩
theorem a1g {fp:List Addr}{h:Heap}{p:Addr×Obj}(hp:p∈il fp h):p.1∈fp/\h.get? p.1=some p.2:=by
 obtain⟨b,hb,e⟩:=List.mem_filterMap.mp hp
 cases q:h.get? b with
 | none=>rw[q] at e;cases e
 | some o =>
   rw[q] at e
   have e':(b,o)=p:=Option.some.inj e
   subst e'
   exact⟨hb,q⟩
theorem Inv.pinned {pins:List (Addr×Obj)}{σ:St}{H:Hp}{s:Shared}{fp:List Addr}(I:Inv X pins σ H s) (hf:∀b∈fp,FpOk X pins H b) (ho:∀b∈fp,∃o,s.heap.get? b=some o/\∀v,o.data≠.cell v):Inv X (pins++il fp s.heap) σ H s :=
 I.pins_of fun p hp=>(List.mem_append.mp hp).elim (fun z=>I.pin p (List.mem_append_right _ z)) fun z=>by
   obtain⟨hb,e⟩:=a1g z
   obtain⟨f0,f1,f2,_⟩:=hf p.1 hb
   obtain⟨o,e',d⟩:=ho p.1 hb
   rw[e] at e';cases e'
   exact⟨e,f0,f1,f2,d⟩
theorem Inv.unpinned {pins pl:List (Addr×Obj)}{σ:St}{H:Hp}{s:Shared}(I:Inv X (pins++pl) σ H s):Inv X pins σ H s:=I.pins_of fun p hp=>I.pin p (List.mem_append_right _ (List.mem_append_left _ hp))
theorem a2z {iter:Expr}{body:List Stmt}{wi:TI}{g:TG}{tb:TS}{pos:Pos}(hp:PassesOwn (model X.prog X.w) X.A X.env X.xe) (hc:X.calm=true) (hi:PI X tg iter wi) (hg:PG X tg g) (hb:PSs X body tb)
   (hs:∀x,foldedSetIterable iter X.env x=pure x:=by intro _;rfl):PS X (.For tg iter body [] pos) (tFor wi g tb):=by
 intro pins s σ H D I h
 refine wpAny_For (thn (hi pins s σ H _ I h) fun v s1 h1=>thn h1 fun itv s2 h2=>?_) hs
 obtain⟨it,fp,tn,J,H2,e,I2,T,st2,f2,W,⟨m0,w0⟩,turn⟩:=h2
 subst e
 have stat:∀{H':Hp},(∀b∈fp,H' b=none)->∀b∈fp,FpOk X pins H' b:=fun hn b hb=>⟨hn b hb,(f2 b hb).2⟩
 refine codeAny_forLoop_any (fun n s'=>∃i σ' H',Inv X pins σ' H' s'/\tn i s'.heap/\(∀b∈fp,H' b=none)/\W i n σ' H') ?_ m0 ⟨0,σ,H2,I2,st2,fun b hb=>(f2 b hb).1,w0⟩
 rintro n s3 ⟨i,σ3,H3,I3,st3,fr3,w3⟩
 rcases turn i n σ3 H3 w3 with⟨stop,qn⟩|⟨go,N,hN,step⟩
 . refine wpAny_passesOwn hp (thn (T.done X rfl rfl rfl hc i pins s3 σ3 H3 X.xe I3 (stat fr3) st3 stop) fun r s4 ⟨hr,I4⟩=>?_)
   subst hr
   exact wpAny_execs_nil ⟨σ3,H3,I4,qn⟩
 . refine wpAny_passesOwn hp (thn (T.item X rfl rfl rfl hc i pins s3 σ3 H3 X.xe I3 (stat fr3) st3 go) fun r s4 ⟨u,hr,h4⟩=>?_)
   subst hr
   refine wpAny_passesOwn hp (thn h4 fun _ s5 ⟨x,H5,I5,r5,y5,st5,fr5⟩=>?_)
   have I5':=I5.pinned (stat fr5) (T.obj _ _ st5)
   refine wpAny_passesOwn hp (thn (hg _ s5 σ3 H5 x u _ I5' r5 (step x H5 y5)) fun _ s6 ⟨σ6,H6,I6,q6⟩=>?_)
   refine wpAny_passesOwn hp (thn (hb _ s6 σ6 H6 _ I6 q6) fun f s7 q7=>?_)
   have again:∀{σ7:St} {H7:Hp},Inv X (pins++il fp s5.heap) σ7 H7 s7->N σ7 H7->∃m,m<n/\∃i σ' H',Inv X pins σ' H' s7/\tn i s7.heap/\(∀b∈fp,H' b=none)/\W i m σ' H':=fun {σ7 H7} I7 n7=>by
     obtain⟨m',hm,w7⟩:=hN σ7 H7 n7
     refine⟨m',hm,i+1,σ7,H7,I7.unpinned,T.keep _ _ _ st5 fun b hb o e=>(I7.pin (b,o) (List.mem_append_right _ (List.mem_append_right _ (fw hb e)))).1,fun b hb=>?_,w7⟩
     obtain⟨o,e,d⟩:=T.obj _ _ st5 b hb
     exact (I7.pin (b,o) (List.mem_append_right _ (List.mem_append_right _ (fw hb e)))).2.1
   cases f with
   | next=>obtain⟨σ7,H7,I7,n7⟩:=q7;exact again I7 n7
   | cont=>obtain⟨σ7,H7,I7,n7⟩:=q7;exact again I7 n7
   | brk=>obtain⟨σ7,H7,I7,q7⟩:=q7;exact⟨σ7,H7,I7.unpinned,q7⟩
   | ret v=>obtain⟨x7,σ7,H7,I7,r7,q7⟩:=q7;exact⟨x7,σ7,H7,I7.unpinned,r7,q7⟩
end
theorem gv {K:PySem.W.Frag}{a:Addr}{xs:List V}{g:TG}{tb:TS}{D:Ends}{σ:St}{H:Hp}(Pv:Nat->St->Hp->Prop) (h0:Pv 0 σ H) (hl:∀i σ H,i<=xs.length->Pv i σ H->SqL K H a xs)
   (hs:∀i x σ H,xs[i]? = some x->Pv i σ H->g x σ H fun σ2 H2=>tb { D with nx:=Pv (i+1),ct:=Pv (i+1),bk:=D.nx } σ2 H2) (hd:∀σ H,Pv xs.length σ H->D.nx σ H) :
   ∃W:Nat->Nat->St->Hp->Prop,(∃m,W 0 m σ H)/\∀i m σ H,W i m σ H->
     ((Itl K a).stop i H/\D.nx σ H)\/((Itl K a).go i H/\∃N:St->Hp->Prop,(∀σ' H',N σ' H'->∃m',m'<m/\W (i+1) m' σ' H')/\∀x H',(Itl K a).yld i H x H'->g x σ H' fun σ2 H2=>tb { D with nx:=N,ct:=N,bk:=D.nx } σ2 H2):=by
 refine⟨fun i m σ H=>m=xs.length - i/\i<=xs.length/\Pv i σ H,⟨xs.length,by simp,Nat.zero_le _,h0⟩,?_⟩
 rintro i m σ H ⟨rfl,hi,p⟩
 have q:=hl i σ H hi p
 by_cases hlt:i<xs.length
 . refine .inr ⟨⟨xs,xs[i],q,by simp[hlt]⟩,Pv (i+1),fun σ' H' p'=>⟨xs.length - (i+1),by omega,rfl,hlt,p'⟩,fun x H' y=>?_⟩
   obtain⟨e,y⟩:=y
   subst e
   exact hs i x σ _ (y xs q) p
 . have e:i=xs.length:=by omega
   subst e
   exact .inl ⟨⟨xs,q,Nat.le_refl _⟩,hd σ H p⟩
theorem yl {K:PySem.W.Frag}{a:Addr}{xs:List V}{g:TG}{tb:TS}{D:Ends}{σ:St}{H:Hp}(Pv:Nat->St->Hp->Prop) (h0:Pv 0 σ H) (hl:∀i σ H,i<=xs.length->Pv i σ H->SqT K H a xs)
   (hs:∀i x σ H,xs[i]? = some x->Pv i σ H->g x σ H fun σ2 H2=>tb { D with nx:=Pv (i+1),ct:=Pv (i+1),bk:=D.nx } σ2 H2) (hd:∀σ H,Pv xs.length σ H->D.nx σ H) :
   ∃W:Nat->Nat->St->Hp->Prop,(∃m,W 0 m σ H)/\∀i m σ H,W i m σ H->
     ((Itt K a).stop i H/\D.nx σ H)\/((Itt K a).go i H/\∃N:St->Hp->Prop,(∀σ' H',N σ' H'->∃m',m'<m/\W (i+1) m' σ' H')/\∀x H',(Itt K a).yld i H x H'->g x σ H' fun σ2 H2=>tb { D with nx:=N,ct:=N,bk:=D.nx } σ2 H2):=by
 refine⟨fun i m σ H=>m=xs.length - i/\i<=xs.length/\Pv i σ H,⟨xs.length,by simp,Nat.zero_le _,h0⟩,?_⟩
 rintro i m σ H ⟨rfl,hi,p⟩
 have q:=hl i σ H hi p
 by_cases hlt:i<xs.length
 . refine .inr ⟨⟨xs,xs[i],q,by simp[hlt]⟩,Pv (i+1),fun σ' H' p'=>⟨xs.length - (i+1),by omega,rfl,hlt,p'⟩,fun x H' y=>?_⟩
   obtain⟨e,y⟩:=y
   subst e
   exact hs i x σ _ (y xs q) p
 . have e:i=xs.length:=by omega
   subst e
   exact .inl ⟨⟨xs,q,Nat.le_refl _⟩,hd σ H p⟩
theorem gj {lo:Int}{n:Nat}{g:TG}{tb:TS}{D:Ends}{σ:St}{H:Hp}(Pv:Nat->St->Hp->Prop) (h0:Pv 0 σ H)
   (hs:∀i σ H,i<n->Pv i σ H->g (.int (lo+i)) σ H fun σ2 H2=>tb { D with nx:=Pv (i+1),ct:=Pv (i+1),bk:=D.nx } σ2 H2) (hd:∀σ H,Pv n σ H->D.nx σ H) :
   ∃W:Nat->Nat->St->Hp->Prop,(∃m,W 0 m σ H)/\∀i m σ H,W i m σ H->
     ((Itr lo n).stop i H/\D.nx σ H)\/((Itr lo n).go i H/\∃N:St->Hp->Prop,(∀σ' H',N σ' H'->∃m',m'<m/\W (i+1) m' σ' H')/\∀x H',(Itr lo n).yld i H x H'->g x σ H' fun σ2 H2=>tb { D with nx:=N,ct:=N,bk:=D.nx } σ2 H2):=by
 refine⟨fun i m σ H=>m=n - i/\i<=n/\Pv i σ H,⟨n,by simp,Nat.zero_le _,h0⟩,?_⟩
 rintro i m σ H ⟨rfl,hi,p⟩
 by_cases hlt:i<n
 . refine .inr ⟨hlt,Pv (i+1),fun σ' H' p'=>⟨n - (i+1),by omega,rfl,hlt,p'⟩,fun x H' y=>?_⟩
   obtain⟨e,y⟩:=y
   subst e y
   exact hs i σ _ hlt p
 . have e:i=n:=by omega
   subst e
   exact .inl ⟨Nat.le_refl _,hd σ H p⟩
abbrev R2:=V->V->Hp->VK->Prop
noncomputable def OpR (X:Cx) (f:Value->Value->Sem Value) (r:R2):Prop :=
 ∀(pins:List (Addr×Obj)) (s:Shared) (σ:St) (H:Hp) (x y:V) (v u:Value) (Q:VK),Inv X pins σ H s->RelV x v->RelV y u->r x y H Q->
   wpAny (model X.prog X.w) X.A (f v u) (EP X pins σ Q) X.xe s
noncomputable def UnR (X:Cx) (f:Value->Sem Value) (r:V->Hp->VK->Prop):Prop :=
 ∀(pins:List (Addr×Obj)) (s:Shared) (σ:St) (H:Hp) (x:V) (v:Value) (Q:VK),Inv X pins σ H s->RelV x v->r x H Q->
   wpAny (model X.prog X.w) X.A (f v) (EP X pins σ Q) X.xe s
noncomputable def cf (X:Cx) (f:Value) (r:List V->Hp->VK->Prop):Prop :=
 ∀(pins:List (Addr×Obj)) (s:Shared) (σ:St) (H:Hp) (xs:List V) (us:List Value) (Q:VK),Inv X pins σ H s->Vals xs us->r xs H Q->
   wpAny (model X.prog X.w) X.A (call f us) (EP X pins σ Q) X.xe s
noncomputable def tOp (r:R2) (ta tb:TE):TE:=fun σ H Q=>ta σ H fun x H1=>tb σ H1 fun y H2=>r x y H2 Q
noncomputable def tUn (r:V->Hp->VK->Prop) (ta:TE):TE:=fun σ H Q=>ta σ H fun x H1=>r x H1 Q
noncomputable def rI (C:Int->Int->Prop) (g:Int->Int->V):R2:=fun x y H Q=>∃i j,x=.int i/\y=.int j/\C i j/\Q (g i j) H
noncomputable def rI0 (g:Int->Int->V):R2:=fun x y H Q=>∃i j,x=.int i/\y=.int j/\Q (g i j) H
noncomputable def rU (g:Int->V):V->Hp->VK->Prop:=fun x H Q=>∃i,x=.int i/\Q (g i) H
section
variable {X:Cx}{a b c:Expr}{ta tb tc:TE}{pos:Pos}
theorem binT (ha:PE X a ta) (hb:PE X b tb) {pins:List (Addr×Obj)}{s:Shared}{σ:St}{H:Hp}{R:V->V->Hp->Prop}(I:Inv X pins σ H s)
   (h:ta σ H fun x H1=>tb σ H1 fun y H2=>R x y H2) {Q:Value->Shared->Prop} {f:Value->Value->Sem Value}
   (hf:∀v u s2 x y H2,Inv X pins σ H2 s2->RelV x v->RelV y u->R x y H2->wpAny (model X.prog X.w) X.A (f v u) Q X.xe s2) :
   wpAny (model X.prog X.w) X.A (eval a X.env) (fun v s₁=>wpAny (model X.prog X.w) X.A (eval b X.env) (fun u s₂=>wpAny (model X.prog X.w) X.A (f v u) Q X.xe s₂) X.xe s₁) X.xe s:=by
 refine thn (ha pins s σ H _ I h) fun v s1 ⟨x,H1,I1,r1,q1⟩=>?_
 refine thn (hb pins s1 σ H1 _ I1 q1) fun u s2 ⟨y,H2,I2,r2,q2⟩=>?_
 exact hf v u s2 x y H2 I2 r1 r2 q2
theorem a6e {op:Operator}{r:R2}(ho:OpR X (binaryOp op) r) (ha:PE X a ta) (hb:PE X b tb):PE X (.BinOp a op b pos) (tOp r ta tb):=by
 intro pins s σ H Q I h
 exact wpAny_BinOp (binT ha hb I h fun v u s2 x y H2 I2 rx ry q=>ho pins s2 σ H2 x y v u Q I2 rx ry q)
theorem aag {op:UnaryOp}{r:V->Hp->VK->Prop}(ho:UnR X (unaryOp op) r) (ha:PE X a ta):PE X (.UnaryOp op a pos) (tUn r ta):=by
 intro pins s σ H Q I h
 exact UnaryOp_ (thn (ha pins s σ H _ I h) fun v s1 ⟨x,H1,I1,r1,q1⟩=>ho pins s1 σ H1 x v Q I1 r1 q1)
theorem opI {f:Value->Value->Sem Value}{C:Int->Int->Prop}{g:Int->Int->Int}
   (rule:∀(i j:Int) (t u:Tok) (s:Shared) (Q:Value->Shared->Prop) (E:Value->Shared->Prop),C i j->Q (.int (g i j) s.toks) { s with toks:=s.toks+1 }->wpAny (model X.prog X.w) X.A (f (.int i t) (.int j u)) Q E s) :
   OpR X f (rI C fun i j=>.int (g i j)):=by
 intro pins s σ H x y v u Q I rx ry h
 obtain⟨i,j,rfl,rfl,hc,q⟩:=h
 obtain⟨t,rfl⟩:=rx
 obtain⟨t',rfl⟩:=ry
 exact rule i j t t' s _ _ hc ⟨.int (g i j),H,I.tok _,⟨_,rfl⟩,q⟩
theorem opI0 {f:Value->Value->Sem Value}{g:Int->Int->Int}
   (rule:∀(i j:Int) (t u:Tok) (s:Shared) (Q:Value->Shared->Prop) (E:Value->Shared->Prop),Q (.int (g i j) s.toks) { s with toks:=s.toks+1 }->wpAny (model X.prog X.w) X.A (f (.int i t) (.int j u)) Q E s) :
   OpR X f (rI0 fun i j=>.int (g i j)):=by
 intro pins s σ H x y v u Q I rx ry h
 obtain⟨i,j,rfl,rfl,q⟩:=h
 obtain⟨t,rfl⟩:=rx
 obtain⟨t',rfl⟩:=ry
 exact rule i j t t' s _ _ ⟨.int (g i j),H,I.tok _,⟨_,rfl⟩,q⟩
theorem opB0 {f:Value->Value->Sem Value}{g:Int->Int->Bool}
   (rule:∀(i j:Int) (t u:Tok) (s:Shared) (Q:Value->Shared->Prop) (E:Value->Shared->Prop),Q (.bool (g i j)) s->wpAny (model X.prog X.w) X.A (f (.int i t) (.int j u)) Q E s) :
   OpR X f (rI0 fun i j=>.bl (g i j)):=by
 intro pins s σ H x y v u Q I rx ry h
 obtain⟨i,j,rfl,rfl,q⟩:=h
 obtain⟨t,rfl⟩:=rx
 obtain⟨t',rfl⟩:=ry
 exact rule i j t t' s _ _ ⟨.bl (g i j),H,I,rfl,q⟩
noncomputable def CDiv (i j:Int):Prop:=0<j/\j<1073741824
noncomputable def CPow (i j:Int):Prop:=0<=j/\j<=1000000/\i.natAbs<2 ^ 64
noncomputable def CMul (i j:Int):Prop:=(-(2 ^ 64)<i/\i<2 ^ 64)\/(-(2 ^ 64)<j/\j<2 ^ 64)
theorem CMul.ok {i j:Int}(h:CMul i j):IntMulOk i j:=by
 rcases h with⟨h1,h2⟩|⟨h1,h2⟩
 . exact .of_left (intBits_le_64 h1 h2)
 . exact .of_right (intBits_le_64 h1 h2)
theorem bh:OpR X (binaryOp .Add) (rI0 fun i j=>.int (i+j)):=opI0 fun _ _ _ _ _ _ _ q=>add_int q
theorem x3:OpR X (binaryOp .Sub) (rI0 fun i j=>.int (i - j)):=opI0 fun _ _ _ _ _ _ _ q=>sub_int q
theorem ik:OpR X (binaryOp .Mult) (rI CMul fun i j=>.int (i*j)):=opI fun _ _ _ _ _ _ _ hc q=>mul_int q hc.ok
theorem fc:OpR X (binaryOp .FloorDiv) (rI CDiv fun i j=>.int (i / j)):=opI fun i j _ _ _ _ _ hc q=>by
 have h1:(0:Int)<j:=hc.1
 have h2:j<1073741824:=hc.2
 exact floordiv_int (by omega) (by rw[Int.fdiv_eq_ediv_of_nonneg i (by omega)];exact q) (.inl (PyProof.noPylong_small (by omega)))
theorem cr:OpR X (binaryOp .Mod) (rI (fun _ j=>0<j) fun i j=>.int (i % j)):=opI fun i j _ _ _ _ _ hc q=>by
 have h1:(0:Int)<j:=hc
 exact mod_int' (by omega) (by rw[Int.fmod_eq_emod_of_nonneg i (by omega)];exact q)
theorem qr:OpR X (binaryOp .Pow) (rI CPow fun i j=>.int (i ^ j.toNat)):=opI fun _ _ _ _ _ _ _ hc q=>pow_int_small hc.1 hc.2.1 hc.2.2 q
theorem unI {f:Value->Sem Value}{g:Int->Int}
   (rule:∀(i:Int) (t:Tok) (s:Shared) (Q:Value->Shared->Prop) (E:Value->Shared->Prop),Q (.int (g i) s.toks) { s with toks:=s.toks+1 }->wpAny (model X.prog X.w) X.A (f (.int i t)) Q E s) :
   UnR X f (rU fun i=>.int (g i)):=by
 intro pins s σ H x v Q I rx h
 obtain⟨i,rfl,q⟩:=h
 obtain⟨t,rfl⟩:=rx
 exact rule i t s _ _ ⟨.int (g i),H,I.tok _,⟨_,rfl⟩,q⟩
theorem dh:UnR X (unaryOp .USub) (rU fun i=>.int (-i)):=unI fun _ _ _ _ _ q=>neg_int q
end
noncomputable def scal:V->V->Bool
 | .non,.non=>true|.non,.int _=>true|.int _,.non=>true|.non,.bl _=>true|.bl _,.non=>true|.non,.str _=>true|.str _,.non=>true
 | .int _,.int _=>true|.bl _,.bl _=>true|.str _,.str _=>true|.byt _,.byt _=>true
 | .int _,.str _=>true|.str _,.int _=>true|.bl _,.str _=>true|.str _,.bl _=>true
 | _,_=>false
noncomputable def rEq:R2:=fun x y H Q=>scal x y=true/\Q (.bl (decide (x=y))) H
noncomputable def rNe:R2:=fun x y H Q=>scal x y=true/\Q (.bl (!decide (x=y))) H
theorem yg {i j:Int}:decide (V.int i=V.int j)=(i == j):=by
 rw[Bool.eq_iff_iff]
 simp
theorem a3d {i j:Bool}:decide (V.bl i=V.bl j)=(i == j):=by
 rw[Bool.eq_iff_iff]
 simp
theorem ym {i j:Str}:decide (V.str i=V.str j)=(i == j):=by
 rw[Bool.eq_iff_iff]
 simp
theorem zk {i j:Array UInt8}:decide (V.byt i=V.byt j)=(i.toList == j.toList):=by
 rw[Bool.eq_iff_iff]
 cases i
 cases j
 simp
section
variable {X:Cx}{a b c:Expr}{ta tb tc:TE}{pos:Pos}
theorem bf {pins:List (Addr×Obj)}{σ:St}{H:Hp}{s:Shared}{Q:VK}{k k':Bool}(I:Inv X pins σ H s) (q:Q (.bl k) H) (e:k=k'):EP X pins σ Q (.bool k') s:=by
 subst e
 exact⟨.bl k,H,I,rfl,q⟩
theorem be:OpR X (compareOp .Eq) rEq:=by
 intro pins s σ H x y v u Q I rx ry h
 obtain⟨hs,q⟩:=h
 cases x with
 | non =>
   cases rx
   cases y with
   | non=>cases ry;exact PySem.EqNone.eq_none_none (bf I q (by simp))
   | bl j=>cases ry;exact PySem.EqNone.eq_none_bool (bf I q (by simp))
   | int j=>obtain⟨t',rfl⟩:=ry;exact PySem.EqNone.eq_none_int (bf I q (by simp))
   | str j=>obtain⟨t',rfl⟩:=ry;exact PySem.EqNone.eq_none_str (bf I q (by simp))
   | _=>exact absurd (show false=true from hs) Bool.false_ne_true
 | bl i =>
   cases rx
   cases y with
   | non=>cases ry;exact PySem.EqNone.eq_bool_none (bf I q (by simp))
   | bl j=>cases ry;exact eq_bool (bf I q a3d)
   | str j=>obtain⟨t',rfl⟩:=ry;exact PySem.EqMixed.eq_bool_str (bf I q (by simp))
   | _=>exact absurd (show false=true from hs) Bool.false_ne_true
 | int i =>
   obtain⟨t,rfl⟩:=rx
   cases y with
   | non=>cases ry;exact PySem.EqNone.eq_int_none (bf I q (by simp))
   | int j=>obtain⟨t',rfl⟩:=ry;exact eq_int (bf I q yg)
   | str j=>obtain⟨t',rfl⟩:=ry;exact PySem.EqMixed.eq_int_str (bf I q (by simp))
   | _=>exact absurd (show false=true from hs) Bool.false_ne_true
 | str i =>
   obtain⟨t,rfl⟩:=rx
   cases y with
   | non=>cases ry;exact PySem.EqNone.eq_str_none (bf I q (by simp))
   | bl j=>cases ry;exact PySem.EqMixed.eq_str_bool (bf I q (by simp))
   | int j=>obtain⟨t',rfl⟩:=ry;exact PySem.EqMixed.eq_str_int (bf I q (by simp))
   | str j=>obtain⟨t',rfl⟩:=ry;exact eq_str (bf I q ym)
   | _=>exact absurd (show false=true from hs) Bool.false_ne_true
 | byt i =>
   obtain⟨t,rfl⟩:=rx
   cases y with
   | byt j=>obtain⟨t',rfl⟩:=ry;exact PySem.W.eq_bytes (bf I q zk)
   | _=>exact absurd (show false=true from hs) Bool.false_ne_true
 | _=>cases y<;>exact absurd (show false=true from hs) Bool.false_ne_true
theorem mx:OpR X (compareOp .NotEq) rNe:=by
 intro pins s σ H x y v u Q I rx ry h
 obtain⟨hs,q⟩:=h
 cases x with
 | non =>
   cases rx
   cases y with
   | non=>cases ry;exact PySem.EqNone.ne_none_none (bf I q (by simp))
   | bl j=>cases ry;exact PySem.EqNone.ne_none_bool (bf I q (by simp))
   | int j=>obtain⟨t',rfl⟩:=ry;exact PySem.EqNone.ne_none_int (bf I q (by simp))
   | str j=>obtain⟨t',rfl⟩:=ry;exact PySem.EqNone.ne_none_str (bf I q (by simp))
   | _=>exact absurd (show false=true from hs) Bool.false_ne_true
 | bl i =>
   cases rx
   cases y with
   | non=>cases ry;exact PySem.EqNone.ne_bool_none (bf I q (by simp))
   | bl j=>cases ry;exact ne_bool (bf I q (congrArg not a3d))
   | str j=>obtain⟨t',rfl⟩:=ry;exact PySem.EqMixed.ne_bool_str (bf I q (by simp))
   | _=>exact absurd (show false=true from hs) Bool.false_ne_true
 | int i =>
   obtain⟨t,rfl⟩:=rx
   cases y with
   | non=>cases ry;exact PySem.EqNone.ne_int_none (bf I q (by simp))
   | int j=>obtain⟨t',rfl⟩:=ry;exact ne_int (bf I q (congrArg not yg))
   | str j=>obtain⟨t',rfl⟩:=ry;exact PySem.EqMixed.ne_int_str (bf I q (by simp))
   | _=>exact absurd (show false=true from hs) Bool.false_ne_true
 | str i =>
   obtain⟨t,rfl⟩:=rx
   cases y with
   | non=>cases ry;exact PySem.EqNone.ne_str_none (bf I q (by simp))
   | bl j=>cases ry;exact PySem.EqMixed.ne_str_bool (bf I q (by simp))
   | int j=>obtain⟨t',rfl⟩:=ry;exact PySem.EqMixed.ne_str_int (bf I q (by simp))
   | str j=>obtain⟨t',rfl⟩:=ry;exact ne_str (bf I q (congrArg not ym))
   | _=>exact absurd (show false=true from hs) Bool.false_ne_true
 | byt i =>
   obtain⟨t,rfl⟩:=rx
   cases y with
   | byt j=>obtain⟨t',rfl⟩:=ry;exact PySem.W.ne_bytes (bf I q (congrArg not zk))
   | _=>exact absurd (show false=true from hs) Bool.false_ne_true
 | _=>cases y<;>exact absurd (show false=true from hs) Bool.false_ne_true
theorem a0n:OpR X (compareOp .Lt) (rI0 fun i j=>.bl (decide (i<j))):=opB0 fun _ _ _ _ _ _ _ q=>lt_int q
theorem uq:OpR X (compareOp .Gt) (rI0 fun i j=>.bl (decide (j<i))):=opB0 fun _ _ _ _ _ _ _ q=>gt_int q
theorem a4e:OpR X (compareOp .In) (fun x y H Q=>∃i j,x=.str i/\y=.str j/\Q (.bl (!(Builtin.Str.occurrences j i 0 j.length 1).isEmpty)) H):=by
 intro pins s σ H x y v u Q I rx ry h
 obtain⟨i,j,rfl,rfl,q⟩:=h
 obtain⟨t,rfl⟩:=rx
 obtain⟨t',rfl⟩:=ry
 exact in_str (bf I q rfl)
theorem vz:OpR X (compareOp .Is) (fun x y H Q=>y=.non/\Q (.bl (decide (x=.non))) H):=by
 intro pins s σ H x y v u Q I rx ry h
 obtain⟨rfl,q⟩:=h
 cases ry
 refine is_none_gen (bf I q ?_)
 cases x<;>first
   | (cases rx;rfl)
   | (obtain⟨t,rfl⟩:=rx;rfl)
theorem a7b:OpR X (compareOp .IsNot) (fun x y H Q=>y=.non/\Q (.bl (!decide (x=.non))) H):=by
 intro pins s σ H x y v u Q I rx ry h
 obtain⟨rfl,q⟩:=h
 cases ry
 refine isnot_none_gen (bf I q ?_)
 cases x<;>first
   | (cases rx;rfl)
   | (obtain⟨t,rfl⟩:=rx;rfl)
theorem ax (b:Expr) {op:CmpOp}(h:op≠.In:=by decide) (h2:op≠.NotIn:=by decide):behindInMarks op b=false:=by
 have e1:(op == CmpOp.In)=false:=by cases op<;>first|rfl|exact absurd rfl h
 have e2:(op == CmpOp.NotIn)=false:=by cases op<;>first|rfl|exact absurd rfl h2
 cases b<;>simp[behindInMarks,e1,e2]
theorem md {op:CmpOp}{r:R2}(ho:OpR X (compareOp op) r) (ha:PE X a ta) (hb:PE X b tb) (hm:behindInMarks op b=false):PE X (.Compare a [op] [b] pos) (tOp r ta tb):=by
 intro pins s σ H Q I h
 exact wpAny_Compare1 (binT ha hb I h fun v u s2 x y H2 I2 rx ry q=>ho pins s2 σ H2 x y v u Q I2 rx ry q) hm
noncomputable def qd (t:TE):TT:=fun σ H Q=>t σ H fun x H'=>∃k,x=.bl k/\Q k H'
theorem jr {op:CmpOp}{r:R2}(ho:OpR X (compareOp op) r) (ha:PE X a ta) (hb:PE X b tb) (hm:behindInMarks op b=false):PT X (.Compare a [op] [b] pos) (qd (tOp r ta tb)):=by
 intro pins s σ H Q I h
 refine wpAny_isTrue_Compare1 (thn (ha pins s σ H _ I h) fun v s1 ⟨x,H1,I1,r1,q1⟩=>thn (hb pins s1 σ H1 _ I1 q1) fun u s2 ⟨y,H2,I2,r2,q2⟩ =>
   thn (ho pins s2 σ H2 x y v u _ I2 r1 r2 q2) fun c s3 ⟨z,H3,I3,r3,k,e,q3⟩=>?_) hm
 subst e
 cases r3
 exact wpAny_truthy_bool ⟨H3,I3,q3⟩
theorem jh:(sizeLine:Nat)<2 ^ 63:=by rw[sizeLine_eq];decide
theorem gl:OpR X (binaryOp .Add) (fun x y H Q=>∃i j,x=.str i/\y=.str j/\i.length+j.length<=sizeLine/\Q (.str (i++j)) H):=by
 intro pins s σ H x y v u Q I rx ry h
 obtain⟨i,j,rfl,rfl,hz,q⟩:=h
 obtain⟨t,rfl⟩:=rx
 obtain⟨t',rfl⟩:=ry
 exact add_str (fun t' tk=>⟨.str (i++j),H,I.tok _,⟨_,rfl⟩,q⟩) hz
theorem ko {x:V}{us:List Value}(r:Vals [x] us):∃u,us=[u]/\RelV x u:=by
 cases r with
 | cons r1 r2=>cases r2;exact⟨_,rfl,r1⟩
end
structure ObjM (h:Heap) (x dx C:Addr) (mA:Str->Option Value):Prop where
 obj:h.get? x=some (PySem.W.instObj C dx)
 ns:h.Ns1 dx mA
 ne:dx≠x
theorem a3m {h:Heap}{dx:Addr}{mA:Str->Option Value}(n:h.Ns1 dx mA):∃od,h.get? dx=some od/\∀name,PySem.W.lookIn name od=some (mA name):=by
 obtain⟨o,es,ep,ho,hd,hk,_,hm⟩:=n
 refine⟨o,ho,fun name=>?_⟩
 have e:=hm name
 unfold nsFind findBy at e
 rw[<- Array.find?_toList] at e
 unfold PySem.W.lookIn
 rw[hd]
 dsimp only
 split
 . rename_i y q
   rw[q] at e
   exact congrArg some e
 . rename_i q
   rw[q] at e
   have a:es.toList.any (·.refKey)=false:=by
     rw[List.any_eq_false]
     intro y hy
     obtain⟨z,t,hkey⟩:=hk y (Array.mem_toList_iff.mp hy)
     simp[DictEntry.refKey,hkey]
   have a':¬ es.toList.any (·.refKey)=true:=by rw[a];exact Bool.false_ne_true
   rw[if_neg a']
   exact congrArg some e
theorem ObjM.look {h:Heap}{x dx C:Addr}{mA:Str->Option Value}(I:ObjM h x dx C mA):∃od,PySem.W.InstAt h x (PySem.W.instObj C dx) C (some od)/\∀name,PySem.W.lookIn name od=some (mA name) :=
 let ⟨od,ho,hl⟩:=a3m I.ns
 ⟨od,⟨I.obj,rfl,rfl,ho⟩,hl⟩
section
variable {prog:Program}{w:World}{A:Around}{E:Value->Shared->Prop}{s:Shared}{K:PySem.W.Frag}{x dx C f:Addr}{mA:Str->Option Value}{name:Str}{v:Value}
theorem a78 {expr:Bool}{Q:Value->Shared->Prop}(X:K.In s.heap) (I:ObjM s.heap x dx C mA) (hg:PySem.W.plainGet K C name=true) (hh:PySem.W.hasDictIn K C=true)
   (ha:PySem.W.findIn K (.ref C) name=some none) (hv:mA name=some v) (hv':PySem.W.handedIn v=true) (h:Q v { s with toks:=s.toks+1 }) :
   wpAny (model prog w) A (getAttr (.ref x) name expr) Q E s:=by
 obtain⟨od,J,hl⟩:=I.look
 exact PySem.W.get_value X J (PySem.W.plainGet_of hg).1 (PySem.W.findObj_own hh ha rfl (by rw[hl,hv])) hv' h
theorem a4x {pl:Sem Bool}{Q:Value×List Value->Shared->Prop}(X:K.In s.heap) (I:ObjM s.heap x dx C mA) (hg:PySem.W.plainGet K C name=true)
   (hf:PySem.W.findIn K (.ref C) name=some (some (.ref f))) (ht:PySem.W.isFn K (.ref f)=true) (hv:mA name=none) (h:Q (.ref f,[.ref x]) s) :
   wpAny (model prog w) A (getMethod (.ref x) name pl) Q E s:=by
 obtain⟨od,J,hl⟩:=I.look
 exact PySem.W.method_fn X J (PySem.W.plainGet_of hg).1 (PySem.W.plainGet_of hg).2 hf (beq_iff_eq.mp ht) (by show (PySem.W.lookIn name od).map (·.isSome)=some false;rw[hl,hv];rfl) h
theorem a8b {ns:List Str}{Q:Unit->Shared->Prop}(X:K.In s.heap) (I:ObjM s.heap x dx C mA)
   (hs:PySem.W.findIn K (.ref C) "__setattr__" = some (some (.builtin "object.__setattr__"))) (hp:PySem.W.plainOver K C=true) (ht:PySem.W.takerIn K C name=some none) (hh:PySem.W.hasDictIn K C=true)
   (hw:PySem.Within mA ns) (hsz:ns.length<=sizeLine)
   (h:∀h',ObjM h' x dx C (fun y=>if y=name then some v else mA y)->Heap.SameBut dx s.heap h'->Q () { s with heap:=h',toks:=s.toks+2 }) :
   wpAny (model prog w) A (setAttr (.ref x) name v) Q E s:=by
 obtain⟨od,J,hl⟩:=I.look
 refine PySem.W.set_plain X J hs (PySem.W.osa_open (s:={ s with toks:=s.toks+1 }) (r:=none) X J hp ht fun b=>?_)
 obtain⟨cd,hc,hd'⟩:=PySem.W.any_some hh
 have hx:s.heap.get? x=some ⟨.ref C,some dx,.plain,#[]⟩:=I.obj
 refine wpAny_bind (wpAny_pure (wpAny_bind (wpAny_bind (wpAny_loadPart hx (wpAny_bind (PySem.W.Looks.here (s:={ s with toks:=s.toks+1 }) (PySem.W.looks_clsIn X hc) ?_))))))
 rw[hd']
 refine wpAny_pure (a:=some dx) (wpAny_bind (wpAny_pure (wpAny_bind ?_)))
 refine wpAny_nsSet1 (s:={ s with toks:=s.toks+1 }) I.ns fun h' hn2 hs2=>?_
 obtain⟨oD,esD,epD,hoD,hdD,hcD⟩:=hn2.count (PySem.Within.cons name v hw)
 refine wpAny_bind (wpAny_lookBehind hoD (by rw[hdD];exact pastItsLine_dict (Nat.le_trans hcD (by rw[List.length_cons];omega))) ?_)
 exact wpAny_pure (h _ ⟨(hs2.2 _ (Ne.symm I.ne)).trans I.obj,hn2,I.ne⟩ hs2)
theorem a5f {R:Result->Shared->Prop}{vs:List Value}{kw:List (Str×Value)}(X:K.In s.heap) (hm:PySem.W.makesIn K C=true)
   (hi:PySem.W.findIn K (.ref C) "__init__" = some (some (.ref f))) (hf:PySem.W.typeIn K (.ref f)=some (.type "function"))
   (h:codeAny (model prog w) (A.under (.builtin "type.__call__" ⟨.ref C::vs,kw⟩)) (.call (.ref f) ⟨.ref (s.heap.objs.size+1)::vs,kw⟩) (PySem.W.InitBack (s.heap.objs.size+1) R)
     { s with heap:=(s.heap.push PySem.W.emptyDict).push (PySem.W.instObj C s.heap.objs.size) }) :
   codeAny (model prog w) A (.call (.ref C) ⟨vs,kw⟩) R s:=by
 obtain⟨hh,g,d,t,os⟩:=s
 exact PySem.W.make_core (PySem.W.makes_of X hm) (PySem.W.looks_findIn X hi) (fun self=>PySem.W.bind_fn X self hf) (.inl rfl) h
end
noncomputable def putF (f:Str) (v:V):List (Str×V)->List (Str×V)
 | []=>[(f,v)]
 | (g,x)::r=>if g=f then (g,v)::r else (g,x)::putF f v r
theorem aj (f g:Str) (v:V):∀fs:List (Str×V),(putF f v fs).lookup g=if g=f then some v else fs.lookup g
 | []=>by
   show List.lookup g [(f,v)]=_
   by_cases h:g=f
   . have hb:(g == f)=true:=beq_iff_eq.mpr h
     simp only[List.lookup,hb,if_pos h]
   . have hb:(g == f)=false:=beq_eq_false_iff_ne.mpr h
     simp only[List.lookup,hb,if_neg h]
 | (k,x)::r=>by
   have ih:=aj f g v r
   rw[show putF f v ((k,x)::r)=(if k=f then (k,v)::r else (k,x)::putF f v r) from rfl]
   by_cases hk:k=f
   . rw[if_pos hk]
     by_cases h:g=k
     . have hb:(g == k)=true:=beq_iff_eq.mpr h
       simp only[List.lookup,hb,if_pos (h.trans hk)]
     . have hb:(g == k)=false:=beq_eq_false_iff_ne.mpr h
       simp only[List.lookup,hb,if_neg (fun e:g=f=>h (e.trans hk.symm))]
   . rw[if_neg hk]
     by_cases h:g=k
     . have hb:(g == k)=true:=beq_iff_eq.mpr h
       simp only[List.lookup,hb,if_neg (fun e:g=f=>hk (h.symm.trans e))]
     . have hb:(g == k)=false:=beq_eq_false_iff_ne.mpr h
       simp only[List.lookup,hb]
       exact ih
theorem lv (f:Str) (v:V):∀fs:List (Str×V),f∈(putF f v fs).map (·.1)/\∀g,g∈fs.map (·.1)->g∈(putF f v fs).map (·.1)
 | []=>⟨by simp[putF],fun g h=>by simp at h⟩
 | (k,x)::r=>by
   obtain⟨i1,i2⟩:=lv f v r
   rw[show putF f v ((k,x)::r)=(if k=f then (k,v)::r else (k,x)::putF f v r) from rfl]
   by_cases hk:k=f
   . rw[if_pos hk]
     subst hk
     exact⟨by simp,fun g h=>by simpa using h⟩
   . rw[if_neg hk]
     refine⟨?_,fun g h=>?_⟩
     . rw[List.map_cons]
       exact List.mem_cons_of_mem _ i1
     . rw[List.map_cons] at h |-
       rcases List.mem_cons.mp h with e|e
       . exact List.mem_cons.mpr (.inl e)
       . exact List.mem_cons_of_mem _ (i2 g e)
theorem bb (f:Str) (v:V):∀fs:List (Str×V),(putF f v fs).length<=fs.length+1
 | []=>by simp[putF]
 | (k,x)::r=>by
   have ih:=bb f v r
   rw[show putF f v ((k,x)::r)=(if k=f then (k,v)::r else (k,x)::putF f v r) from rfl]
   by_cases hk:k=f
   . rw[if_pos hk,List.length_cons,List.length_cons];omega
   . rw[if_neg hk,List.length_cons,List.length_cons];omega
theorem RelO.some_of {v:V}{o:Option Value}(r:RelO (some v) o):∃u,o=some u/\RelV v u:=by
 cases o with
 | none=>exact (show False from r).elim
 | some u=>exact⟨u,rfl,r⟩
theorem RelO.none_of {o:Option Value}(r:RelO none o):o=none:=by
 cases o with
 | none=>rfl
 | some u=>exact (show False from r).elim
theorem a3o {v:V}{u:Value}(r:RelV v u):PySem.W.handedIn u=true:=by
 cases v with
 | non=>cases (show u=Value.none from r);rfl
 | bl b=>cases (show u=Value.bool b from r);rfl
 | int i=>obtain⟨t,e⟩:=(show ∃t,u=Value.int i t from r);cases e;rfl
 | str x=>obtain⟨t,e⟩:=(show ∃t,u=Value.str x t from r);cases e;rfl
 | byt b=>obtain⟨t,e⟩:=(show ∃t,u=Value.bytes b t from r);cases e;rfl
 | flt b=>obtain⟨t,e⟩:=(show ∃t,u=Value.float b t from r);cases e;rfl
 | ref a=>cases (show u=Value.ref a from r);rfl
 | ty n=>cases (show u=Value.type n from r);rfl
section
variable {P:Program}{w:World}{H H':Hp}{h h':Heap}{a C dx:Addr}{fs fs':List (Str×V)}
theorem rk (hok:HOk P w H h) (e:H a=some (.ins C dx fs)):∃mA,ObjM h a dx C mA/\(∀f,RelO (fs.lookup f) (mA f))/\PySem.Within mA (fs.map (·.1))/\fs.length<=1000/\H dx=some (.own a):=by
 obtain⟨d,z,ne,ob,mA,n,r,q⟩:=(show ObjOk P w H h a (.ins C dx fs) from hok a _ e)
 exact⟨mA,⟨ob,n,ne⟩,r,q,z,d⟩
end
structure Cls (K:PySem.W.Frag) (C:Addr):Prop where
 pg:PySem.W.plainGet K C Str.empty=true
 hd:PySem.W.hasDictIn K C=true
 po:PySem.W.plainOver K C=true
 sa:PySem.W.findIn K (.ref C) "__setattr__" = some (some (.builtin "object.__setattr__"))
theorem Cls.get {K:PySem.W.Frag}{C:Addr}(c:Cls K C) (f:Str):PySem.W.plainGet K C f=true:=c.pg
noncomputable def NoAttr (K:PySem.W.Frag) (C:Addr) (f:Str):Prop:=PySem.W.findIn K (.ref C) f=some none
theorem NoAttr.taker {K:PySem.W.Frag}{C:Addr}{f:Str}(n:NoAttr K C f):PySem.W.takerIn K C f=some none:=by
 unfold PySem.W.takerIn
 rw[show PySem.W.findIn K (.ref C) f=some none from n]
 rfl
structure Con (K:PySem.W.Frag) (C:Addr) (f:Str) (v:V) (u:Value):Prop where
 at_:PySem.W.findIn K (.ref C) f=some (some u)
 rel:RelV v u
 get:PySem.W.specialIn K u "__get__" = some none
 cp:PySem.W.copiedNames.contains f=false
structure Meth (K:PySem.W.Frag) (C:Addr) (m:Str) (f:Addr):Prop where
 at_:PySem.W.findIn K (.ref C) m=some (some (.ref f))
 fn:PySem.W.isFn K (.ref f)=true
 kp:PySem.W.keepIn K (.ref f)=true
section
variable {X:Cx}{pins:List (Addr×Obj)}{σ:St}{H:Hp}{s:Shared}{a C dx:Addr}{fs:List (Str×V)}{f:Str}{v:V}{A:Around}{E:Value->Shared->Prop}
theorem zx {b:Bool}{Q:Value->Shared->Prop}(I:Inv X pins σ H s) (e:H a=some (.ins C dx fs)) (c:Cls X.K C) (n:NoAttr X.K C f) (l:fs.lookup f=some v)
   (h:∀u s',Inv X pins σ H s'->RelV v u->Q u s'):wpAny (model X.prog X.w) A (getAttr (.ref a) f b) Q E s:=by
 obtain⟨mA,O,r,_,_,_⟩:=rk I.hok e
 obtain⟨u,hu,ru⟩:=RelO.some_of (v:=v) (o:=mA f) (by rw[<- l];exact r f)
 exact a78 I.kIn O (c.get f) c.hd n hu (a3o ru) (h u _ (I.tok _) ru)
theorem r0 {m:Str}{g:Addr}{pl:Sem Bool}{Q:Value×List Value->Shared->Prop}(I:Inv X pins σ H s) (e:H a=some (.ins C dx fs)) (c:Cls X.K C) (k:Meth X.K C m g) (l:fs.lookup m=none)
   (h:Q (.ref g,[.ref a]) s):wpAny (model X.prog X.w) A (getMethod (.ref a) m pl) Q E s:=by
 obtain⟨mA,O,r,_,_,_⟩:=rk I.hok e
 have hn:mA m=none:=RelO.none_of (by rw[<- l];exact r m)
 exact a4x I.kIn O (c.get m) k.at_ k.fn hn h
theorem a0m {y:V}{u:Value}{Q:Unit->Shared->Prop}(I:Inv X pins σ H s) (e:H a=some (.ins C dx fs)) (c:Cls X.K C) (n:NoAttr X.K C f) (hl:fs.length<1000) (ry:RelV y u)
   (h:∀s',Inv X pins σ (upd H a (.ins C dx (putF f y fs))) s'->Q () s'):wpAny (model X.prog X.w) A (setAttr (.ref a) f u) Q E s:=by
 obtain⟨mA,O,r,wi,_,ho⟩:=rk I.hok e
 have hz:(fs.map (·.1)).length<=sizeLine:=by rw[List.length_map,sizeLine_eq];omega
 refine a8b I.kIn O c.sa c.po n.taker c.hd wi hz fun h' O' sb=>h _ ?_
 have hd:∃o,h'.get? dx=some o:=let ⟨o,_,_,e',_⟩:=O'.ns;⟨o,e'⟩
 refine I.write (x:=a) (e:=dx) (by rw[e];exact True.intro) (.inr ho) (fun b q hb z=>(sb.2 b hb).trans z) hd ?_
 refine⟨by rw[ac O.ne];exact ho,?_,O.ne,O'.obj,_,O'.ns,fun g=>?_,fun g hg=>?_⟩
 . have:=bb f y fs;omega
 . show RelO ((putF f y fs).lookup g) (if g=f then some u else mA g)
   rw[aj]
   by_cases q:g=f
   . rw[if_pos q,if_pos q];exact ry
   . rw[if_neg q,if_neg q];exact r g
 . by_cases q:g=f
   . rw[q];exact (lv f y fs).1
   . refine (lv f y fs).2 g (wi g fun z=>hg ?_)
     show (if g=f then some u else mA g)=none
     rw[if_neg q];exact z
theorem Inv.made (I:Inv X pins σ H s):Inv X pins σ (upd (upd H s.heap.objs.size (.own (s.heap.objs.size+1))) (s.heap.objs.size+1) (.ins C s.heap.objs.size []))
   { s with heap:=(s.heap.push PySem.W.emptyDict).push (PySem.W.instObj C s.heap.objs.size) }:=by
 have e1:(s.heap.push PySem.W.emptyDict).get? s.heap.objs.size=some PySem.W.emptyDict:=Heap.get?_push_size s.heap rfl
 have e2:((s.heap.push PySem.W.emptyDict).push (PySem.W.instObj C s.heap.objs.size)).get? (s.heap.objs.size+1)=some (PySem.W.instObj C s.heap.objs.size):=by
   have:=Heap.get?_push_size (s.heap.push PySem.W.emptyDict) (o:=PySem.W.instObj C s.heap.objs.size) rfl
   rwa [Heap.size_push] at this
 have e3:(s.heap.push PySem.W.emptyDict).Ns s.heap.objs.size (fun _=>none):=⟨PySem.W.emptyDict,#[],_,e1,rfl,(fun e he=>absurd he (by simp)),fun _=>rfl⟩
 have I1:=I.laid (a:=s.heap.objs.size) (o:=.own (s.heap.objs.size+1)) (h':=s.heap.push PySem.W.emptyDict) (t':=s.toks) (fun b u q=>Heap.get?_push_of_some _ q) (Nat.le_refl _) ⟨_,e1⟩
 refine I1.laid (a:=s.heap.objs.size+1) (o:=.ins C s.heap.objs.size []) (t':=s.toks) (fun b u q=>Heap.get?_push_of_some _ q) (Nat.le_of_eq (Heap.size_push _ _)) ?_
 have ne:s.heap.objs.size≠s.heap.objs.size+1:=Nat.ne_of_lt (Nat.lt_succ_self _)
 refine⟨by rw[ac ne,a0],Nat.zero_le _,ne,e2,fun _=>none,(Heap.Ns1.of_empty e3).at fun o q=>Heap.get?_push_of_some _ q,fun _=>True.intro,fun y hy=>absurd rfl hy⟩
theorem a74 {prog:Program}{w:World}{env:Env}{e:Expr}{f:Str}{pos:Pos}{s:Shared}{Q:Value->Shared->Prop}(hb:attributeBase e f env (eval e env)=eval e env)
   (h:wpAny (model prog w) A (eval e env) (fun o s₁=>wpAny (model prog w) A (getAttr o f true) Q E s₁) E s):wpAny (model prog w) A (eval (.Attribute e f pos) env) Q E s :=
 Attribute_any_ h (by rw[arm_eval_Attribute,hb])
end
noncomputable def tFld (K:PySem.W.Frag) (ta:TE) (f:Str):TE:=fun σ H Q=>ta σ H fun x H1=>∃a C dx fs v,x=.ref a/\H1 a=some (.ins C dx fs)/\Cls K C/\NoAttr K C f/\fs.lookup f=some v/\Q v H1
noncomputable def sFld (K:PySem.W.Frag) (ta tv:TE) (f:Str):TS:=fun D σ H=>tv σ H fun y H1=>ta σ H1 fun x H2=>∃a C dx fs,x=.ref a/\H2 a=some (.ins C dx fs)/\Cls K C/\NoAttr K C f/\fs.length<1000/\
 D.nx σ (upd H2 a (.ins C dx (putF f y fs)))
section
variable {X:Cx}{o e value:Expr}{f:Str}{pos pos' tpos:Pos}{ta tv:TE}
theorem a96 (he:PE X e ta) (hb:attributeBase e f X.env (eval e X.env)=eval e X.env):PE X (.Attribute e f pos) (tFld X.K ta f):=by
 intro pins s σ H Q I h
 refine a74 hb (thn (he pins s σ H _ I h) fun u s1 ⟨x,H1,I1,rx,a,C,dx,fs,v,ex,ea,c,n,l,q⟩=>?_)
 subst ex
 obtain rfl:u=Value.ref a:=rx
 exact zx I1 ea c n l fun u' s2 I2 ru=>⟨v,H1,I2,ru,q⟩
theorem a8x (ha:PE X o ta) (hv:PE X value tv) (hs:swapsWith value (some (.Attribute o f pos')) pos.line X.env=pure false):PS X (.Assign [.Attribute o f pos'] value pos) (sFld X.K ta tv f):=by
 intro pins s σ H D I h
 refine plainObj_wpAny_Assign_Attribute (thn (hv pins s σ H _ I h) fun u s1 ⟨y,H1,I1,ry,q⟩=>thn (ha pins s1 σ H1 _ I1 q) fun ov s2 ⟨x,H2,I2,rx,a,C,dx,fs,ex,ea,c,n,l,q2⟩=>?_) hs
 subst ex
 obtain rfl:ov=Value.ref a:=rx
 exact a0m I2 ea c n l ry fun s3 I3=>⟨σ,_,I3,q2⟩
end
section
variable {X:Cx}{pins:List (Addr×Obj)}{σ:St}{H:Hp}{s:Shared}{A:Around}{E:Value->Shared->Prop}{Q:Value->Shared->Prop}{c:Value}{b:Bool}
end
structure Room (k:Nat) (A:Around):Prop where
 hd:A.handled=none
 dp:A.depth+3*k+5<recursionLimit
 un:A.units+16*k+200<cLine
theorem Room.mono {j k:Nat}{A:Around}(r:Room k A) (h:j<=k):Room j A:=⟨r.hd,by have:=r.dp;omega,by have:=r.un;omega⟩
theorem Room.deeper {k:Nat}{A:Around}(r:Room (k+1) A) (env:Env):Room k (A.deeper env) :=
 ⟨r.hd,by have:=r.dp;show A.depth+1+3*k+5<_;omega,by have:=r.un;show A.units+3+16*k+200<_;omega⟩
theorem a04 {A:Around}{C:Addr}{us:List Value}{kw:List (Str×Value)}:(A.under (.builtin "type.__call__" ⟨.ref C::us,kw⟩)).depth=A.depth+1:=by
 first|rfl|simp[Around.under,Code.weight,Code.isCreation,Code.isGuard,Code.isCaller,Code.frames,Code.isFrame,guardIds]
theorem a0g {A:Around}{C:Addr}{us:List Value}{kw:List (Str×Value)}:(A.under (.builtin "type.__call__" ⟨.ref C::us,kw⟩)).units=A.units+1:=by
 first|rfl|simp[Around.under,Code.cUnits,Code.frames,Code.isFrame]
theorem Room.make {k:Nat}{A:Around}(r:Room (k+1) A) (C:Addr) (us:List Value) (kw:List (Str×Value)):Room k (A.under (.builtin "type.__call__" ⟨.ref C::us,kw⟩)) :=
 ⟨r.hd,by have:=r.dp;rw[a04];omega,by have:=r.un;rw[a0g];omega⟩
theorem Room.depth {k:Nat}{A:Around}(r:Room k A):A.depth<recursionLimit:=by have:=r.dp;omega
theorem Room.units {k:Nat}{A:Around}(r:Room k A):A.units+64<cLine:=by have:=r.un;omega
noncomputable def tNil:TA:=fun _ H Q=>Q [] H
noncomputable def bj (ta:TE) (tr:TA):TA:=fun σ H Q=>ta σ H fun x H1=>tr σ H1 fun xs H2=>Q (x::xs) H2
section
variable {X:Cx}{e:Expr}{es:List Expr}{te:TE}{t:TA}{pos:Pos}
theorem i8:PA X [] tNil:=fun _ _ _ _ H Q I h=>Calls.spliced_nil ⟨[],H,I,.nil,h⟩
theorem cj (ha:PE X e te) (hr:PA X es t) (hs:starEach (e::es) X.env=(false,eval e X.env)::starEach es X.env:=by rfl):PA X (e::es) (bj te t):=by
 intro pos pins s σ H Q I h
 rw[hs]
 show wpAny _ _ (spliced ((false,eval e X.env)::backTo pos (starEach es X.env))) _ _ s
 refine Calls.spliced_cons (thn (ha pins s σ H _ I h) fun u s1 ⟨x,H1,I1,r1,q1⟩=>?_)
 exact thn (hr pos pins s1 σ H1 _ I1 q1) fun us s2 ⟨xs,H2,I2,r2,q2⟩=>⟨x::xs,H2,I2,.cons r1 r2,q2⟩
noncomputable def tTup (t:TA):TE:=fun σ H Q=>t σ H fun xs H1=>xs.length<=sizeLine/\∀p,H1 p=none->Q (.ref p) (upd H1 p (.tup xs))
noncomputable def tLst (t:TA):TE:=fun σ H Q=>t σ H fun xs H1=>xs.length<=sizeLine/\∀p,H1 p=none->Q (.ref p) (upd H1 p (.lst xs))
theorem a3a {x1} (h:PA X es t):PE X (.Tuple es x1 pos) (tTup t):=by
 intro pins s σ H Q I hq
 refine wpAny_Tuple_spliced (thn (h pos pins s σ H _ I hq) fun us s1 ⟨xs,H1,I1,r,z,q⟩=>⟨by rw[<- r.length];exact z,?_⟩)
 have hf:H1 s1.heap.objs.size=none:=I1.hok.fresh (Nat.le_refl _)
 refine⟨.ref s1.heap.objs.size,upd H1 s1.heap.objs.size (.tup xs),I1.laid (t':=s1.toks) (fun b u e=>Heap.get?_push_of_some _ e) (Nat.le_refl _) ?_,rfl,q _ hf⟩
 exact⟨z,us,r,⟨_,Heap.get?_push_size _ rfl,rfl,_,rfl⟩⟩
theorem v9 (h:PA X es t):PE X (.List es pos) (tLst t):=by
 intro pins s σ H Q I hq
 refine wpAny_List_spliced (thn (h pos pins s σ H _ I hq) fun us s1 ⟨xs,H1,I1,r,z,q⟩=>⟨by rw[<- r.length];exact z,?_⟩)
 have hf:H1 s1.heap.objs.size=none:=I1.hok.fresh (Nat.le_refl _)
 refine⟨.ref s1.heap.objs.size,upd H1 s1.heap.objs.size (.lst xs),I1.laid (t':=s1.toks) (fun b u e=>Heap.get?_push_of_some _ e) (Nat.le_refl _) ?_,rfl,q _ hf⟩
 exact⟨z,us,0,r,Heap.get?_push_size _ rfl⟩
end
abbrev Sp:=List V->Hp->VK->XK->Prop
abbrev CXT:=List Env->Hp->Shared->XK->Value->Shared->Prop
structure Env0 (P:Program) (w:World) (K:PySem.W.Frag) (mg:Str->Option Value) (base:Heap) (A:Around) (outer:List Env) (s:Shared) (H:Hp):Prop where
 frames:A.frames=some outer
 mod:Mod K mg base
 bs:∀b o,base.get? b=some o->s.heap.get? b=some o/\H b=none
 bsz:base.objs.size<=s.heap.objs.size
 funs:s.heap.FunFrames base outer
 frf:∀b∈frs outer,H b=none
 hok:HOk P w H s.heap
 bare:AllBare s.gens
noncomputable def CE (outer:List Env) (P:Program) (w:World) (H:Hp) (s:Shared) (Q:VK) (u:Value) (s':Shared):Prop :=
 ∃v H',s'.os=s.os/\AllBare s'.gens/\Un (frs outer) [] H H' s.heap s'.heap/\HOk P w H' s'.heap/\RelV v u/\Q v H'
noncomputable def CR (CX:CXT) (outer:List Env) (P:Program) (w:World) (H:Hp) (s:Shared) (Q:VK) (E:XK) (r:Result) (s':Shared):Prop :=
 match r with
 | .ok (.ret u)=>CE outer P w H s Q u s'
 | .ok _=>False
 | .error e=>CX outer H s E e s'
structure FnOk (P:Program) (w:World) (K:PySem.W.Frag) (mg:Str->Option Value) (base:Heap) (CX:CXT) (k:Nat) (f:Addr) (fd:FuncData) (ps:List Str) (sp:Sp):Prop where
 len:∀vs H Q E,sp vs H Q E->vs.length=ps.length
 run:∀(A:Around) (outer:List Env) (s:Shared) (H:Hp) (args:Args) (us:List Value) (vs:List V) (Q:VK) (E:XK),Room k A->Env0 P w K mg base A outer s H->BindsTo s fd args (ps.zip us)->Vals vs us->sp vs H Q E->
   codeAny (model P w) A (.call (.ref f) args) (CR CX outer P w H s Q E) s
theorem FnOk.mono {P:Program}{w:World}{K:PySem.W.Frag}{mg:Str->Option Value}{base:Heap}{CX:CXT}{j k:Nat}{f:Addr}{fd:FuncData}{ps:List Str}{sp:Sp}(F:FnOk P w K mg base CX j f fd ps sp) (h:j<=k) :
   FnOk P w K mg base CX k f fd ps sp:=⟨F.len,fun A outer s H args us vs Q E hr=>F.run A outer s H args us vs Q E (hr.mono h)⟩
theorem Env0.make {P:Program}{w:World}{K:PySem.W.Frag}{mg:Str->Option Value}{base:Heap}{A:Around}{outer:List Env}{s:Shared}{H:Hp}(e:Env0 P w K mg base A outer s H) (C:Addr) (us:List Value) (kw:List (Str×Value)) :
   Env0 P w K mg base (A.under (.builtin "type.__call__" ⟨.ref C::us,kw⟩)) outer s H:=⟨by first|exact e.frames|(simpa [Around.under,Code.envs,Code.isFrame,pushEnvs] using e.frames),e.mod,e.bs,e.bsz,e.funs,e.frf,e.hok,e.bare⟩
section
variable {X:Cx}{pins:List (Addr×Obj)}{σ:St}{H:Hp}{s s':Shared}
theorem Inv.env0 (I:Inv X pins σ H s):Env0 X.prog X.w X.K X.mg X.base X.A X.stack s H :=
 ⟨I.ok.frames,I.ok.mod,I.bs,Nat.le_trans I.ok.bsz I.sz,I.stack,I.stkFree,I.hok,I.bare⟩
theorem Inv.after {Q:VK}{u:Value}(I:Inv X pins σ H s) (h:CE X.stack X.prog X.w H s Q u s'):EP X pins σ Q u s':=by
 obtain⟨v,H',os,bare,un,hok,r,q⟩:=h
 obtain⟨hh,g,d,t,os'⟩:=s'
 obtain rfl:os'=s.os:=os
 exact⟨v,H',I.call (h':=hh) (g':=g) (d':=d) (t':=t) (ch:=[]) un hok bare (fun b z=>absurd z (by simp)),r,q⟩
end
noncomputable def qg (sp:Sp) (dvs:List V) (E:XK) (t:TA):TE:=fun σ H Q=>t σ H fun vs H1=>sp (vs++dvs) H1 Q E
noncomputable def q8 (C:Addr) (m:Str) (sp:Sp) (dvs:List V) (E:XK) (ta:TE) (t:TA):TE:=fun σ H Q=>ta σ H fun x H1=>∃a dx fs,x=.ref a/\H1 a=some (.ins C dx fs)/\fs.lookup m=none/\
 t σ H1 fun vs H2=>sp (x::(vs++dvs)) H2 Q E
noncomputable def a6r (C:Addr) (sp:Sp) (dvs:List V) (E:XK) (t:TA):TE:=fun σ H Q=>t σ H fun vs H1=>∀x dx,H1 x=none->H1 dx=none->dx≠x->
 sp (.ref x::(vs++dvs)) (upd (upd H1 dx (.own x)) x (.ins C dx [])) (fun v H2=>v=.non/\Q (.ref x) H2) E
noncomputable def Binds (K:PySem.W.Frag) (fd:FuncData) (ps:List Str) (ds:List Value):Prop :=
 ∀(s:Shared) (us:List Value),K.In s.heap->(us++ds).length=ps.length->BindsTo s fd ⟨us,[]⟩ (ps.zip (us++ds))
theorem Binds.all {K:PySem.W.Frag}{fd:FuncData}{ps:List Str}(h:∀us:List Value,us.length=ps.length->bindArgs fd ⟨us,[]⟩=pure (ps.zip us)):Binds K fd ps []:=fun s us _ hl=>by
 rw[List.append_nil] at hl |-
 exact .of_eq (h us hl)
noncomputable def fj (CX:CXT) (X:Cx) (E:XK):Prop:=∀(pins:List (Addr×Obj)) (σ:St) (H:Hp) (s:Shared) (e:Value) (s':Shared),Inv X pins σ H s->CX X.stack H s E e s'->X.xe e s'
section
variable {X:Cx}{CX:CXT}{k:Nat}{f C:Addr}{fd:FuncData}{ps:List Str}{sp:Sp}{dvs:List V}{ds:List Value}{E:XK}{x m:Str}{p pos apos:Pos}{e o:Expr}{es:List Expr}{ta:TE}{t:TA}
theorem vg {pins:List (Addr×Obj)}{σ:St}{H:Hp}{s:Shared}{Q:VK}{us:List Value}{vs:List V}(F:FnOk X.prog X.w X.K X.mg X.base CX k f fd ps sp) (hr:Room k X.A) (hb:Binds X.K fd ps ds) (hd:Vals dvs ds) (hx:fj CX X E)
   (I:Inv X pins σ H s) (r:Vals vs us) (h:sp (vs++dvs) H Q E):wpAny (model X.prog X.w) X.A (call (.ref f) us) (EP X pins σ Q) X.xe s:=by
 have r2:Vals (vs++dvs) (us++ds):=r.append hd
 have hl:(us++ds).length=ps.length:=by rw[<- r2.length];exact F.len _ _ _ _ h
 refine wpAny_call (codeAny_mono (F.run X.A X.stack s H ⟨us,[]⟩ (us++ds) (vs++dvs) Q E hr I.env0 (hb s us I.kIn hl) r2 h) fun r s' hq=>?_)
 cases r with
 | error e=>exact hx pins σ H s e s' I hq
 | ok fl =>
   cases fl with
   | ret u=>exact I.after hq
   | next=>exact False.elim hq
   | brk=>exact False.elim hq
   | cont=>exact False.elim hq
theorem a7a (F:FnOk X.prog X.w X.K X.mg X.base CX k f fd ps sp) (hr:Room k X.A) (hg:Gl X x) (hm:X.mg x=some (.ref f)) (hk:PySem.W.keepIn X.K (.ref f)=true) (hb:Binds X.K fd ps ds) (hd:Vals dvs ds) (hx:fj CX X E)
   (ha:PA X (e::es) t) (hdb:(x == ("__debug__" : Str))=false:=by decide) (he:starEach (e::es) X.env=(false,eval e X.env)::starEach es X.env:=by rfl) (hpl:(backTo pos (starEach es X.env)).any (·.1)=false:=by rfl) :
   PE X (.Call (.Name x p) (e::es) [] pos) (qg sp dvs E t):=by
 intro pins s σ H Q I h
 refine wpAny_Call_Name_kw (sr I hg hm ?_ hdb)
 refine PySem.W.callWith_K (h₀:=X.base) I.ok.mod.kin hk (thn (ha pos pins s σ H _ I h) fun us s1 ⟨vs,H1,I1,r,q⟩=>⟨I1.kIn,?_⟩) he hpl
 exact vg F hr hb hd hx I1 r q
theorem a82 {pl:Sem Bool}(he:PE X o ta) (c:Cls X.K C) (hm:Meth X.K C m f) (F:FnOk X.prog X.w X.K X.mg X.base CX k f fd ps sp) (hr:Room k X.A) (hb:Binds X.K fd ps ds) (hd:Vals dvs ds) (hx:fj CX X E) (ha:PA X (e::es) t)
   (hst:starEach (e::es) X.env=(false,eval e X.env)::starEach es X.env:=by rfl) (hpl:(backTo pos (starEach es X.env)).any (·.1)=false:=by rfl)
   (ht:eval (.Call (.Attribute o m apos) (e::es) [] pos) X.env=(do
     let ov<-eval o X.env
     standAt apos.atName
     let (f,first)<-holding [ov] (getMethod ov m pl)
     callWith pos f first (backTo pos (starEach (e::es) X.env)) (backToKw pos (keywordEach [] X.env))):=by rfl) :
   PE X (.Call (.Attribute o m apos) (e::es) [] pos) (q8 C m sp dvs E ta t):=by
 intro pins s σ H Q I h
 refine PySem.W.methodCall_KW (pl:=pl) (thn (he pins s σ H _ I h) fun u s1 ⟨x,H1,I1,rx,a,dx,fs,ex,ea,l,q⟩=>?_) ht
 subst ex
 obtain rfl:u=Value.ref a:=rx
 refine r0 I1 ea c hm l ?_
 refine PySem.W.callWith_K (first:=[.ref a]) (h₀:=X.base) I.ok.mod.kin hm.kp (thn (ha pos pins s1 σ H1 _ I1 q) fun us s2 ⟨vs,H2,I2,r,q2⟩=>⟨I2.kIn,?_⟩) hst hpl
 exact vg (us:=.ref a::us) (vs:=.ref a::vs) F hr hb hd hx I2 (.cons rfl r) q2
theorem a5i {pl:Sem Bool}(he:PE X o ta) (c:Cls X.K C) (hm:Meth X.K C m f) (F:FnOk X.prog X.w X.K X.mg X.base CX k f fd ps sp) (hr:Room k X.A) (hb:Binds X.K fd ps ds) (hd:Vals dvs ds) (hx:fj CX X E)
   (ht:eval (.Call (.Attribute o m apos) [] [] pos) X.env=(do
     let ov<-eval o X.env
     standAt apos.atName
     let (f,first)<-holding [ov] (getMethod ov m pl)
     callWith pos f first (backTo pos (starEach [] X.env)) (backToKw pos (keywordEach [] X.env))):=by rfl) :
   PE X (.Call (.Attribute o m apos) [] [] pos) (q8 C m sp dvs E ta tNil):=by
 intro pins s σ H Q I h
 refine PySem.W.methodCall_KW (pl:=pl) (thn (he pins s σ H _ I h) fun u s1 ⟨x,H1,I1,rx,a,dx,fs,ex,ea,l,q⟩=>?_) ht
 subst ex
 obtain rfl:u=Value.ref a:=rx
 refine r0 I1 ea c hm l ?_
 exact PySem.W.callWith_K0 (first:=[.ref a]) I1.kIn hm.kp (vg (us:=[.ref a]) (vs:=[.ref a]) F hr hb hd hx I1 (.cons rfl .nil) q)
structure Mk (K:PySem.W.Frag) (C f:Addr):Prop where
 makes:PySem.W.makesIn K C=true
 init:PySem.W.findIn K (.ref C) "__init__" = some (some (.ref f))
 fn:PySem.W.isFn K (.ref f)=true
 kp:PySem.W.keepIn K (.ref C)=true
theorem a5n {pins:List (Addr×Obj)}{σ:St}{H:Hp}{s:Shared}{Q:VK}{us:List Value}{vs:List V}(M:Mk X.K C f) (F:FnOk X.prog X.w X.K X.mg X.base CX k f fd ps sp) (hr:Room (k+1) X.A) (hb:Binds X.K fd ps ds) (hd:Vals dvs ds)
   (hx:fj CX X E) (I:Inv X pins σ H s) (r:Vals vs us)
   (h:∀x dx,H x=none->H dx=none->dx≠x->sp (.ref x::(vs++dvs)) (upd (upd H dx (.own x)) x (.ins C dx [])) (fun v H2=>v=.non/\Q (.ref x) H2) E) :
   wpAny (model X.prog X.w) X.A (call (.ref C) us) (EP X pins σ Q) X.xe s:=by
 have hq:=h (s.heap.objs.size+1) s.heap.objs.size (I.hok.fresh (Nat.le_succ _)) (I.hok.fresh (Nat.le_refl _)) (Nat.ne_of_lt (Nat.lt_succ_self _))
 have I2:=Inv.made (C:=C) I
 have r2:Vals (V.ref (s.heap.objs.size+1)::(vs++dvs)) (Value.ref (s.heap.objs.size+1)::(us++ds)):=.cons rfl (r.append hd)
 have hl:(Value.ref (s.heap.objs.size+1)::us++ds).length=ps.length:=by
   have e:=r2.length
   rw[F.len _ _ _ _ hq] at e
   exact e.symm
 refine wpAny_call (a5f (f:=f) I.kIn M.makes M.init (beq_iff_eq.mp M.fn) (codeAny_mono (F.run _ X.stack _ _ ⟨Value.ref (s.heap.objs.size+1)::us,[]⟩ (Value.ref (s.heap.objs.size+1)::(us++ds)) _ _ E (hr.make C us [])
   (I2.env0.make C us []) (hb _ (Value.ref (s.heap.objs.size+1)::us) I2.kIn hl) r2 hq) fun r s' hq'=>?_))
 cases r with
 | error e=>exact hx pins σ _ _ e s' I2 hq'
 | ok fl =>
   cases fl with
   | ret u =>
     obtain⟨v,H',I3,rv,ev,q3⟩:=I2.after hq'
     subst ev
     exact⟨rv,⟨V.ref (s.heap.objs.size+1),H',I3,rfl,q3⟩⟩
   | next=>exact False.elim hq'
   | brk=>exact False.elim hq'
   | cont=>exact False.elim hq'
theorem a84 (M:Mk X.K C f) (F:FnOk X.prog X.w X.K X.mg X.base CX k f fd ps sp) (hr:Room (k+1) X.A) (hg:Gl X x) (hm:X.mg x=some (.ref C)) (hb:Binds X.K fd ps ds) (hd:Vals dvs ds) (hx:fj CX X E)
   (ha:PA X (e::es) t) (hdb:(x == ("__debug__" : Str))=false:=by decide) (he:starEach (e::es) X.env=(false,eval e X.env)::starEach es X.env:=by rfl) (hpl:(backTo pos (starEach es X.env)).any (·.1)=false:=by rfl) :
   PE X (.Call (.Name x p) (e::es) [] pos) (a6r C sp dvs E t):=by
 intro pins s σ H Q I h
 refine wpAny_Call_Name_kw (sr I hg hm ?_ hdb)
 refine PySem.W.callWith_K (h₀:=X.base) I.ok.mod.kin M.kp (thn (ha pos pins s σ H _ I h) fun us s1 ⟨vs,H1,I1,r,q⟩=>⟨I1.kIn,?_⟩) he hpl
 exact a5n M F hr hb hd hx I1 r q
end
noncomputable def PK (X:Cx) (kws:List Keyword) (t:TA):Prop :=
 ∀(pos:Pos) (pins:List (Addr×Obj)) (s:Shared) (σ:St) (H:Hp) (Q:List V->Hp->Prop),Inv X pins σ H s->t σ H Q->wpAny (model X.prog X.w) X.A (evalAll ((backToKw pos (keywordEach kws X.env)).map (·.2))) (AP X pins σ Q) X.xe s
section
variable {X:Cx}{CX:CXT}{k:Nat}{f C:Addr}{fd:FuncData}{ps ks:List Str}{sp:Sp}{E:XK}{x m:Str}{p pos apos kpos:Pos}{e o:Expr}{es:List Expr}{kws:List Keyword}{te ta:TE}{t tk:TA}{nm:Option Str}
theorem aa4:PK X [] tNil:=fun _ _ _ _ H Q I h=>wpAny_evalAll_nil ⟨[],H,I,.nil,h⟩
theorem a8l (ha:PE X e te) (hr:PK X kws t):PK X (⟨nm,e,kpos⟩::kws) (bj te t):=by
 intro pos pins s σ H Q I h
 show wpAny _ _ (evalAll ((do let v<-eval e X.env;standAt pos;pure v)::(backToKw pos (keywordEach kws X.env)).map (·.2))) _ _ s
 refine wpAny_evalAll_cons (wpAny_bind (thn (ha pins s σ H _ I h) fun u s1 ⟨x,H1,I1,r1,q1⟩=>wpAny_bind (wpAny_standAt (wpAny_pure ?_))))
 exact thn (hr pos pins s1 σ H1 _ I1 q1) fun us s2 ⟨xs,H2,I2,r2,q2⟩=>⟨x::xs,H2,I2,.cons r1 r2,q2⟩
variable {g:List Value->List Value->List Value}{gV:List V->List V->List V}
end
structure FnScope (N P:List Str) (sc:Scope):Prop where
 kind:sc.kind=.function
 co:sc.isCoroutine=false
 gen:sc.isGenerator=false
 nd:N.Nodup
 pre:N.take P.length=P
 par:∀x∈P,sc.names.lookup x=some .local\/sc.names.lookup x=some .cell
 nofree:∀y∈sc.names,y.2≠.free
theorem tu {kindOf:Str->Option NameKind}{x:Str}:∀{binds:List (Str×Value)}{m:Str->Option Value},(∀v,(x,v)∉binds)->bindL kindOf binds m x=m x
 | [],_,_=>rfl
 | (n,v)::r,m,h=>by
   unfold bindL
   rw[tu fun w hw=>h w (List.mem_cons_of_mem _ hw)]
   split
   . have:x≠n:=by rintro rfl;exact h v List.mem_cons_self
     simp[this]
   . rfl
theorem ua {kindOf:Str->Option NameKind}{x:Str}:∀{binds:List (Str×Value)}{m:Str->Option Value},(∀v,(x,v)∉binds)->bindC kindOf binds m x=m x
 | [],_,_=>rfl
 | (n,v)::r,m,h=>by
   unfold bindC
   rw[ua fun w hw=>h w (List.mem_cons_of_mem _ hw)]
   split
   . rfl
   . have:x≠n:=by rintro rfl;exact h v List.mem_cons_self
     simp[this]
theorem ub {kindOf:Str->Option NameKind}{x:Str}{v:Value}:∀{P:List Str}{vs:List Value}{i:Nat}{m:Str->Option Value},P.Nodup->P[i]? = some x->vs[i]? = some v->kindOf x=some .local->
   bindL kindOf (P.zip vs) m x=some v
 | [],_,_,_,_,h,_,_=>by simp at h
 | _::_,[],_,_,_,_,h,_=>by simp at h
 | p::P,w::vs,0,m,nd,h1,h2,hk=>by
   simp at h1 h2;subst h1;subst h2
   show bindL kindOf ((p,w)::P.zip vs) m p=_
   unfold bindL
   rw[tu fun v hv=>(List.nodup_cons.mp nd).1 (List.of_mem_zip hv).1,if_pos hk]
   simp
 | p::P,w::vs,i+1,m,nd,h1,h2,hk=>by
   show bindL kindOf ((p,w)::P.zip vs) m x=_
   unfold bindL
   exact ub (i:=i) (List.nodup_cons.mp nd).2 (by simpa using h1) (by simpa using h2) hk
theorem tq {kindOf:Str->Option NameKind}{x:Str}{v:Value}:∀{P:List Str}{vs:List Value}{i:Nat}{m:Str->Option Value},P.Nodup->P[i]? = some x->vs[i]? = some v->kindOf x≠some .local->
   bindC kindOf (P.zip vs) m x=some v
 | [],_,_,_,_,h,_,_=>by simp at h
 | _::_,[],_,_,_,_,h,_=>by simp at h
 | p::P,w::vs,0,m,nd,h1,h2,hk=>by
   simp at h1 h2;subst h1;subst h2
   show bindC kindOf ((p,w)::P.zip vs) m p=_
   unfold bindC
   rw[ua fun v hv=>(List.nodup_cons.mp nd).1 (List.of_mem_zip hv).1,if_neg hk]
   simp
 | p::P,w::vs,i+1,m,nd,h1,h2,hk=>by
   show bindC kindOf ((p,w)::P.zip vs) m x=_
   unfold bindC
   exact tq (i:=i) (List.nodup_cons.mp nd).2 (by simpa using h1) (by simpa using h2) hk
noncomputable def ib (N:List Str) (vs:List V):St:=vs.map some++List.replicate (N.length - vs.length) none
noncomputable def cxOf (CX:CXT) (P:Program) (w:World) (K:PySem.W.Frag) (mg:Str->Option Value) (base:Heap) (N:List Str) (qual:Str) (scope:Scope) (f:Addr) (cd:Value) (A:Around) (outer:List Env) (s:Shared) (H:Hp) (E:XK):Cx where
 prog:=P
 w:=w
 K:=K
 mg:=mg
 base:=base
 A:=A.deeper (envOfC qual scope s.heap.objs.size f cd)
 N:=N
 s₀:=s
 H₀:=H
 env:=envOfC qual scope s.heap.objs.size f cd
 outer:=outer
 stack:=envOfC qual scope s.heap.objs.size f cd::outer
 ex:=[]
 calm:=true
 fn:=fun _=>true
 pn:=[]
 xe:=fun e s'=>wpAny (model P w) (A.deeper (envOfC qual scope s.heap.objs.size f cd)) (leaving (envOfC qual scope s.heap.objs.size f cd) e) (fun _ s''=>CX outer H s E e s'') (fun e' s''=>CX outer H s E e' s'') s'
theorem ve {sc:Scope}{n:Nat}{x:Str}(h:sc.names.lookup x=some .cell):∃c,(cellsFrom n sc.names []).lookup x=some c:=by
 have q:=PySem.W.cellsFrom_some sc.names n [] (.inl h)
 exact Option.isSome_iff_exists.mp q
theorem a1s {CX:CXT}{P:Program}{w:World}{K:PySem.W.Frag}{mg:Str->Option Value}{base:Heap}{N ps:List Str}{qual:Str}{scope:Scope}{f:Addr}{cd:Value}{A:Around}{outer:List Env}{s s1:Shared}{H:Hp}{E:XK}{us:List Value}{vs:List V}
   (S:FnScope N ps scope) (hd:A.handled=none) (e0:Env0 P w K mg base A outer s H) (hl:vs.length=ps.length) (r:Vals vs us)
   (x:InCallC s s.heap.objs.size (bindL (envOfC qual scope s.heap.objs.size f cd).kindOf (ps.zip us) fun _=>none) (cellsFrom (s.heap.objs.size+1) scope.names []) (bindC (envOfC qual scope s.heap.objs.size f cd).kindOf (ps.zip us) fun _=>none) s1) :
   Inv (cxOf CX P w K mg base N qual scope f cd A outer s H E) [] (ib N vs) H s1:=by
 have hpl:ps.length<=N.length:=by have:=congrArg List.length S.pre;rw[List.length_take] at this;omega
 obtain⟨h1,tk,rfl,hk⟩:=x.done
 have noA:∀b:Addr,b∉(cxOf CX P w K mg base N qual scope f cd A outer s H E).ex:=fun b z=>absurd (show b∈([]:List Addr) from z) (by simp)
 refine⟨⟨e0.mod,S.kind,rfl,rfl,Nat.le_refl _,fun y z c h1 h2=>?_,fun y hy=>?_,fun y c _ h=>?_,fun _=>hd,Around.frames_deeper e0.frames,.inr ⟨rfl,rfl⟩,fun b z=>absurd z (noA b),e0.bs,e0.bsz,fun b _ _=>noA b,fun b z=>absurd z (noA b),e0.funs,e0.frf⟩,
   rfl,e0.bare,Un.kept hk,⟨_,x.toInCall.ns,fun i y v h1 h2 h3=>?_⟩,fun y c h=>⟨_,x.cell y c h⟩,e0.hok.fresh (Nat.le_refl _),fun y c h=>?_,fun p hp=>absurd (show p∈([]:List (Addr×Obj)) from hp) (by simp),e0.hok.kept hk,?_⟩
 . exact name_of_addr x.apart (PySem.mem_of_lookup h1) (PySem.mem_of_lookup h2)
 . have hy:scope.names.lookup y=some .cell\/scope.names.lookup y=some .free:=hy
   rcases hy with hy|hy
   . exact ve hy
   . exact absurd rfl (S.nofree _ (PySem.mem_of_lookup hy))
 . exact Nat.le_of_lt (x.above y c (PySem.mem_of_lookup h))
 . have hi:i<vs.length:=by
     unfold ib at h2
     by_cases hi:i<vs.length
     . exact hi
     . rw[List.getElem?_append_right (by simpa using hi)] at h2
       rw[List.getElem?_replicate] at h2
       split at h2<;>cases h2
   have ha:vs[i]? = some v:=by
     unfold ib at h2
     rw[List.getElem?_append_left (by simpa using hi),List.getElem?_map] at h2
     cases e:vs[i]? with
     | none=>rw[e] at h2;cases h2
     | some a=>rw[e] at h2;cases h2;rfl
   obtain⟨u,hu,rv⟩:=r.get ha
   have hp:ps[i]? = some y:=by
     rw[<- S.pre,List.getElem?_take_of_lt (by omega)];exact h1
   have ndP:ps.Nodup:=by rw[<- S.pre];exact S.nd.sublist (List.take_sublist _ _)
   refine⟨u,rv,?_⟩
   rcases S.par y (List.mem_of_getElem? hp) with k|k
   . exact .inl ⟨k,ub ndP hp hu k⟩
   . obtain⟨c,e⟩:=ve (n:=s.heap.objs.size+1) k
     refine .inr ⟨.inl k,c,e,?_⟩
     have q:=x.cell y c e
     rw[tq ndP hp hu (by show scope.names.lookup y≠_;rw[k];decide)] at q
     exact q
 . exact e0.hok.fresh (Nat.le_of_lt (x.above y c (PySem.mem_of_lookup h)))
 . unfold ib
   show _=N.length
   rw[List.length_append,List.length_map,List.length_replicate]
   omega
theorem aaf {CX:CXT}{P:Program}{w:World}{K:PySem.W.Frag}{mg:Str->Option Value}{base:Heap}{k:Nat}{f:Addr}{name qual:Str}{params:Arguments}{body:List Stmt}{scope:Scope}{dV kV doc pm cdv ct oc:Value}{an od:Option Addr}
   {osl:Array (Option Value)} {N ps:List Str} {sp:Sp} (lk:K.lookup f=some ⟨oc,od,.func (PySem.W.fnOf name qual params body scope dV kV doc pm an cdv ct),osl⟩) (hcd:PySem.W.codeIn K cdv qual=true) (S:FnScope N ps scope)
   (len:∀vs H Q E,sp vs H Q E->vs.length=ps.length)
   (hbody:∀(A:Around) (outer:List Env) (s:Shared) (H:Hp) (vs:List V) (Q:VK) (E:XK),Room k (A.deeper (envOfC qual scope s.heap.objs.size f cdv))->sp vs H Q E->
     ∃t,PSs (cxOf CX P w K mg base N qual scope f cdv A outer s H E) body t/\t { nx:=fun _ H'=>Q .non H',rt:=Q } (ib N vs) H) :
   FnOk P w K mg base CX (k+1) f (PySem.W.fnOf name qual params body scope dV kV doc pm an cdv ct) ps sp:=by
 refine⟨len,fun A outer s H args us vs Q E hr e0 hb r hsp=>?_⟩
 have hl:=len _ _ _ _ hsp
 have KX:K.In s.heap:=e0.mod.kin.keeps fun b o e=>(e0.bs b o e).1
 have lim:s.heap.NoLimit:=e0.mod.nolimit.keeps fun b o e=>(e0.bs b o e).1
 have hkind:∀y∈ps.zip us,scope.names.lookup y.1=some .local\/(scope.names.lookup y.1=some .cell/\((cellsFrom (s.heap.objs.size+1) scope.names []).lookup y.1).isSome=true):=fun⟨n,v⟩ hy=>by
   rcases S.par n (List.of_mem_zip hy).1 with q|q
   . exact .inl q
   . exact .inr ⟨q,PySem.W.cellsFrom_some _ _ _ (.inl q)⟩
 refine codeAny_call_function hr.depth (KX _ _ lk) rfl S.co S.gen rfl (PySem.W.codeRec_of KX hcd) (hb _ _ _ _ ?_)
 refine wpAny_newFunctionEnv_cells S.kind hkind fun env he s1 x=>?_
 subst he
 refine⟨lim.keeps x.toInCall.keep,codeAny_func ?_⟩
 obtain⟨t,ht,hq⟩:=hbody A outer s H vs Q E (hr.deeper _) hsp
 have I:Inv (cxOf CX P w K mg base N qual scope f cdv A outer s H E) [] (ib N vs) H s1:=a1s S hr.hd e0 hl r x
 refine wpAny_mono (ht [] s1 (ib N vs) H _ I hq) (fun fl s' hs=>?_) fun e s' hs=>hs
 have fin:∀{σ':St} {H':Hp} {v:V} {u:Value},Inv (cxOf CX P w K mg base N qual scope f cdv A outer s H E) [] σ' H' s'->RelV v u->Q v H'->CE outer P w H s Q u s' :=
   fun {σ' H' v u} J rv q=>⟨v,H',J.os,J.bare,J.base,J.hok,rv,q⟩
 cases fl with
 | ret u =>
   obtain⟨v,σ',H',J,rv,q⟩:=hs
   exact fin J rv q
 | next =>
   obtain⟨σ',H',J,q⟩:=hs
   exact fin (v:=V.non) (u:=Value.none) J rfl q
 | brk =>
   obtain⟨_,_,_,q⟩:=hs
   exact False.elim q
 | cont =>
   obtain⟨_,_,_,q⟩:=hs
   exact False.elim q
section
variable {X:Cx}{x:Str}{p pos:Pos}{e:Expr}{es:List Expr}{t:TA}{id T:String}{r:List V->Hp->VK->Prop}
noncomputable def tCB (r:List V->Hp->VK->Prop) (t:TA):TE:=fun σ H Q=>t σ H fun vs H1=>r vs H1 Q
theorem jt (hc:cf X (.builtin id) r) (hg:Gl X x) (hm:X.mg x=none) (hv:bootBuiltins x=some (.builtin id)) (ha:PA X (e::es) t) (hn:x ≠ "__name__" := by decide) (hdb:(x == ("__debug__" : Str))=false:=by decide)
   (he:starEach (e::es) X.env=(false,eval e X.env)::starEach es X.env:=by rfl) (hpl:(backTo pos (starEach es X.env)).any (·.1)=false:=by rfl):PE X (.Call (.Name x p) (e::es) [] pos) (tCB r t):=by
 intro pins s σ H Q I h
 refine wpAny_Call_Name_kw (i5 I hg hm hv ?_ hn hdb)
 exact PyProof.Rows.callWith_builtin1 (thn (ha pos pins s σ H _ I h) fun us s1 ⟨vs,H1,I1,r1,q1⟩=>hc pins s1 σ H1 vs us Q I1 r1 q1) he hpl
theorem u6 (hc:cf X (.type T) r) (hg:Gl X x) (hm:X.mg x=none) (hv:bootBuiltins x=some (.type T)) (ha:PA X (e::es) t) (hn:x ≠ "__name__" := by decide) (hdb:(x == ("__debug__" : Str))=false:=by decide)
   (he:starEach (e::es) X.env=(false,eval e X.env)::starEach es X.env:=by rfl) (hpl:(backTo pos (starEach es X.env)).any (·.1)=false:=by rfl):PE X (.Call (.Name x p) (e::es) [] pos) (tCB r t):=by
 intro pins s σ H Q I h
 refine wpAny_Call_Name_kw (i5 I hg hm hv ?_ hn hdb)
 exact PyProof.Rows.callWith_type1 (thn (ha pos pins s σ H _ I h) fun us s1 ⟨vs,H1,I1,r1,q1⟩=>hc pins s1 σ H1 vs us Q I1 r1 q1) he hpl
end
end L2
namespace HT
open PySem PyProof.Rows
section
open PySem.SeqAt
open PySem.AutoSeq1 (wpAny_loadPart')
open PySem.MeetsSeq PySem.MeetsSeq2 PySem.MeetsSeq3
end
section
variable {prog:Program}{w:World}{A:Around}{E:Value->Shared->Prop}{s:Shared}
theorem cat_tup {t b:Addr}{vs ws:List Value}{Q:Value->Shared->Prop}(ht:IsTup s.heap t vs.toArray) (hb:IsTup s.heap b ws.toArray) (hv:vs≠[])
   (h1:ws=[]->Q (.ref t) s) (h2:ws≠[]->Q (.ref s.heap.objs.size) { s with heap:=s.heap.push { cls:=.type "tuple",data:=.seq (vs++ws).toArray } })
   (hsz:vs.length+ws.length<=sizeLine):wpAny (model prog w) A (binaryOp .Add (.ref t) (.ref b)) Q E s:=by
 obtain⟨⟨cls,dd,data,sl⟩,ho,hc,n,hd⟩:=id ht
 obtain⟨⟨cls2,dd2,data2,sl2⟩,ho2,hc2,n2,hd2⟩:=id hb
 simp only at hc hd hc2 hd2
 subst hc hd hc2 hd2
 have e:vs.toArray++ws.toArray=(vs++ws).toArray:=by simp
 by_cases hw:ws=[]
 . exact concat_meets ⟨_,ho,rfl⟩ ⟨_,ho2,rfl⟩ noFill_tuple_add seq_tuple_add PySem.F.slot_tuple_add PySem.F.entry_tuple_add (PySem.F.args_tuple_add_2 _ _)
     (tuple_addW1 t b vs.toArray ws.toArray n n2 dd dd2 sl sl2 (by simpa using hv) (by simp[hw])) ⟨ho,ho2,h1 hw⟩
 . refine concat_meets ⟨_,ho,rfl⟩ ⟨_,ho2,rfl⟩ noFill_tuple_add seq_tuple_add PySem.F.slot_tuple_add PySem.F.entry_tuple_add (PySem.F.args_tuple_add_2 _ _)
     (tuple_addW2 t b vs.toArray ws.toArray n n2 dd dd2 sl sl2 (by simpa using hv) (by simpa using hw) (by rw[List.size_toArray,List.size_toArray];exact hsz)) ⟨ho,ho2,?_⟩
   rw[e]
   exact h2 hw
noncomputable def sIx (n d:Nat):Option Int->Nat
 | none=>d
 | some v=>if v<0 then (v+(n:Int)).toNat else min v.toNat n
theorem sIx_none (n d:Nat):sIx n d none=d:=rfl
theorem sIx_nat (n d k:Nat):sIx n d (some (k:Int))=min k n:=by
 show (if (k:Int)<0 then ((k:Int)+(n:Int)).toNat else min (k:Int).toNat n)=min k n
 rw[if_neg (by omega),Int.toNat_natCast]
theorem qk (n d:Nat) (hd:d<=n) (o:Option Int):sIx n d o<=n:=by
 cases o with
 | none=>exact hd
 | some v =>
   show (if v<0 then (v+(n:Int)).toNat else min v.toNat n)<=n
   by_cases hv:v<0
   . rw[if_pos hv];omega
   . rw[if_neg hv];exact Nat.min_le_right _ _
theorem ye (v:Int) (n d:Nat):(if v<0 then max (v+(n:Int)) 0 else min v (n:Int))=((sIx n d (some v):Nat):Int):=by
 show (if v<0 then max (v+(n:Int)) 0 else min v (n:Int))=(((if v<0 then (v+(n:Int)).toNat else min v.toNat n):Nat):Int)
 by_cases hv:v<0
 . simp only[if_pos hv];omega
 . simp only[if_neg hv];omega
theorem a0y (lo hi:Option Int) (n:Nat):Builtin.Slice.sliceAdjust lo hi 1 (n:Int)=(((sIx n 0 lo:Nat):Int),((sIx n n hi:Nat):Int)):=by
 have h1:¬ ((1:Int)<0):=by omega
 unfold Builtin.Slice.sliceAdjust
 simp only[h1,if_false]
 refine Prod.ext ?_ ?_
 . cases lo with
   | none=>rfl
   | some v=>exact ye v n 0
 . cases hi with
   | none=>rfl
   | some v=>exact ye v n n
theorem a0c (i j:Nat):Builtin.Slice.slicePlaces (i:Int) (j:Int) 1=j - i:=by
 unfold Builtin.Slice.slicePlaces
 have h1:(1:Int)>0:=by omega
 simp only[h1,if_true,Int.ediv_one]
 split<;>omega
theorem qb {v:Value}{o:Option Int}{Q:Option Int->Shared->Prop}(p:IsPart v o) (h:Q o s):wpAny (model prog w) A (Builtin.Slice.slicePartIndex v) Q E s:=by
 cases p with
 | none=>exact slicePart_none h
 | int i t=>exact slicePart_int h
theorem im {sl:Addr}{vl vu:Value}{lo hi:Option Int}{n:Nat}{Q:Int×Int×Nat->Shared->Prop}(hs:s.heap.IsSliceOf sl vl vu .none) (pl:IsPart vl lo) (pu:IsPart vu hi)
   (h:Q (((sIx n 0 lo:Nat):Int),1,sIx n n hi - sIx n 0 lo) s):wpAny (model prog w) A (Builtin.Slice.sliceApplied (.ref sl) (pure (n:Int))) Q E s:=by
 obtain⟨os,hos,hcs,hds⟩:=id hs
 unfold Builtin.Slice.sliceApplied Builtin.Slice.sliceFields
 refine wpAny_bind (wpAny_bind (wpAny_field hos hds (x:=vl) rfl (wpAny_bind (wpAny_field hos hds (x:=vu) rfl (wpAny_bind (wpAny_field hos hds (x:=.none) rfl (wpAny_pure ?_)))))))
 refine wpAny_bind (slicePart_none ?_)
 show wpAny _ _ (if ((1:Int) == 0)=true then _ else _) _ _ s
 rw[if_neg (by decide)]
 refine wpAny_bind (qb pl (wpAny_bind (qb pu (wpAny_bind (wpAny_pure ?_)))))
 show wpAny _ _ (match Builtin.Slice.sliceAdjust lo hi 1 (n:Int) with|(lo,hi)=>pure (lo,(1:Int),Builtin.Slice.slicePlaces lo hi 1)) _ _ s
 rw[a0y lo hi n]
 show wpAny _ _ (pure (((sIx n 0 lo:Nat):Int),(1:Int),Builtin.Slice.slicePlaces ((sIx n 0 lo:Nat):Int) ((sIx n n hi:Nat):Int) 1)) _ _ s
 rw[a0c]
 exact wpAny_pure h
theorem a5p (xs:Array Value) (i k:Nat):((List.range k).filterMap fun (m:Nat)=>xs[((i:Int)+(m:Int)*1).toNat]?).toArray=((xs.toList.drop i).take k).toArray:=by
 have e:(fun (m:Nat)=>xs[((i:Int)+(m:Int)*1).toNat]?)=fun m=>xs[i+m]?:=by
   funext m
   have:((i:Int)+(m:Int)*1).toNat=i+m:=by omega
   rw[this]
 rw[e]
 have:=pick_run xs i k
 rw[List.filterMap_map] at this
 have e2:((fun x=>xs[x]?)∘fun x=>i+x)=fun m=>xs[i+m]?:=rfl
 rw[e2] at this
 rw[this]
theorem getItem_tuple_cut {t sl:Addr}{items:Array Value}{vl vu:Value}{lo hi:Option Int}{Q:Value->Shared->Prop}(ht:IsTup s.heap t items) (hs:s.heap.IsSliceOf sl vl vu .none) (pl:IsPart vl lo) (pu:IsPart vu hi)
   (hw:¬ (sIx items.size 0 lo=0/\sIx items.size items.size hi=items.size))
   (h:Q (.ref s.heap.objs.size) { s with heap:=s.heap.push { cls:=.type "tuple",data:=.seq ((items.toList.drop (sIx items.size 0 lo)).take (sIx items.size items.size hi - sIx items.size 0 lo)).toArray } })
   (hsz:items.size<=sizeLine):wpAny (model prog w) A (getItem (.ref t) (.ref sl)) Q E s:=by
 have htake:sizeOk (.seq ((items.toList.drop (sIx items.size 0 lo)).take (sIx items.size items.size hi - sIx items.size 0 lo)).toArray):=by
   show ((items.toList.drop (sIx items.size 0 lo)).take (sIx items.size items.size hi - sIx items.size 0 lo)).toArray.size<=sizeLine
   rw[List.size_toArray,List.length_take,List.length_drop,Array.length_toList]
   omega
 have hj:sIx items.size items.size hi<=items.size:=qk _ _ (Nat.le_refl _) hi
 obtain⟨os,hos,hcs,hds⟩:=id hs
 have hTs:s.TypeIs (.ref sl) "slice" := ⟨os,hos,hcs⟩
 unfold getItem
 try with_reducible refine wpAny_holding ?_
 first|refine wpAny_bind (wpAny_pure ?_)|skip
 refine wpAny_bind (wpAny_sequenceKey ht.typeIs (by decide) ?_)
 refine wpAny_bind (wpAny_callSpecial?_slot (name:=Str.ofString "__getitem__") ht.typeIs PyProof.Rows.slot_tuple_getitem
   (wpAny_call_entry PyProof.Rows.slot_tuple_getitem ht.typeIs entry_tuple_getitem ?_ (args_tuple_getitem _ _)))
 show wpAny _ _ (Builtin.Tuple.tupleItemsOf (.ref t) >>= _) _ _ s
 refine wpAny_bind (tupleItemsOf_ ht ?_)
 refine wpAny_bind (wpAny_typeOf hTs ?_)
 rw[if_pos (by decide)]
 refine wpAny_bind (im hs pl pu ?_)
 have hno:¬ ((((sIx items.size 0 lo:Nat):Int) == 0 && (1:Int) == 1 && (sIx items.size items.size hi - sIx items.size 0 lo) == items.size)=true):=by
   intro q
   rw[Bool.and_eq_true,Bool.and_eq_true] at q
   have q1:((sIx items.size 0 lo:Nat):Int)=0:=eq_of_beq q.1.1
   have q2:sIx items.size items.size hi - sIx items.size 0 lo=items.size:=eq_of_beq q.2
   exact hw ⟨by omega,by omega⟩
 show wpAny _ _ (if (((sIx items.size 0 lo:Nat):Int) == 0 && (1:Int) == 1 && (sIx items.size items.size hi - sIx items.size 0 lo) == items.size)=true then _ else _) _ _ s
 rw[if_neg hno,a5p]
 first
   | exact wpAny_bind (m:=Builtin.Tuple.tupleExact _) (wpAny_newObj_type (wpAny_pure ⟨_,rfl,wpAny_pure h⟩) htake)
   | exact wpAny_bind (m:=Builtin.Tuple.tupleExact _) (wpAny_newObj_type (wpAny_bind (wpAny_pure (wpAny_pure ⟨_,rfl,wpAny_pure h⟩))) htake)
   | exact wpAny_bind (wpAny_bind (m:=Builtin.Tuple.tupleExact _) (wpAny_newObj_type (wpAny_pure (wpAny_pure ⟨_,rfl,wpAny_pure h⟩)) htake))
   | exact wpAny_bind (wpAny_bind (m:=Builtin.Tuple.tupleExact _) (wpAny_newObj_type (wpAny_pure ⟨_,rfl,wpAny_pure h⟩) htake))
end
end HT
namespace L2
open PySem PySem.Spec PyProof.Rows
abbrev TO:=St->Hp->(Option Int->Hp->Prop)->Prop
noncomputable def PO (X:Cx) (e:Option Expr) (t:TO):Prop :=
 ∀(pins:List (Addr×Obj)) (s:Shared) (σ:St) (H:Hp) (Q:Option Int->Hp->Prop),Inv X pins σ H s->t σ H Q->
   wpAny (model X.prog X.w) X.A (evalPart e X.env) (fun u s'=>∃o H',Inv X pins σ H' s'/\IsPart u o/\Q o H') X.xe s
noncomputable def sx:TO:=fun _ H Q=>Q none H
noncomputable def a03 (t:TE):TO:=fun σ H Q=>t σ H fun x H1=>∃i,x=.int i/\Q (some i) H1
section
variable {X:Cx}{e:Expr}{te:TE}{lo hi:Option Expr}{tl th:TO}{pos p2:Pos}
theorem yd:PO X none sx:=by
 intro pins s σ H Q I h
 rw[evalPart_none]
 exact wpAny_pure ⟨none,H,I,.none,h⟩
theorem yu (h:PE X e te):PO X (some e) (a03 te):=by
 intro pins s σ H Q I hw
 rw[evalPart_some]
 refine thn (h pins s σ H _ I hw) fun u s1 ⟨x,H1,I1,r1,q1⟩=>?_
 obtain⟨i,rfl,q⟩:=q1
 obtain⟨t,rfl⟩:=r1
 exact⟨some i,H1,I1,.int i t,q⟩
noncomputable def SlR (X:Cx) (r:V->Option Int->Option Int->Hp->VK->Prop):Prop :=
 ∀(pins:List (Addr×Obj)) (s:Shared) (σ:St) (H:Hp) (x:V) (v vl vu:Value) (lo hi:Option Int) (sl:Addr) (Q:VK),Inv X pins σ H s->RelV x v->s.heap.IsSliceOf sl vl vu .none->IsPart vl lo->IsPart vu hi->r x lo hi H Q->
   ∃T id,typeLookup (.type T) "__getitem__" = pure (some (.builtin id))/\s.TypeIs v T/\wpAny (model X.prog X.w) X.A (getItem v (.ref sl)) (EP X pins σ Q) X.xe s
noncomputable def tSl (r:V->Option Int->Option Int->Hp->VK->Prop) (te:TE) (tl th:TO):TE:=fun σ H Q=>te σ H fun x H1=>tl σ H1 fun l H2=>th σ H2 fun u H3=>r x l u H3 Q
theorem vk {r:V->Option Int->Option Int->Hp->VK->Prop}(hr:SlR X r) (he:PE X e te) (hl:PO X lo tl) (hu:PO X hi th):PE X (.Subscript e (.Slice lo hi none p2) pos) (tSl r te tl th):=by
 intro pins s σ H Q I h
 refine Subscript_ (thn (he pins s σ H _ I h) fun v s1 ⟨x,H1,I1,r1,q1⟩=>?_)
 refine wpAny_Slice (thn (hl pins s1 σ H1 _ I1 q1) fun vl s2 ⟨l,H2,I2,pl,q2⟩=>thn (hu pins s2 σ H2 _ I2 q2) fun vu s3 ⟨u,H3,I3,pu,q3⟩=>?_)
 rw[evalPart_none]
 refine wpAny_pure ?_
 have I4:Inv X pins σ H3 { s3 with heap:=s3.heap.push { cls:=.type "slice",data:=.fields #[vl,vu,.none] } }:=I3.kept (t':=s3.toks) fun b ob q=>Heap.get?_push_of_some _ q
 obtain⟨T,id,hT,ht,hg⟩:=hr pins { s3 with heap:=s3.heap.push { cls:=.type "slice",data:=.fields #[vl,vu,.none] } } σ H3 x v vl vu l u s3.heap.objs.size Q I4 r1 (Heap.IsSliceOf.new ..) pl pu q3
 show wpAny (model X.prog X.w) X.A (subscriptTail e (.Slice lo hi none p2) v (.ref s3.heap.objs.size)) (EP X pins σ Q) X.xe { s3 with heap:=s3.heap.push { cls:=.type "slice",data:=.fields #[vl,vu,.none] } }
 exact tail_any (ops:=[.ref s3.heap.objs.size,v]) ht hT hg (by with_unfolding_all rfl)
noncomputable def cutV (xs:List V) (lo hi:Option Int):List V:=(xs.drop (HT.sIx xs.length 0 lo)).take (HT.sIx xs.length xs.length hi - HT.sIx xs.length 0 lo)
theorem nq (xs:List V) (lo hi:Option Int):(cutV xs lo hi).length<=xs.length:=by
 unfold cutV
 rw[List.length_take,List.length_drop]
 omega
noncomputable def rSlT (K:PySem.W.Frag):V->Option Int->Option Int->Hp->VK->Prop:=fun x lo hi H Q=>∃a xs,x=.ref a/\SqT K H a xs/\
 ¬ (HT.sIx xs.length 0 lo=0/\HT.sIx xs.length xs.length hi=xs.length)/\∀p,H p=none->Q (.ref p) (upd H p (.tup (cutV xs lo hi)))
theorem qj:SlR X (rSlT X.K):=by
 intro pins s σ H x v vl vu lo hi sl Q I rx hs pl pu h
 obtain⟨a,xs,rfl,hx,hw,q⟩:=h
 cases rx
 obtain⟨its,r,ht,hz⟩:=I.tuple hx
 have hlen:its.toArray.size=xs.length:=by rw[List.size_toArray];exact r.length.symm
 refine⟨"tuple",_,PyProof.Rows.slot_tuple_getitem.lookup,ht.typeIs,?_⟩
 refine HT.getItem_tuple_cut ht hs pl pu (by rw[hlen];exact hw) ?_ (by rw[hlen];exact hz)
 rw[hlen]
 refine⟨.ref s.heap.objs.size,_,I.laid (t':=s.toks) (o:=.tup (cutV xs lo hi)) (fun b ob q=>Heap.get?_push_of_some _ q) (Nat.le_refl _) ?_,rfl,q _ (I.hok.fresh (Nat.le_refl _))⟩
 exact⟨Nat.le_trans (nq xs lo hi) hz,_,(r.drop (HT.sIx xs.length 0 lo)).take (HT.sIx xs.length xs.length hi - HT.sIx xs.length 0 lo),IsTup.new _ _⟩
noncomputable def aao (K:PySem.W.Frag):R2:=fun x y H Q=>∃a b xs ys,x=.ref a/\y=.ref b/\SqT K H a xs/\SqT K H b ys/\xs≠[]/\xs.length+ys.length<=sizeLine/\
 (ys=[]->Q (.ref a) H)/\(ys≠[]->∀p,H p=none->Q (.ref p) (upd H p (.tup (xs++ys))))
theorem Vals.nil_iff {xs:List V}{us:List Value}(r:Vals xs us):us=[]↔xs=[]:=by
 cases r with
 | nil=>simp
 | cons _ _=>simp
theorem my:OpR X (binaryOp .Add) (aao X.K):=by
 intro pins s σ H x y v u Q I rx ry h
 obtain⟨a,b,xs,ys,rfl,rfl,ha,hb,hx,hz,q1,q2⟩:=h
 cases rx
 cases ry
 obtain⟨its,r1,p1,_⟩:=I.tuple ha
 obtain⟨its2,r2,p2,_⟩:=I.tuple hb
 refine HT.cat_tup p1 p2 (fun z=>hx (r1.nil_iff.mp z)) (fun z=>⟨.ref a,H,I,rfl,q1 (r2.nil_iff.mp z)⟩) (fun z=>?_) (by rw[<- r1.length,<- r2.length];exact hz)
 refine⟨.ref s.heap.objs.size,_,I.laid (t':=s.toks) (o:=.tup (xs++ys)) (fun b ob q=>Heap.get?_push_of_some _ q) (Nat.le_refl _) ?_,rfl,q2 (fun w=>z (r2.nil_iff.mpr w)) _ (I.hok.fresh (Nat.le_refl _))⟩
 exact⟨by rw[List.length_append];exact hz,_,r1.append r2,IsTup.new _ _⟩
end
noncomputable def ixN (n:Nat) (i:Int):Option Nat:=if 0<=i then (if i<n then some i.toNat else none) else if -(n:Int)<=i then some (i+n).toNat else none
noncomputable def atI {α:Type}(xs:List α) (i:Int):Option α:=(ixN xs.length i).bind fun j=>xs[j]?
theorem zf {n:Nat}{i:Int}{j:Nat}(h:ixN n i=some j):seqIndex? i n=some j/\j<n /\ -(n:Int)<=i/\i<n:=by
 unfold ixN at h
 by_cases h0:0<=i
 . rw[if_pos h0] at h
   by_cases h1:i<n
   . rw[if_pos h1] at h
     have e:i.toNat=j:=Option.some.inj h
     exact⟨by rw[seqIndex_of h0 h1,e],by omega,by omega,h1⟩
   . rw[if_neg h1] at h;cases h
 . rw[if_neg h0] at h
   by_cases h1 : -(n:Int)<=i
   . rw[if_pos h1] at h
     have e:(i+n).toNat=j:=Option.some.inj h
     exact⟨by rw[seqIndex_neg (by omega) h1,e],by omega,h1,by omega⟩
   . rw[if_neg h1] at h;cases h
theorem re {α:Type}{xs:List α}{i:Int}{v:α}(h:atI xs i=some v):∃j,seqIndex? i xs.length=some j/\xs[j]? = some v/\j<xs.length /\ -(xs.length:Int)<=i/\i<xs.length:=by
 unfold atI at h
 cases e:ixN xs.length i with
 | none=>rw[e] at h;cases h
 | some j =>
   rw[e] at h
   obtain⟨h1,h2,h3,h4⟩:=zf e
   exact⟨j,h1,h,h2,h3,h4⟩
theorem ca {α:Type}{xs:List α}{j:Nat}{v:α}(h:xs[j]? = some v):atI xs (j:Int)=some v:=by
 have hj:j<xs.length:=(List.getElem?_eq_some_iff.mp h).1
 have e:ixN xs.length (j:Int)=some j:=by
   unfold ixN
   rw[if_pos (by omega),if_pos (by omega)];simp
 unfold atI;rw[e];exact h
noncomputable def yy (b:Expr):Prop:=∀o i,subscripted b false o i=operate [o,i] (getItem o i)
noncomputable def IxR (X:Cx) (r:R2):Prop :=
 ∀(value slice:Expr) (pins:List (Addr×Obj)) (s:Shared) (σ:St) (H:Hp) (x y:V) (v u:Value) (Q:VK),Inv X pins σ H s->RelV x v->RelV y u->r x y H Q->
   subscripted slice false v u=operate [v,u] (getItem v u)->wpAny (model X.prog X.w) X.A (subscriptTail value slice v u) (EP X pins σ Q) X.xe s
noncomputable def MtR (X:Cx) (id:String) (r:V->List V->Hp->VK->Prop):Prop :=
 ∀(pins:List (Addr×Obj)) (s:Shared) (σ:St) (H:Hp) (x:V) (xs:List V) (v:Value) (us:List Value) (Q:VK),Inv X pins σ H s->RelV x v->Vals xs us->r x xs H Q->
   wpAny (model X.prog X.w) X.A (call (.builtin id) (v::us)) (EP X pins σ Q) X.xe s
section
variable {X:Cx}{a b:Expr}{ta tb:TE}{pos:Pos}
theorem uy {r:R2}(hr:IxR X r) (ha:PE X a ta) (hb:PE X b tb) (hs:yy b):PE X (.Subscript a b pos) (tOp r ta tb):=by
 intro pins s σ H Q I h
 exact Subscript_ (binT ha hb I h fun v u s2 x y H2 I2 rx ry q=>hr a b pins s2 σ H2 x y v u Q I2 rx ry q (hs _ _))
noncomputable def rIxL (K:PySem.W.Frag):R2:=fun x y H Q=>∃p xs i v,x=.ref p/\y=.int i/\SqL K H p xs/\atI xs i=some v/\Q v H
noncomputable def rIxT (K:PySem.W.Frag):R2:=fun x y H Q=>∃p xs i v,x=.ref p/\y=.int i/\SqT K H p xs/\atI xs i=some v/\Q v H
noncomputable def rIxS:R2:=fun x y H Q=>∃z i c,x=.str z/\y=.int i/\z.length<=sizeLine/\atI z.cps.toList i=some c/\Q (.str ⟨#[c]⟩) H
theorem dq:IxR X (rIxL X.K):=by
 intro value slice pins s σ H x y v u Q I rx ry h hs
 obtain⟨p,xs,i,z,rfl,rfl,hq,he,q⟩:=h
 cases rx
 obtain⟨t,rfl⟩:=ry
 obtain⟨its,r,pl,hz⟩:=I.list hq
 obtain⟨j,h1,h2,h3,h4,h5⟩:=re he
 obtain⟨w,ew,rw'⟩:=r.get h2
 have hl:=r.length
 have hn:=jh
 have fin:EP X pins σ Q w s:=⟨z,H,I,rw',q⟩
 by_cases h0:0<=i
 . have hj:i.toNat=j:=by
     rw[seqIndex_of h0 h5] at h1
     exact Option.some.inj h1
   exact item_listR pl.isList h0 (by omega) (by rw[hj];simpa using ew) fin hs
 . have hj:(i+(its.toArray.size:Int)).toNat=j:=by
     rw[seqIndex_neg (by omega) h4] at h1
     rw[List.size_toArray,<- hl]
     exact Option.some.inj h1
   exact subscriptTail_builtinR (x:=w) pl.isList.typeIs slot_list_getitem.lookup
     (wpAny_getItem_list_neg (Q:=fun r s'=>r=w/\EP X pins σ Q r s') pl.isList (by omega) (by rw[List.size_toArray]<;>omega) (by omega) (by rw[hj];simpa using ew) ⟨rfl,fin⟩) hs
theorem ay:IxR X (rIxT X.K):=by
 intro value slice pins s σ H x y v u Q I rx ry h hs
 obtain⟨p,xs,i,z,rfl,rfl,hq,he,q⟩:=h
 cases rx
 obtain⟨t,rfl⟩:=ry
 obtain⟨its,r,pl,hz⟩:=I.tuple hq
 obtain⟨j,h1,h2,h3,h4,h5⟩:=re he
 obtain⟨w,ew,rw'⟩:=r.get h2
 have hl:=r.length
 have hn:=jh
 have fin:EP X pins σ Q w s:=⟨z,H,I,rw',q⟩
 exact subscriptTail_builtinR (x:=w) pl.typeIs slot_tuple_getitem.lookup
   (getItem_tuple (j:=j) (Q:=fun r s'=>r=w/\EP X pins σ Q r s') pl (by omega) (by omega) (by rw[List.size_toArray,<- hl];exact h1) (by simpa using ew) ⟨rfl,fin⟩) hs
theorem gn:IxR X rIxS:=by
 intro value slice pins s σ H x y v u Q I rx ry h hs
 obtain⟨z,i,c,rfl,rfl,hz,he,q⟩:=h
 obtain⟨t,rfl⟩:=rx
 obtain⟨t',rfl⟩:=ry
 obtain⟨j,h1,h2,h3,h4,h5⟩:=re he
 have hl:z.cps.toList.length=z.length:=by simp[Str.length]
 rw[hl] at h1 h4 h5
 have hn:=jh
 exact tail_any (typeIs_str s z t) slot_str_getitem.lookup (getItem_str (c:=c) (by
   have e1:decide (i < -(2 ^ 63:Int))=false:=decide_eq_false (by omega)
   have e2:decide (i >= 2 ^ 63)=false:=decide_eq_false (by omega)
   rw[e1,e2,Bool.or_false]) (by rw[h1];simpa using h2) ⟨.str ⟨#[c]⟩,H,I.tok _,⟨_,rfl⟩,q⟩) hs
theorem a0o (its:List Value) (n j:Nat) (u:Value):Obj.mapSeq (·.setIfInBounds j u) { cls:=.type "list",data:=.seq its.toArray n }={ cls:=.type "list",data:=.seq (its.set j u).toArray n }:=by
 simp[Obj.mapSeq]
theorem Inv.lst {pins:List (Addr×Obj)}{σ:St}{H:Hp}{s:Shared}{p:Addr}{xs:List V}(I:Inv X pins σ H s) (h:H p=some (.lst xs)) :
   ∃(its:List Value) (n:Nat),Vals xs its/\s.heap.get? p=some { cls:=.type "list",data:=.seq its.toArray n }/\xs.length<=sizeLine:=by
 obtain⟨z,its,n,r,e⟩:=I.hok p _ h
 exact⟨its,n,r,e,z⟩
theorem Inv.lstUpd {pins:List (Addr×Obj)}{σ:St}{H:Hp}{s:Shared}{p:Addr}{xs ys:List V}{its its':List Value}{n n':Nat}{f:Obj->Obj}(I:Inv X pins σ H s) (h:H p=some (.lst xs))
   (ho:s.heap.get? p=some { cls:=.type "list",data:=.seq its.toArray n }) (hf:f { cls:=.type "list",data:=.seq its.toArray n }={ cls:=.type "list",data:=.seq its'.toArray n' }) (r:Vals ys its') (hz:ys.length<=sizeLine) (t:Nat) :
   Inv X pins σ (upd H p (.lst ys)) { s with heap:=s.heap.update p f,toks:=t }:=by
 have e:(s.heap.update p f).get? p=some { cls:=.type "list",data:=.seq its'.toArray n' }:=by
   rw[Heap.get?_update_self f ho (by rw[hf]<;>rfl),hf]
 refine I.write (x:=p) (e:=p) (by rw[h];trivial) (.inl rfl) (fun b u hb q=>(Heap.get?_update_other _ _ (Ne.symm hb)).trans q) ⟨_,e⟩ ?_
 exact⟨hz,its',n',r,e⟩
noncomputable def aau:V->V->V->Hp->(Hp->Prop)->Prop:=fun o i v H Q=>∃p xs k j,o=.ref p/\i=.int k/\H p=some (.lst xs)/\ixN xs.length k=some j/\Q (upd H p (.lst (xs.set j v)))
theorem pf:PSet X aau:=by
 intro pins s σ H o i v ov iv u Q I ro ri rv h
 obtain⟨p,xs,k,j,rfl,rfl,hp,hj,q⟩:=h
 cases ro
 obtain⟨t,rfl⟩:=ri
 obtain⟨its,n,r,ho,hz⟩:=I.lst hp
 obtain⟨h1,h2,h3,h4⟩:=zf hj
 have hl:=r.length
 have hn:=jh
 have I':Inv X pins σ (upd H p (.lst (xs.set j v))) { s with heap:=s.heap.update p (Obj.mapSeq (·.setIfInBounds j u)) } :=
   I.lstUpd hp ho (a0o its n j u) (r.set rv j) (by rw[List.length_set];exact hz) s.toks
 by_cases h0:0<=k
 . have hk:k.toNat=j:=by
     rw[seqIndex_of h0 h4] at h1
     exact Option.some.inj h1
   exact PySem.W.ki_setAt ho h0 (by omega) (by rw[List.size_toArray,<- hl];exact h4) (by rw[hk];exact⟨_,I',q⟩)
 . have hk:(k+(its.toArray.size:Int)).toNat=j:=by
     rw[seqIndex_neg (by omega) h3] at h1
     rw[List.size_toArray,<- hl]
     exact Option.some.inj h1
   exact PySem.W.ki_setBack ho (by omega) (by rw[List.size_toArray,<- hl];exact h3) (by omega) (by rw[hk];exact⟨_,I',q⟩)
theorem xc (lo hi:Option Int) (n:Nat):(sliceBounds lo hi none n).1=((HT.sIx n 0 lo:Nat):Int)/\(sliceBounds lo hi none n).2.1=((HT.sIx n n hi:Nat):Int)/\(sliceBounds lo hi none n).2.2=1:=by
 refine⟨?_,?_,rfl⟩
 . cases lo with
   | none=>simp[sliceBounds,HT.sIx]
   | some i =>
     simp only[sliceBounds,HT.sIx,Option.getD_none,show (1:Int)>0 by decide,if_true]
     by_cases h:i<0
     . simp only[h,if_true]<;>omega
     . simp only[h,if_false]<;>omega
 . cases hi with
   | none=>simp[sliceBounds,HT.sIx]
   | some i =>
     simp only[sliceBounds,HT.sIx,Option.getD_none,show (1:Int)>0 by decide,if_true]
     by_cases h:i<0
     . simp only[h,if_true]<;>omega
     . simp only[h,if_false]<;>omega
theorem ui (its:List Value) (lo hi:Option Int):slicePick its.toArray lo hi none=((its.drop (HT.sIx its.length 0 lo)).take (HT.sIx its.length its.length hi - HT.sIx its.length 0 lo)).toArray:=by
 obtain⟨h1,h2,h3⟩:=xc lo hi its.toArray.size
 unfold slicePick
 rw[h1,h2,h3]
 simp only[sliceRange_one,pick_run,List.size_toArray]<;>rfl
noncomputable def rSlL (K:PySem.W.Frag):V->Option Int->Option Int->Hp->VK->Prop:=fun x lo hi H Q=>∃a xs,x=.ref a/\SqL K H a xs/\∀p,H p=none->Q (.ref p) (upd H p (.lst (cutV xs lo hi)))
theorem a8e:SlR X (rSlL X.K):=by
 intro pins s σ H x v vl vu lo hi sl Q I rx hs pl pu h
 obtain⟨a,xs,rfl,hx,q⟩:=h
 cases rx
 obtain⟨its,r,ht,hz⟩:=I.list hx
 have hlen:=r.length
 refine⟨"list",_,slot_list_getitem.lookup,ht.isList.typeIs,?_⟩
 refine wpAny_getItem_list_slice ht.isList hs pl pu .none (by simp) ?_ (by rw[List.size_toArray]<;>omega)
 rw[ui,<- hlen]
 refine⟨.ref s.heap.objs.size,_,I.laid (t':=s.toks) (o:=.lst (cutV xs lo hi)) (fun b ob q=>Heap.get?_push_of_some _ q) (Nat.le_refl _) ?_,rfl,q _ (I.hok.fresh (Nat.le_refl _))⟩
 exact⟨Nat.le_trans (nq xs lo hi) hz,_,0,(r.drop (HT.sIx xs.length 0 lo)).take (HT.sIx xs.length xs.length hi - HT.sIx xs.length 0 lo),Heap.get?_push_size _ rfl⟩
noncomputable def ie:V->Bool
 | .non=>true
 | .bl _=>true
 | .int _=>true
 | .str _=>true
 | _=>false
noncomputable def eqV:V->V->Bool
 | .non,.non=>true
 | .bl a,.bl b=>a == b
 | .bl a,.int b=>(if a then 1 else 0) == b
 | .int a,.bl b=>a == (if b then 1 else 0)
 | .int a,.int b=>a == b
 | .str a,.str b=>a == b
 | _,_=>false
theorem aa0 {A:Around}{s:Shared}{y x:V}{u v:Value}(ry:RelV y u) (rx:RelV x v) (fy:ie y=true) (fx:ie x=true):SeqAt.EqAt A s u v (eqV y x):=by
 cases y with
 | non =>
   cases ry
   cases x with
   | non=>cases rx;exact SeqAt.EqAt.same _
   | bl b=>cases rx;exact SeqAt.EqAt.none_bool b
   | int b=>obtain⟨t,rfl⟩:=rx;exact SeqAt.EqAt.none_int b t
   | str b=>obtain⟨t,rfl⟩:=rx;exact SeqAt.EqAt.none_str b t
   | _=>exact absurd (show false=true from fx) Bool.false_ne_true
 | bl a =>
   cases ry
   cases x with
   | non=>cases rx;exact SeqAt.EqAt.bool_none a
   | bl b=>cases rx;exact SeqAt.EqAt.bool_bool a b
   | int b=>obtain⟨t,rfl⟩:=rx;exact SeqAt.EqAt.bool_int a b t
   | str b=>obtain⟨t,rfl⟩:=rx;exact SeqAt.EqAt.bool_str a b t
   | _=>exact absurd (show false=true from fx) Bool.false_ne_true
 | int a =>
   obtain⟨t',rfl⟩:=ry
   cases x with
   | non=>cases rx;exact SeqAt.EqAt.int_none a t'
   | bl b=>cases rx;exact SeqAt.EqAt.int_bool a t' b
   | int b=>obtain⟨t,rfl⟩:=rx;exact SeqAt.EqAt.int_int a t' b t
   | str b=>obtain⟨t,rfl⟩:=rx;exact SeqAt.EqAt.int_str a t' b t
   | _=>exact absurd (show false=true from fx) Bool.false_ne_true
 | str a =>
   obtain⟨t',rfl⟩:=ry
   cases x with
   | non=>cases rx;exact SeqAt.EqAt.str_none a t'
   | bl b=>cases rx;exact SeqAt.EqAt.str_bool a t' b
   | int b=>obtain⟨t,rfl⟩:=rx;exact SeqAt.EqAt.str_int a t' b t
   | str b=>obtain⟨t,rfl⟩:=rx;exact SeqAt.EqAt.str_str a t' b t
   | _=>exact absurd (show false=true from fx) Bool.false_ne_true
 | _=>exact absurd (show false=true from fy) Bool.false_ne_true
noncomputable def eqU (x:V) (u:Value):Bool:=match u with
 | .none=>eqV .non x
 | .bool b=>eqV (.bl b) x
 | .int i _=>eqV (.int i) x
 | .str z _=>eqV (.str z) x
 | _=>false
theorem a2y {x y:V}{u:Value}(r:RelV y u) (f:ie y=true):eqU x u=eqV y x:=by
 cases y with
 | non=>cases r;rfl
 | bl b=>cases r;rfl
 | int i=>obtain⟨t,rfl⟩:=r;rfl
 | str z=>obtain⟨t,rfl⟩:=r;rfl
 | _=>exact absurd (show false=true from f) Bool.false_ne_true
theorem jc {x:V}:∀{xs:List V}{us:List Value},Vals xs us->xs.all ie=true->us.any (eqU x)=xs.any fun y=>eqV y x
 | _,_,.nil,_=>rfl
 | y::xs,u::us,.cons r t,f=>by
   rw[List.all_cons,Bool.and_eq_true] at f
   rw[List.any_cons,List.any_cons,a2y r f.1,jc t f.2]
theorem iq {A:Around}{s:Shared}{x:V}{v:Value}(rx:RelV x v) (fx:ie x=true):∀{xs:List V}{us:List Value},Vals xs us->xs.all ie=true->∀u∈us,SeqAt.EqAt A s u v (eqU x u)
 | _,_,.nil,_=>fun u hu=>by cases hu
 | y::xs,u::us,.cons r t,f=>fun u' hu=>by
   rw[List.all_cons,Bool.and_eq_true] at f
   rcases List.mem_cons.mp hu with rfl|hu
   . rw[a2y r f.1];exact aa0 r rx f.1 fx
   . exact iq rx fx t f.2 u' hu
noncomputable def inV (x:V) (xs:List V):Bool:=xs.any fun y=>eqV y x
noncomputable def rIn (K:PySem.W.Frag) (neg:Bool):R2:=fun x y H Q=>∃p xs,y=.ref p/\(SqL K H p xs\/SqT K H p xs)/\ie x=true/\xs.all ie=true/\Q (.bl (if neg then !inV x xs else inV x xs)) H
theorem ir:OpR X (compareOp .In) (rIn X.K false):=by
 intro pins s σ H x y v u Q I rx ry h
 obtain⟨p,xs,rfl,hq,fx,fs,q⟩:=h
 cases ry
 rcases hq with hq|hq
 . obtain⟨its,r,pl,hz⟩:=I.list hq
   refine SeqAt.in_listAt (eqU x) pl.isList (fun w hw=>iq rx fx r fs w (by simpa using hw)) ⟨.bl _,H,I,rfl,?_⟩
   rw[show its.toArray.any (eqU x)=its.any (eqU x) by simp,jc r fs]
   exact q
 . obtain⟨its,r,pl,hz⟩:=I.tuple hq
   refine SeqAt.in_tupleAt (eqU x) pl (fun w hw=>iq rx fx r fs w (by simpa using hw)) ⟨.bl _,H,I,rfl,?_⟩
   rw[show its.toArray.any (eqU x)=its.any (eqU x) by simp,jc r fs]
   exact q
theorem wn:OpR X (compareOp .NotIn) (rIn X.K true):=by
 intro pins s σ H x y v u Q I rx ry h
 obtain⟨p,xs,rfl,hq,fx,fs,q⟩:=h
 cases ry
 rcases hq with hq|hq
 . obtain⟨its,r,pl,hz⟩:=I.list hq
   refine SeqAt.notIn_listAt (eqU x) pl.isList (fun w hw=>iq rx fx r fs w (by simpa using hw)) ⟨.bl _,H,I,rfl,?_⟩
   rw[show its.toArray.any (eqU x)=its.any (eqU x) by simp,jc r fs]
   exact q
 . obtain⟨its,r,pl,hz⟩:=I.tuple hq
   refine SeqAt.notIn_tupleAt (eqU x) pl (fun w hw=>iq rx fx r fs w (by simpa using hw)) ⟨.bl _,H,I,rfl,?_⟩
   rw[show its.toArray.any (eqU x)=its.any (eqU x) by simp,jc r fs]
   exact q
theorem dk:cf X (.builtin "len") (fun xs H Q=>∃p ys,xs=[.ref p]/\(SqL X.K H p ys\/SqT X.K H p ys)/\Q (.int ys.length) H):=by
 intro pins s σ H xs us Q I r h
 obtain⟨p,ys,rfl,hq,q⟩:=h
 obtain⟨u,rfl,rx⟩:=ko r
 cases rx
 have hn:=jh
 rcases hq with hq|hq
 . obtain⟨its,r',pl,hz⟩:=I.list hq
   have hlen:=r'.length
   exact Calls.call_len_list pl.isList (by simp only[List.size_toArray]<;>omega) ⟨.int ys.length,H,I.tok _,⟨s.toks+1,by rw[List.size_toArray,hlen]⟩,q⟩
 . obtain⟨its,r',pl,hz⟩:=I.tuple hq
   have hlen:=r'.length
   exact len_tuple pl (by simp only[List.size_toArray]<;>omega) ⟨.int ys.length,H,I.tok _,⟨s.toks+1,by rw[List.size_toArray,hlen]⟩,q⟩
theorem le:cf X (.builtin "len") (fun xs H Q=>∃z,xs=[.str z]/\z.length<=sizeLine/\Q (.int z.length) H):=by
 intro pins s σ H xs us Q I r h
 obtain⟨z,rfl,hz,q⟩:=h
 obtain⟨u,rfl,t,rfl⟩:=ko r
 have hn:=jh
 exact len_str (by omega) ⟨.int z.length,H,I.tok _,⟨_,rfl⟩,q⟩
theorem cv:cf X (.type "list") (fun xs H Q=>∃p ys,xs=[.ref p]/\(SqL X.K H p ys\/SqT X.K H p ys)/\∀l,H l=none->Q (.ref l) (upd H l (.lst ys))):=by
 intro pins s σ H xs us Q I r h
 obtain⟨p,ys,rfl,hq,q⟩:=h
 obtain⟨u,rfl,rx⟩:=ko r
 cases rx
 have fin:∀(its:List Value),Vals ys its->ys.length<=sizeLine->∀(h':Heap) (c':Nat),(∀b o',s.heap.get? b=some o'->h'.get? b=some o')->
     h'.get? s.heap.objs.size=some { cls:=.type "list",dict:=none,data:=.seq its.toArray c',slots := #[] }->EP X pins σ Q (.ref s.heap.objs.size) { s with heap:=h' }:=fun its r' hz h' c' kp e =>
   ⟨.ref s.heap.objs.size,_,I.laid (t':=s.toks) kp (Nat.le_refl _) (show ObjOk X.prog X.w _ h' _ (.lst ys) from⟨hz,its,c',r',e⟩),rfl,q _ (I.hok.fresh (Nat.le_refl _))⟩
 rcases hq with hq|hq
 . obtain⟨its,r',pl,hz⟩:=I.list hq
   have hlen:=r'.length
   obtain⟨o,ho,hc,n,hd⟩:=pl.isList
   exact call_list_seq p (.inl rfl) ho hc hd (fun h' c' kp e=>fin its r' hz h' c' kp e) (by simp only[List.size_toArray]<;>omega)
 . obtain⟨its,r',pl,hz⟩:=I.tuple hq
   have hlen:=r'.length
   obtain⟨o,ho,hc,n,hd⟩:=pl
   exact call_list_seq p (.inr rfl) ho hc hd (fun h' c' kp e=>fin its r' hz h' c' kp e) (by simp only[List.size_toArray]<;>omega)
theorem lc:cf X (.type "tuple") (fun xs H Q=>∃p ys,xs=[.ref p]/\((SqL X.K H p ys/\∀l,H l=none->Q (.ref l) (upd H l (.tup ys)))\/(SqT X.K H p ys/\Q (.ref p) H))):=by
 intro pins s σ H xs us Q I r h
 obtain⟨p,ys,rfl,h⟩:=h
 obtain⟨u,rfl,rx⟩:=ko r
 cases rx
 rcases h with⟨hq,q⟩|⟨hq,q⟩
 . obtain⟨its,r',pl,hz⟩:=I.list hq
   have hlen:=r'.length
   refine call_tuple_list pl.isList (fun h' kp=>?_) (by simp only[List.size_toArray]<;>omega)
   have I1:Inv X pins σ H { s with heap:=h' }:=I.kept (t':=s.toks) kp
   have I2:Inv X pins σ (upd H h'.objs.size (.tup ys)) { s with heap:=h'.push { cls:=.type "tuple",data:=.seq its.toArray } } :=
     I1.laid (t':=s.toks) (fun b o e=>Heap.get?_push_of_some _ e) (Nat.le_refl _) (show ObjOk X.prog X.w _ _ _ (.tup ys) from⟨hz,its,r',IsTup.new _ _⟩)
   exact⟨.ref h'.objs.size,_,I2,rfl,q _ (I1.hok.fresh (Nat.le_refl _))⟩
 . obtain⟨its,r',pl,hz⟩:=I.tuple hq
   exact call_tuple_same pl ⟨.ref p,H,I,rfl,q⟩
noncomputable def tyV (K:PySem.W.Frag) (T:String) (x:V) (H:Hp):Prop:=match x with
 | .str _=>T = "str"
 | .int _=>T = "int"
 | .ref p=>(T = "list" /\ ∃xs,SqL K H p xs)\/(T = "tuple" /\ ∃o,K.lookup p=some o/\o.cls=.type "tuple" /\ o.dict=none)\/
     (T = "dict" /\ ((∃kvs,H p=some (.dK kvs))\/∃kvs,H p=some (.dT kvs)))\/(T = "set" /\ ∃S n,H p=some (.set S n))
 | _=>False
theorem a2k {pins:List (Addr×Obj)}{σ:St}{H:Hp}{s:Shared}{T:String}{x:V}{v:Value}(I:Inv X pins σ H s) (r:RelV x v) (ty:tyV X.K T x H) :
   s.TypeIs v T/\∀a,v=.ref a->∃ob,s.heap.get? a=some ob/\ob.dict=none:=by
 cases x with
 | str z =>
   obtain⟨t,rfl⟩:=r
   cases (show T = "str" from ty)
   exact⟨typeIs_str s z t,fun _ e=>nomatch e⟩
 | int i =>
   obtain⟨t,rfl⟩:=r
   cases (show T = "int" from ty)
   exact⟨typeIs_int s i t,fun _ e=>nomatch e⟩
 | ref p =>
   cases r
   rcases ty with⟨rfl,xs,hq⟩|⟨rfl,o,hk,hc,hd⟩|⟨rfl,hk⟩|⟨rfl,S,n,hk⟩
   . obtain⟨its,_,pl,_⟩:=I.list hq
     refine⟨pl.isList.typeIs,fun a e=>?_⟩
     cases e
     obtain⟨o,n,e,c,hd,_⟩:=pl
     exact⟨o,e,hd⟩
   . refine⟨⟨o,I.kIn p o hk,hc⟩,fun a e=>?_⟩
     cases e
     exact⟨o,I.kIn _ o hk,hd⟩
   . have z:∃o,s.heap.get? p=some o/\o.ExactDict:=by
       rcases hk with⟨kvs,hk⟩|⟨kvs,hk⟩
       . obtain⟨_,_,_,_,o,_,_,e,ex,_⟩:=I.hok p _ hk
         exact⟨o,e,ex⟩
       . obtain⟨_,_,_,_,o,_,_,e,ex,_⟩:=I.hok p _ hk
         exact⟨o,e,ex⟩
     obtain⟨o,e,ex⟩:=z
     refine⟨⟨o,e,ex.1⟩,fun a e2=>?_⟩
     cases e2
     exact⟨o,e,ex.2.1⟩
   . obtain⟨o,_,_,_,e,ex,_⟩:=I.hok p _ hk
     refine⟨⟨o,e,ex.1⟩,fun a e2=>?_⟩
     cases e2
     exact⟨o,e,ex.2.1⟩
 | _=>exact False.elim ty
noncomputable def tBM0 (K:PySem.W.Frag) (T:String) (r:V->List V->Hp->VK->Prop) (to:TE):TE:=fun σ H Q=>to σ H fun x H1=>tyV K T x H1/\r x [] H1 Q
noncomputable def tBM (K:PySem.W.Frag) (T:String) (r:V->List V->Hp->VK->Prop) (to:TE) (t:TA):TE:=fun σ H Q=>to σ H fun x H1=>tyV K T x H1/\t σ H1 fun xs H2=>r x xs H2 Q
variable {o e:Expr}{es:List Expr}{to:TE}{t:TA}{name:Str}{apos cpos:Pos}{T id:String}{r:V->List V->Hp->VK->Prop}
theorem aa3 (pa:PlainAttrs T) (slot:Slot T name id) (hty:typeOf (.builtin id)=pure (.type "method_descriptor")) (hm:MtR X id r) (ho:PE X o to)
   (hbase:attributeBase o name X.env (eval o X.env)=eval o X.env:=by rfl) (hline:(apos.endLine == cpos.line)=true:=by rfl):PE X (.Call (.Attribute o name apos) [] [] cpos) (tBM0 X.K T r to):=by
 intro pins s σ H Q I h
 refine wpAny_Call_method0_late hbase hline (thn (ho pins s σ H _ I h) fun v s1 ⟨x,H1,I1,r1,ty,q1⟩=>?_)
 obtain⟨h1,h2⟩:=a2k I1 r1 ty
 exact⟨T,id,pa,slot,hty,h1,h2,Calls.callWith_builtin rfl (PySem.evalArgs_none (hm pins s1 σ H1 x [] v [] Q I1 r1 .nil q1))⟩
theorem a6x (pa:PlainAttrs T) (slot:Slot T name id) (hty:typeOf (.builtin id)=pure (.type "method_descriptor")) (hm:MtR X id r) (ho:PE X o to) (ha:PA X (e::es) t)
   (hbase:attributeBase o name X.env (eval o X.env)=eval o X.env:=by rfl)
   (hfew:((backTo cpos (starEach (e::es) X.env)).all (fun x => !x.1) && (backToKw cpos (keywordEach [] X.env)).all (fun x=>x.1.isSome)
     && decide ((e::es).length+([]:List Keyword).length+(if ([]:List Keyword).isEmpty then 0 else 1)<30))=true:=by rfl)
   (hline:(apos.endLine == cpos.line)=true:=by rfl) (hs:starEach (e::es) X.env=(false,eval e X.env)::starEach es X.env:=by rfl) (hplain:(backTo cpos (starEach es X.env)).any (·.1)=false:=by rfl) :
   PE X (.Call (.Attribute o name apos) (e::es) [] cpos) (tBM X.K T r to t):=by
 intro pins s σ H Q I h
 refine wpAny_Call_method_late hbase hfew hline rfl (thn (ho pins s σ H _ I h) fun v s1 ⟨x,H1,I1,r1,ty,q1⟩=>?_)
 obtain⟨h1,h2⟩:=a2k I1 r1 ty
 refine⟨T,id,pa,slot,hty,h1,h2,?_⟩
 have hA:=ha cpos pins s1 σ H1 _ I1 q1
 rw[hs] at hA |-
 refine Calls.callWith_builtin (by show (false || (backTo cpos (starEach es X.env)).any (·.1))=false;rw[hplain]<;>rfl) (Calls.evalArgs_plain ?_)
 exact thn hA fun us s2 ⟨vs,H2,I2,r2,q2⟩=>hm pins s2 σ H2 x vs v us Q I2 r1 r2 q2
/- xs.append(e),list.index on a module's tuple .. are MtR facts of 06m -/
end
noncomputable def MtM (X:Cx) (id:String) (r:V->List V->Hp->VK->Prop):Prop :=
 ∀(pins:List (Addr×Obj)) (s:Shared) (σ:St) (H:Hp) (x:V) (xs:List V) (v:Value) (us:List Value) (Q:VK),Inv X pins σ H s->RelV x v->Vals xs us->r x xs H Q->
   wpAny (model X.prog X.w) X.A (call (.builtin id) (v::us)) (EP X pins σ Q) X.xe s
theorem Vals.one:∀{x:V}{us:List Value},Vals [x] us->∃u,us=[u]/\RelV x u
 | _,_,.cons r .nil=>⟨_,rfl,r⟩
theorem Vals.zero:∀{us:List Value},Vals [] us->us=[]
 | _,.nil=>rfl
theorem Vals.dropLast {xs:List V}{us:List Value}(h:Vals xs us):Vals xs.dropLast us.dropLast:=by
 induction h with
 | nil=>exact .nil
 | cons r t ih =>
   cases t with
   | nil=>exact .nil
   | cons q t'=>exact .cons r ih
theorem zu {α:Type}(l:List α):l.eraseIdx (l.length - 1)=l.dropLast:=by
 induction l with
 | nil=>rfl
 | cons a r ih =>
   cases r with
   | nil=>rfl
   | cons b r =>
     have e:(a::b::r).length - 1=((b::r).length - 1)+1:=by
       have h1:(a::b::r).length=r.length+2:=rfl
       have h2:(b::r).length=r.length+1:=rfl
       omega
     rw[e,List.eraseIdx_cons_succ,ih]
     all_goals rfl
section
variable {X:Cx}{pins:List (Addr×Obj)}{σ:St}{H:Hp}{s:Shared}{l b:Addr}{xs ys zs:List V}
theorem Inv.lset {its its':List Value}{n:Nat}{f:Array Value->Array Value}{t':Nat}(I:Inv X pins σ H s) (hH:H l=some (.lst xs))
   (e:s.heap.get? l=some { cls:=.type "list",data:=.seq its.toArray n }) (hf:f its.toArray=its'.toArray) (hv:Vals ys its') (hz:ys.length<=sizeLine) :
   Inv X pins σ (upd H l (.lst ys)) { s with heap:=s.heap.update l (Obj.mapSeq f),toks:=t' }:=by
 have q:=PySem.IsL.update e f
 rw[hf] at q
 refine I.write (x:=l) (e:=l) (by rw[hH];exact trivial) (.inl rfl) (fun b' u hb hu=>(Heap.get?_update_other s.heap (Obj.mapSeq f) (Ne.symm hb)).trans hu) ⟨_,q⟩ ?_
 exact⟨hz,its',_,hv,q⟩
theorem Inv.lnew {its:List Value}{t':Nat}(I:Inv X pins σ H s) (hv:Vals ys its) (hz:ys.length<=sizeLine) :
   Inv X pins σ (upd H s.heap.objs.size (.lst ys)) { s with heap:=s.heap.push { cls:=.type "list",data:=.seq its.toArray },toks:=t' } :=
 I.laid (fun _ _ q=>Heap.get?_push_of_some _ q) (Nat.le_refl _) ⟨hz,its,0,hv,Heap.get?_push_size _ rfl⟩
theorem Inv.fresh (I:Inv X pins σ H s):H s.heap.objs.size=none:=I.hok.fresh (Nat.le_refl _)
theorem Inv.lstM (I:Inv X pins σ H s) (hH:H l=some (.lst xs)):xs.length<=sizeLine/\∃(its:List Value) (n:Nat),Vals xs its/\xs.length=its.length/\s.heap.get? l=some { cls:=.type "list",data:=.seq its.toArray n }:=by
 obtain⟨z,its,n,r,e⟩:=I.hok l _ hH
 exact⟨z,its,n,r,r.length,e⟩
theorem a60 {n:Nat}(h:n<=sizeLine):Builtin.List.listTooLong n=false:=by
 unfold Builtin.List.listTooLong
 exact decide_eq_false (by omega)
end
section
variable {X:Cx}
noncomputable def a8f:V->List V->Hp->VK->Prop:=fun x vs H Q=>∃l xs y,x=.ref l/\vs=[y]/\H l=some (.lst xs)/\xs.length<sizeLine/\Q .non (upd H l (.lst (xs++[y])))
theorem i4:MtM X "list.append" a8f:=by
 intro pins s σ H x vs v us Q I rx rv h
 obtain⟨l,xs,y,rfl,rfl,hH,hz,q⟩:=h
 cases rx
 obtain⟨u,rfl,ru⟩:=rv.one
 obtain⟨z,its,n,r,hl,e⟩:=I.lstM hH
 refine call_meets F.slot_list_append ⟨_,e,rfl⟩ F.entry_list_append (F.args_list_append_2 _ _) (PySem.list_append l its.toArray n u (by rw[List.size_toArray];omega)) ⟨e,?_⟩
 refine⟨.non,_,I.lset (its':=its++[u]) hH e (by simp) (r.append (.cons ru .nil)) ?_,rfl,q⟩
 rw[List.length_append,List.length_singleton]
 omega
noncomputable def a7q:V->List V->Hp->VK->Prop:=fun x vs H Q=>∃l b xs zs,x=.ref l/\vs=[.ref b]/\H l=some (.lst xs)/\H b=some (.lst zs)/\xs.length+zs.length<=sizeLine/\Q .non (upd H l (.lst (xs++zs)))
theorem lg:MtM X "list.extend" a7q:=by
 intro pins s σ H x vs v us Q I rx rv h
 obtain⟨l,b,xs,zs,rfl,rfl,hH,hB,hz,q⟩:=h
 cases rx
 obtain⟨u,rfl,ru⟩:=rv.one
 cases ru
 obtain⟨z,its,n,r,hl,e⟩:=I.lstM hH
 obtain⟨z2,its2,n2,r2,hl2,e2⟩:=I.lstM hB
 have hsz:its.toArray.size+its2.toArray.size<=sizeLine:=by rw[List.size_toArray,List.size_toArray];omega
 have hlong:¬ (!its.toArray.isEmpty && Builtin.List.listTooLong (its.toArray.size+its2.toArray.size))=true:=by
   rw[a60 hsz,Bool.and_false]
   exact Bool.false_ne_true
 refine call_meets F.slot_list_extend ⟨_,e,rfl⟩ F.entry_list_extend (F.args_list_extend_2 _ _)
   (AutoSeq1.list_extend_list_list_0 l its.toArray n b its2.toArray n2 hlong (by rw[List.size_toArray];omega) (by omega)) ⟨e,e2,?_⟩
 refine⟨.non,_,I.lset (its':=its++its2) hH e (by simp) (r.append r2) ?_,rfl,q⟩
 rw[List.length_append]
 omega
noncomputable def rPop:V->List V->Hp->VK->Prop:=fun x vs H Q=>∃l xs y,x=.ref l/\vs=[]/\H l=some (.lst xs)/\xs[xs.length - 1]? = some y/\Q y (upd H l (.lst xs.dropLast))
theorem a9r:MtM X "list.pop" rPop:=by
 intro pins s σ H x vs v us Q I rx rv h
 obtain⟨l,xs,y,rfl,rfl,hH,hy,q⟩:=h
 cases rx
 have hus:=rv.zero
 subst hus
 obtain⟨z,its,n,r,hl,e⟩:=I.lstM hH
 obtain⟨u,hu,ru⟩:=r.get hy
 have hy':its.toArray[its.toArray.size - 1]? = some u:=by
   show its.toArray[its.length - 1]? = some u
   rw[<- Array.getElem?_toList,<- hl]
   exact hu
 refine call_meets F.slot_list_pop ⟨_,e,rfl⟩ F.entry_list_pop (F.args_list_pop_1 _) (MeetsSeq.list_pop_last l its.toArray n u hy' (by rw[List.size_toArray];omega)) ⟨e,?_⟩
 refine⟨y,_,I.lset (its':=its.dropLast) hH e ?_ r.dropLast ?_,ru,q⟩
 . show its.toArray.eraseIdxIfInBounds (its.toArray.size - 1)=its.dropLast.toArray
   rw[List.size_toArray,List.eraseIdxIfInBounds_toArray,zu]
 . rw[List.length_dropLast]
   omega
noncomputable def rCat:R2:=fun x y H Q=>∃l b xs zs,x=.ref l/\y=.ref b/\H l=some (.lst xs)/\H b=some (.lst zs)/\xs.length+zs.length<=sizeLine/\∀p,H p=none->Q (.ref p) (upd H p (.lst (xs++zs)))
theorem g6:OpR X (binaryOp .Add) rCat:=by
 intro pins s σ H x y v u Q I rx ry h
 obtain⟨l,b,xs,zs,rfl,rfl,hH,hB,hz,q⟩:=h
 cases rx
 cases ry
 obtain⟨z,its,n,r,hl,e⟩:=I.lstM hH
 obtain⟨z2,its2,n2,r2,hl2,e2⟩:=I.lstM hB
 refine PySem.P.add_list e e2 ?_ (by rw[List.size_toArray,List.size_toArray];omega)
 have ea:its.toArray++its2.toArray=(its++its2).toArray:=by simp
 rw[ea]
 exact⟨.ref _,_,I.lnew (t':=s.toks) (r.append r2) (by rw[List.length_append];omega),rfl,q _ I.fresh⟩
end
section
variable {prog:Program}{w:World}{A:Around}{E:Value->Shared->Prop}{s:Shared}
end
section
variable {X:Cx}
end
end L2
namespace Att
open PySem PySem.W PySem.Calls PyProof.Rows
theorem qi {P:Params}{h:Heap}:∀(ns:List Int) (vs:List Value),WellAll P h vs (ns.map WData.int)->IntsAre vs ns:=by
 intro ns
 induction ns with
 | nil =>
   intro vs w
   rw[List.map_nil] at w
   cases w
   exact .nil
 | cons n ns ih =>
   intro vs w
   rw[List.map_cons] at w
   cases w with
   | cons a b =>
     cases a
     exact .cons _ _ (ih _ b)
theorem a2l {l:OpenLaw}{n:Nat}(hn:l.most=some n) {P:Params}{h:Heap}{args:List WData}{vals:List Value}
   (hpre:l.row.toRowW.claim.pre args=true) (hwl:WellAll P h vals args) :
   ∃a vs ns,vals=[Value.ref a]/\args=[WData.list (ns.map WData.int)]/\h.get? a=some { cls:=.type "list",data:=.seq vs.toArray }/\IntsAre vs ns/\ns.length<=n:=by
 have hsh:WShape.hasAll [] args [.list .int]=true:=(pre_splitW hpre).1
 have hc:l.pre.holds [] { args:=args }=true:=(pre_splitW hpre).2
 obtain⟨d,r,rfl,h1,h2⟩:=hasAllW_cons hsh
 obtain rfl:=hasAllW_nil h2
 obtain⟨xs,rfl,h3⟩:=hasW_list h1
 obtain⟨ns,rfl⟩:=items_int h3
 have hlen:ns.length<=n:=by
   unfold OpenLaw.pre at hc
   have h4:(WTm.not (.lt (.lit (.int (n:Int))) (.len (.arg 0)))).holds [] { args:=[.list (ns.map .int)] }=true:=by
     have h4:=(holds_andW hc).1
     rw[hn] at h4
     exact h4
   have h5:=condW_of h4 (w_not (w_lt w_lit (w_len_list (w_arg rfl))))
   rw[List.length_map] at h5
   refine Nat.le_of_not_lt fun q=>?_
   have q':(n:Int)<((ns.length:Nat):Int):=by omega
   first
     | (rw[decide_eq_true q'] at h5;exact absurd h5 (by decide))
     | (simp at h5;omega)
 cases hwl with
 | cons w1 w2 =>
   cases w2
   cases w1 with
   | list ho hall=>exact⟨_,_,ns,rfl,rfl,ho,qi ns _ hall,hlen⟩
theorem a1y (l:OpenLaw) (args:List WData):l.row.toRowW.claim.post args (.bool true) args=true :=
 postW_of (r:=l.row.toRowW) (X:=(true == true))
   (show WShape.has [] (.bool true) .bool=true by first|rfl|decide|simp[WShape.has,WShape.arms,WShape.armsAll])
   (show (WTm.eq .res (.lit (.bool true))).value [] { args:=args,res:=some (.bool true),after:=args }=some (.bool (true == true)) from w_eq_bool (w_res rfl) w_lit) rfl
theorem attach_call {l:OpenLaw}{n:Nat}{q:Program}{loose:List Str}{XP:(Str->Option Value)->Heap->Prop}{YP:World->Heap->Prop}{d:DefRec}
   (hn:l.most=some n) (hdf:d.params.defaults=[])
   (call:∀(w:World) (s₀ s₁:Shared) (mg mb:Str->Option Value) (fa:Addr) (o:Obj) (pm cd doc:Value) (a:Addr) (vs:List Value) (ns:List Int),
     Ground q loose [] XP w s₀ mg mb s₁.heap->YP w s₁.heap->
     s₁.heap.get? fa=some o->o.data=.func (docDef d.name d.params d.body d.scope pm cd doc)->s₁.heap.CodeRec cd d.name->mg d.name=some (.ref fa)->
     s₁.heap.get? a=some { cls:=.type "list",data:=.seq vs.toArray }->IntsAre vs ns->ns.length<=n->s₁.gens = #[]->
     codeAny (model l.prog w) callerA (.call (.ref fa) ⟨[.ref a],[]⟩) (fun r s'=>r=.ok (.ret (.bool true))/\OldK s₁.heap s'.heap/\s'.os=s₁.os/\AllBare s'.gens) s₁) :
   WalkO q loose XP YP l.row.toRowW d [] (fun f vs=>PySem.call f vs):=by
 intro w s₀ s₁ mg mb G Y fa o pm cd doc dV kV ho hd hcd hD hmg hg args vals as hpre hlay hrd hwl hlo
 obtain rfl:dV=.none:=Dflts.none hD hdf
 obtain rfl:kV=.none:=Dflts.noKw hD
 obtain⟨a,vs,ns,rfl,rfl,hobj,hints,hlen⟩:=a2l hn hpre hwl
 refine enter_call (codeAny_mono (call w s₀ s₁ mg mb fa o pm cd doc a vs ns G Y ho (fd_plain hd) hcd hmg hobj hints hlen hg) fun r s' hq=>?_)
 obtain⟨rfl,h2,h3,h4⟩:=hq
 exact⟨.inl ⟨.bool true,.bool true,[],rfl,fun _=>rfl,.bool true,a1y l _,fun _=>⟨List.Pairwise.nil,fun _ hm=>(nomatch hm)⟩⟩,h2,h3,h4⟩
section
variable {prog:Program}{w:World}{A:Around}{E:Value->Shared->Prop}{s:Shared}{K:Frag}
end
end Att
namespace L2
open PySem PySem.Spec PyProof.Rows
theorem t9:∀{vs:List Value}{ns:List Int},IntsAre vs ns->Vals (ns.map V.int) vs
 | _,_,.nil=>.nil
 | _,_,.cons n t h=>.cons ⟨t,rfl⟩ (t9 h)
noncomputable def Only (H:Hp):Prop:=∀b,H b=none\/∃o xs,H b=some (.frz o (.lst xs))
theorem a69 {P:Program}{w:World}{K:PySem.W.Frag}{mg mb:Str->Option Value}{CX:CXT}{k:Nat}{fa a:Addr}{fd:FuncData}{x:Str}{sp:Sp}{s₁:Shared}{vs:List Value}{ns:List Int}
   (KX:K.In s₁.heap) (hns:s₁.heap.Ns mainGlobals mg) (hb:s₁.heap.Ns builtinsNs mb) (hbb:∀x:Str,x ≠ "__name__" -> mb x=bootBuiltins x) (hlim:s₁.heap.NoLimit) (hg:s₁.gens = #[])
   (ha:s₁.heap.get? a=some { cls:=.type "list",data:=.seq vs.toArray }) (hi:IntsAre vs ns) (hl:ns.length<=sizeLine) (hr:Room k callerA)
   (F:∀base:Heap,K.In base->base.Ns mainGlobals mg->FnOk P w K mg base CX k fa fd [x] sp) (hbind:∀(s:Shared) (u:Value),BindsTo s fd ⟨[u],[]⟩ [(x,u)])
   (hsp:∀H:Hp,Only H->SqL K H a (ns.map V.int)->sp [.ref a] H (fun v _=>v=.bl true) fun _ _ _=>False)
   (hCX:∀H e s',CX [] H s₁ (fun _ _ _=>False) e s'->False) :
   codeAny (model P w) callerA (.call (.ref fa) ⟨[.ref a],[]⟩) (fun r s'=>r=.ok (.ret (.bool true))/\OldK s₁.heap s'.heap/\s'.os=s₁.os/\AllBare s'.gens) s₁:=by
 have rv:=t9 hi
 have lenV:=hi.length
 have core:∀H:Hp,Only H->SqL K H a (ns.map V.int)->HOk P w H s₁.heap->(∀b,H b≠none->b=a)->(H a≠none->K.lookup a=none)->
     codeAny (model P w) callerA (.call (.ref fa) ⟨[.ref a],[]⟩) (fun r s'=>r=.ok (.ret (.bool true))/\OldK s₁.heap s'.heap/\s'.os=s₁.os/\AllBare s'.gens) s₁:=by
   intro H hO hS hok hA hK
   have base_of:∀{b:Addr} {o:Obj},s₁.heap.get? b=some o->H b=none->(hidT s₁.heap H).get? b=some o:=fun e n=>a50 e n
   have noA:∀{b:Addr} {o:Obj} {es:Array DictEntry} {ep:Nat},s₁.heap.get? b=some o->o.data=.dict es ep->H b=none:=fun {b o es ep} e d=>by
     cases q:H b with
     | none=>rfl
     | some u =>
       have e':b=a:=hA b (by rw[q];simp)
       subst e'
       rw[ha] at e;cases e
       have d':Data.seq vs.toArray _=Data.dict es ep:=d
       cases d'
   have nsK:∀{b:Addr} {m:Str->Option Value},s₁.heap.Ns b m->(hidT s₁.heap H).Ns b m:=fun {b m} ⟨o,es,ep,e,d,r⟩=>⟨o,es,ep,base_of e (noA e d),d,r⟩
   have hKb:K.In (hidT s₁.heap H):=fun b o e=>base_of (KX b o e) (by
     cases q:H b with
     | none=>rfl
     | some u =>
       have e':b=a:=hA b (by rw[q];simp)
       subst e'
       rw[hK (by rw[q];simp)] at e;cases e)
   have hM:Mod K mg (hidT s₁.heap H):=⟨hKb,nsK hns,⟨mb,nsK hb,hbb⟩,let ⟨mc,h1,h2⟩:=hlim;⟨mc,nsK h1,h2⟩⟩
   have e0:Env0 P w K mg (hidT s₁.heap H) callerA [] s₁ H:=⟨rfl,hM,fun b o e=>a7f e,Nat.le_of_eq (a1f _ _),trivial,fun b hb=>absurd (show b∈([]:List Addr) from hb) (by simp),hok,.of_eq hg⟩
   refine codeAny_mono ((F _ hKb (nsK hns)).run callerA [] s₁ H ⟨[.ref a],[]⟩ [.ref a] [.ref a] _ _ hr e0 (hbind s₁ (.ref a)) (.cons rfl .nil) (hsp H hO hS)) fun r s' h=>?_
   cases r with
   | error e=>exact (hCX H e s' h).elim
   | ok fl =>
     cases fl with
     | next=>exact False.elim h
     | brk=>exact False.elim h
     | cont=>exact False.elim h
     | ret u =>
       obtain⟨v,H',os,bare,un,hok',r',q⟩:=h
       have q':v=.bl true:=q
       subst q'
       obtain rfl:u=Value.bool true:=r'
       refine⟨rfl,OldK.of_keep fun b o e=>?_,os,bare⟩
       cases q:H b with
       | none=>exact un.keep b o e q (by intro z;exact absurd (show b∈([]:List Addr) from z) (by simp)) (by simp)
       | some u =>
         rcases hO b with z|⟨ob,xs,z⟩
         . rw[q] at z;cases z
         . have z2:=un.frzs b ob _ z
           obtain⟨e1,_⟩:=hok b _ z
           obtain⟨e2,_⟩:=hok' b _ z2
           rw[e] at e1;cases e1
           exact e2
 cases hk:K.lookup a with
 | some o =>
   have e:=KX a o hk
   rw[ha] at e
   cases e
   refine core (fun _=>none) (fun _=>.inl rfl) (.inr ⟨_,vs.toArray,_,hk,rfl,rfl,rfl,by rw[List.size_toArray,lenV];exact hl,by simpa using rv⟩) (fun b u z=>by have z':(none:Option HO)=some u:=z;cases z') (fun b z=>absurd rfl z) fun z=>absurd rfl z
 | none =>
   refine core (fun b=>if b=a then some (.frz { cls:=.type "list",data:=.seq vs.toArray } (.lst (ns.map V.int))) else none) (fun b=>?_) (.inl (.inr ⟨{ cls:=.type "list",data:=.seq vs.toArray },if_pos rfl⟩)) (fun b u z=>?_) (fun b z=>?_) fun _=>hk
   . by_cases hb:b=a
     . exact .inr ⟨_,_,if_pos hb⟩
     . exact .inl (if_neg hb)
   . by_cases hb:b=a
     . have z':=(if_pos hb).symm.trans z
       cases z'
       subst hb
       exact⟨ha,by rw[List.length_map];exact hl,vs,_,rv,ha⟩
     . have z':=(if_neg hb).symm.trans z
       cases z'
   . by_cases hb:b=a
     . exact hb
     . exact absurd (if_neg hb) z
theorem walk_of {l:PySem.W.OpenLaw}{n k:Nat}{q:Program}{loose:List Str}{XP:(Str->Option Value)->Heap->Prop}{YP:World->Heap->Prop}{d:DefRec}{K:Params->PySem.W.Frag}{CX:World->CXT}{sp:World->Sp}{x:Str}
   (hn:l.most=some n) (hn2:n<=sizeLine) (hdf:d.params.defaults=[]) (hr:Room k callerA)
   (hY:∀(w:World) (h:Heap),YP w h->(K w.params).In h)
   (F:∀(w:World) (mg:Str->Option Value) (fa:Addr) (h:Heap),(K w.params).In h->h.Ns mainGlobals mg->mg d.name=some (.ref fa)->
     ∃fd:FuncData,(∀(s:Shared) (u:Value),BindsTo s fd ⟨[u],[]⟩ [(x,u)])/\
       ∀base:Heap,(K w.params).In base->base.Ns mainGlobals mg->FnOk l.prog w (K w.params) mg base (CX w) k fa fd [x] (sp w))
   (hsp:∀(w:World) (H:Hp) (a:Addr) (ns:List Int),ns.length<=n->Only H->SqL (K w.params) H a (ns.map V.int)->sp w [.ref a] H (fun v _=>v=.bl true) fun _ _ _=>False)
   (hCX:∀(w:World) (H:Hp) (s:Shared) (e:Value) (s':Shared),CX w [] H s (fun _ _ _=>False) e s'->False) :
   PySem.W.WalkO q loose XP YP l.row.toRowW d [] (fun f vs=>PySem.call f vs):=by
 refine Att.attach_call hn hdf fun w s₀ s₁ mg mb fa o pm cd doc a vs ns G Y ho hd hcd hmg hobj hints hlen hg=>?_
 have KX:=hY w _ Y
 obtain⟨fd,hb,hF⟩:=F w mg fa _ KX G.T.g hmg
 exact a69 KX G.T.g G.T.b G.T.builtins G.T.nolimit hg hobj hints (Nat.le_trans hlen hn2) hr hF hb (fun H hO hS=>hsp w H a ns hlen hO hS) fun H e s'=>hCX w H s₁ e s'
end L2
/- THE LAST THEOREM (shape;LID,My.* are yours):
  My.Adr: a structure of the addresses that your layer names (classes,functions);My.Txt K t: a structure (Prop) of the equations over K;
  My.txt_mk:{K} {implicit addresses ..} (e1:nsIn K mainGlobals "law" = some (some (.ref f))) (e2:K.lookup f=some ⟨oc,od,.func (fnOf "law" "law" params body scope dV kV doc pm an cdv ct),sl⟩) (e3:codeIn K cdv "law" = true) .. : ∃t,My.Txt K t
(the tactic k_is has no namespace: write k_is) -/
namespace L2
open PySem PySem.Spec PyProof.Rows
noncomputable def cx (s:Stmt) (j:Nat):Stmt:=match s with
 | .ClassDef _ _ _ body _ _ _ _ _ _ _=>body.getD j (.Pass ⟨0,0,0,0⟩)
 | _=>.Pass ⟨0,0,0,0⟩
noncomputable def ja (s:Stmt):Arguments:=match s with
 | .FunctionDef _ a _ _ _ _ _ _ _ _=>a
 | _=>{ posonlyargs:=[],args:=[],vararg:=none,kwonlyargs:=[],kw_defaults:=[],kwarg:=none,defaults:=[] }
noncomputable def gy (s:Stmt):List Stmt:=match s with
 | .FunctionDef _ _ b _ _ _ _ _ _ _=>b
 | _=>[]
noncomputable def ao (s:Stmt):Scope:=match s with
 | .FunctionDef _ _ _ _ _ _ sc _ _ _=>sc
 | _=>{ kind:=.function,names:=[],isGenerator:=false,isCoroutine:=false }
abbrev CX0:CXT:=fun _ _ _ _ _ _=>False
abbrev E0:XK:=fun _ _ _=>False
theorem am {X:Cx}:fj CX0 X E0:=fun _ _ _ _ _ _ _ h=>h.elim
structure Fun (K:PySem.W.Frag) (x qual:Str) (st:Stmt) (f:Addr) (fd:FuncData):Prop where
 ex:∃(oc:Value) (od:Option Addr) (kV doc pm:Value) (an:Option Addr) (cdv ct:Value) (osl:Array (Option Value)),
   fd=PySem.W.fnOf x qual (ja st) (gy st) (ao st) .none kV doc pm an cdv ct/\K.lookup f=some ⟨oc,od,.func fd,osl⟩/\PySem.W.codeIn K cdv qual=true
 kp:PySem.W.keepIn K (.ref f)=true
section
variable {P:Program}{w:World}{K:PySem.W.Frag}{mg:Str->Option Value}{base:Heap}
theorem Fun.ok {x qual:Str}{st:Stmt}{f:Addr}{fd:FuncData}{N ps:List Str}{k:Nat}{sp:Sp}(F:Fun K x qual st f fd) (S:FnScope N ps (ao st)) (len:∀vs H Q E,sp vs H Q E->vs.length=ps.length)
   (hbody:∀(cdv:Value) (A:Around) (outer:List Env) (s:Shared) (H:Hp) (vs:List V) (Q:VK) (E:XK),Room k (A.deeper (envOfC qual (ao st) s.heap.objs.size f cdv))->sp vs H Q E->
     ∃t,PSs (cxOf CX0 P w K mg base N qual (ao st) f cdv A outer s H E).nox (gy st) t/\t { nx:=fun _ H'=>Q .non H',rt:=Q } (ib N vs) H):FnOk P w K mg base CX0 (k+1) f fd ps sp:=by
 obtain⟨oc,od,kV,doc,pm,an,cdv,ct,osl,rfl,lk,hcd⟩:=F.ex
 refine aaf lk hcd S len fun A outer s H vs Q E hr hsp=>?_
 obtain⟨t,h,q⟩:=hbody cdv A outer s H vs Q E hr hsp
 exact⟨t,h.nox,q⟩
theorem Fun.binds {x qual:Str}{st:Stmt}{f:Addr}{fd:FuncData}{ps:List Str}(F:Fun K x qual st f fd)
   (h:∀(kV doc pm:Value) (an:Option Addr) (cdv ct:Value) (us:List Value),us.length=ps.length->bindArgs (PySem.W.fnOf x qual (ja st) (gy st) (ao st) .none kV doc pm an cdv ct) ⟨us,[]⟩=pure (ps.zip us)):Binds K fd ps []:=by
 obtain⟨oc,od,kV,doc,pm,an,cdv,ct,osl,rfl,lk,hcd⟩:=F.ex
 exact .all (h kV doc pm an cdv ct)
theorem fun_mk {x qual:Str}{st:Stmt}{f:Addr}{oc:Value}{od an:Option Addr}{osl:Array (Option Value)}{kV doc pm cdv ct:Value}(l:K.lookup f=some ⟨oc,od,.func (PySem.W.fnOf x qual (ja st) (gy st) (ao st) .none kV doc pm an cdv ct),osl⟩)
   (c:PySem.W.codeIn K cdv qual=true) (k:PySem.W.keepIn K (.ref f)=true):Fun K x qual st f (PySem.W.fnOf x qual (ja st) (gy st) (ao st) .none kV doc pm an cdv ct):=⟨⟨oc,od,kV,doc,pm,an,cdv,ct,osl,rfl,l,c⟩,k⟩
end
theorem ft {A:Around}{k:Nat}(hr:Room k A):A.units+1<cLine:=Nat.lt_of_le_of_lt (Nat.add_le_add_left (by decide:1<=64) _) hr.units
theorem dw {n:Nat}(h:n<=1000):n<sizeLine:=Nat.lt_of_le_of_lt h (by decide)
section
variable {X:Cx}
theorem pv (i:Nat) {x:Str}{pos:Pos}(hN:X.N[i]? = some x:=by rfl) (hv:Vis X.env.scope x:=by first|exact Or.inl rfl|exact Or.inr (Or.inl rfl)|exact Or.inr (Or.inr rfl)) (hd:(x == ("__debug__" : Str))=false:=by decide)
   (hcd:(x == ("__classdict__" : Str))=false:=by decide):PE X (.Name x pos) (tVar i):=a9o hN hv hd hcd
end
noncomputable def Same (H H':Hp):Prop:=∀b o,H b=some o->H' b=some o
theorem Same.refl (H:Hp):Same H H:=fun _ _ h=>h
theorem Same.trans {H H1 H2:Hp}(a:Same H H1) (b:Same H1 H2):Same H H2:=fun c o h=>b c o (a c o h)
theorem Same.free {H H':Hp}(e:Same H H') {l:Addr}(h:H' l=Option.none):H l=Option.none:=by
 cases q:H l with
 | none=>rfl
 | some o =>
   rw[e l o q] at h
   cases h
theorem Same.seq {K:PySem.W.Frag}{H H':Hp}{a:Addr}{xs:List V}(e:Same H H') (h:SqL K H a xs):SqL K H' a xs:=by
 rcases h with (h|⟨o,h⟩)|h
 . exact .inl (.inl (e _ _ h))
 . exact .inl (.inr ⟨o,e _ _ h⟩)
 . exact .inr h
set_option maxHeartbeats 16000000
noncomputable def blk (X:Cx) (N:List Str) (s:Shared) (H:Hp) (sc:Scope) (cl:List (Str×Addr)) (C:Addr) (ex:List Addr):Cx where
 prog:=X.prog
 w:=X.w
 K:=X.K
 mg:=X.mg
 base:=X.base
 A:=X.A
 N:=N
 s₀:=s
 H₀:=H
 env:=compEnvC sc cl C X.env
 outer:=X.stack
 stack:=X.stack
 ex:=ex
 fn:=fun _=>false
 calm:=X.calm
 pn:=[]
 xe:=fun _ _=>False
section
variable {prog:Program}{w:World}{A:Around}{R:Result->Shared->Prop}{s:Shared}
theorem ng {elt target iter:Expr}{ifs:List Expr}{scope:Scope}{pos:Pos}{it acc:Value}{env:Env}(I:Nat->Shared->Prop)
   (turn:∀n s,I n s->wpAny (model prog w) A (pyNext it) (fun r s₁=>match r with
     | none=>R (.ok .next) s₁
     | some v=>wpAny (model prog w) A (letOwnedTupleGo target it v) (fun _ s₁'=>wpAny (model prog w) A (assign target env v) (fun _ s₂ =>
         wpAny (model prog w) A (forIn ifs true fun c r=>if r=true then do let ok<-isTrue c env (eval c env);pure (ForInStep.yield ok) else pure (ForInStep.yield r)) (fun ok s₃ =>
           if ok=true then wpAny (model prog w) A (eval elt env) (fun x s₄ =>
             wpAny (model prog w) A (call (.builtin "list.append") [acc,x]) (fun _ s₅=>∃m,m<n/\I m s₅) (fun _ _=>False) s₄) (fun _ _=>False) s₃
           else ∃m,m<n/\I m s₃) (fun _ _=>False) s₂) (fun _ _=>False) s₁') (fun _ _=>False) s₁) (fun _ _=>False) s)
   (n:Nat) (h:I n s) :
   codeAny (model prog w) A (.compLoop (.ListComp elt [⟨target,iter,ifs,0⟩] scope pos) 0 it acc env) R s:=by
 refine codeAny_loop rfl I (fun n s hI=>?_) n h
 show wpAny _ A ((compTurn (.ListComp elt [⟨target,iter,ifs,0⟩] scope pos) 0 it acc env).onRaise (fun x=>do noteFrame x env;theTreesLotGoes x)) _ _ s
 refine wpAny_noted ?_
 rw[compTurn_list]
 refine wpAny_bind (wpAny_standAt (wpAny_bind (wpAny_mono (turn n s hI) (fun r s₁ h₁=>?_) fun _ _ h'=>h'.elim)))
 cases r with
 | none=>exact wpAny_pure h₁
 | some v =>
   refine wpAny_bind (wpAny_mono h₁ (fun _ s₁' h₁'=>?_) fun _ _ h'=>h'.elim)
   refine wpAny_bind (wpAny_mono h₁' (fun _ s₂ h₂=>wpAny_bind (wpAny_mono h₂ (fun ok s₃ h₃=>?_) fun _ _ h'=>h'.elim)) fun _ _ h'=>h'.elim)
   cases ok with
   | false=>exact wpAny_pure ⟨rfl,h₃⟩
   | true =>
     exact wpAny_bind (wpAny_bind (wpAny_mono h₃ (fun x s₄ h₄=>wpAny_bind (wpAny_mono h₄ (fun _ s₅ h₅=>wpAny_pure (wpAny_pure ⟨rfl,h₅⟩)) fun _ _ h'=>h'.elim)) fun _ _ h'=>h'.elim))
end
noncomputable def PTs (X:Cx) (ifs:List Expr) (t:TT):Prop :=
 ∀(pins:List (Addr×Obj)) (s:Shared) (σ:St) (H:Hp) (Q:Bool->Hp->Prop),Inv X pins σ H s->t σ H Q->
   wpAny (model X.prog X.w) X.A (forIn ifs true fun c r=>if r=true then do let ok<-isTrue c X.env (eval c X.env);pure (ForInStep.yield ok) else pure (ForInStep.yield r)) (TP X pins σ Q) X.xe s
noncomputable def tYes:TT:=fun _ H Q=>Q true H
theorem yq {X:Cx}:PTs X [] tYes:=fun _ _ _ H _ I h=>wpAny_tests_nil ⟨H,I,h⟩
theorem zc {X:Cx}{c:Expr}{t:TT}(h:PT X c t):PTs X [c] t:=fun pins s σ H Q I q=>wpAny_tests_one (h pins s σ H Q I q)
noncomputable def bo (σ:St) (ix:List Nat):St:=ix.map fun j=>(σ[j]?).getD none
noncomputable def js (J:It) (H1:Hp) (σ:St) (ix:List Nat) (tc:TT) (te:TE) (Q:VK):Prop:=∀D,H1 D=none->
 ∃W:Nat->Nat->Hp->Prop,(∃m,W 0 m (upd H1 D (.lst [])))/\∀i m H,W i m H->
   (J.stop i H/\Q (.ref D) H)\/(J.go i H/\∀x H',J.yld i H x H'->tc (some x::bo σ ix) H' fun b H2 =>
     if b=true then te (some x::bo σ ix) H2 fun y H3=>∃ys,H3 D=some (.lst ys)/\ys.length<sizeLine/\∃m',m'<m/\W (i+1) m' (upd H3 D (.lst (ys++[y])))
     else ∃m',m'<m/\W (i+1) m' H2)
noncomputable def kx (ix:List Nat) (wi:TI) (tc:TT) (te:TE):TE:=fun σ H Q=>wi σ H fun J H1=>js J H1 σ ix tc te Q
section
variable {X:Cx}
theorem a8c {pins:List (Addr×Obj)}{σ:St}{H:Hp}{s:Shared}{N:List Str}{x:Str}{sc:Scope}{cl:List (Str×Addr)}{fp:List Addr}{ix:List Nat}{h1:Heap}{m:Str->Option Value}{tk:Nat}
   (I:Inv X pins σ H s) (hkind:sc.kind=.function) (hN:N=x::ix.map fun j=>(X.N[j]?).getD "")
   (hsub:∀y c,cl.lookup y=some c->X.env.cells.lookup y=some c) (hhas:∀y,((relabel sc X.env).names.lookup y=some .cell\/(relabel sc X.env).names.lookup y=some .free)->∃c,cl.lookup y=some c)
   (hix:∀j∈ix,∃y,X.N[j]? = some y/\X.env.kindOf y=some .cell/\(relabel sc X.env).names.lookup y=some .cell)
   (hfp:∀b∈fp,FpOk X pins H b) (hlt:∀b∈fp,b<s.heap.objs.size)
   (hns:h1.Ns s.heap.objs.size m) (hk:∀b o,s.heap.get? b=some o->h1.get? b=some o) :
   Inv (blk X N s H sc cl s.heap.objs.size fp) [] (none::bo σ ix) H { s with heap:=h1,toks:=tk }:=by
 have fresh:H s.heap.objs.size=none:=I.hok.fresh (Nat.le_refl _)
 refine⟨⟨I.ok.mod,hkind,I.ok.glob,I.ok.blt,Nat.le_refl _,fun y z c h1 h2=>I.ok.inj y z c (hsub y c h1) (hsub z c h2),fun y hy=>hhas y hy,fun y c z _=>absurd (show false=true from z) (by decide),I.ok.hd,I.ok.frames,.inl rfl,
   fun b hb=>⟨Nat.ne_of_lt (hlt b hb),fun y c e=>(hfp b hb).2.2.2.2.1 y c (hsub y c e)⟩,I.bs,Nat.le_trans I.ok.bsz I.sz,fun b o e hb=>?_,fun b hb z=>?_,I.stack,I.stkFree⟩,
   rfl,I.bare,Un.kept hk,⟨m,hns,fun i y v e1 e2 e3=>?_⟩,fun y c e=>?_,fresh,fun y c e=>I.freeC y c (hsub y c e),fun p hp=>absurd (show p∈([]:List (Addr×Obj)) from hp) (by simp),I.hok.kept hk,?_⟩
 . rcases (hfp b hb).2.2.2.1 with z|z
   . exact I.ok.noex b o e z
   . exact absurd (Nat.lt_of_lt_of_le (Heap.lt_size e) (Nat.le_trans I.ok.bsz z)) (Nat.lt_irrefl _)
 . rcases List.mem_cons.mp (I.stkSub b z) with q|q
   . exact (hfp b hb).2.1 q
   . exact (hfp b hb).2.2.1 q
 . cases i with
   | zero =>
     have e2':(some none:Option (Option V))=some (some v):=e2
     cases e2'
   | succ i =>
     have e2':(bo σ ix)[i]? = some (some v):=by simpa using e2
     unfold bo at e2'
     rw[List.getElem?_map] at e2'
     cases q:ix[i]? with
     | none=>rw[q] at e2';cases e2'
     | some j =>
       rw[q] at e2'
       have e3':(σ[j]?).getD none=some v:=by simpa using e2'
       have e4:σ[j]? = some (some v):=by
         cases q2:σ[j]? with
         | none=>rw[q2] at e3';cases e3'
         | some w=>rw[q2] at e3';simpa using e3'
       obtain⟨y',hy,hc,hr⟩:=hix j (List.mem_of_getElem? q)
       have ey:y'=y:=by
         have e1':N[i+1]? = some y:=e1
         rw[hN,List.getElem?_cons_succ,List.getElem?_map,q] at e1'
         have:=Option.some.inj e1'
         simpa [hy] using this
       subst ey
       obtain⟨m0,hn0,hl0⟩:=I.loc
       obtain⟨u,r,l⟩:=hl0 j y' v hy e4 (.inr (.inl hc))
       refine⟨u,r,.inr ⟨.inl hr,?_⟩⟩
       rcases l with⟨k,_⟩|⟨_,c,ec,ic⟩
       . rw[hc] at k;cases k
       . obtain⟨c',ec'⟩:=hhas y' (.inl hr)
         have:=hsub y' c' ec'
         rw[ec] at this;cases this
         obtain⟨o,ho,hd⟩:=ic
         exact⟨c,ec',o,hk c o ho,hd⟩
 . obtain⟨v,o,ho,hd⟩:=I.cell y c (hsub y c e)
   exact⟨v,o,hk c o ho,hd⟩
 . show (none::bo σ ix).length=N.length
   rw[hN]
   simp[bo]
theorem ud {elt iter:Expr}{x:Str}{px pos p0:Pos}{ifs:List Expr}{sc:Scope}{cl:List (Str×Addr)}{ix:List Nat}{wi:TI}{tc:TT}{te:TE}(N:List Str)
   (hc:X.calm=true) (hi:PI X (.Name x px) iter wi) (hif:∀s H C ex,PTs (blk X N s H sc cl C ex) ifs tc) (he:∀s H C ex,PE (blk X N s H sc cl C ex) elt te)
   (hkind:sc.kind=.function) (hN:N=x::ix.map fun j=>(X.N[j]?).getD "") (hnd:N.Nodup) (hx:sc.names.lookup x=some .local)
   (hcl:closureFor sc X.env=pure cl) (hcell:∀y∈sc.names,y.2≠.cell) (hnames:∀y∈sc.names,y.2=.local->sc.names.lookup y.1=some .local)
   (hsub:∀y c,cl.lookup y=some c->X.env.cells.lookup y=some c) (hhas:∀y,((relabel sc X.env).names.lookup y=some .cell\/(relabel sc X.env).names.lookup y=some .free)->∃c,cl.lookup y=some c)
   (hix:∀j∈ix,∃y,X.N[j]? = some y/\X.env.kindOf y=some .cell/\(relabel sc X.env).names.lookup y=some .cell)
   (hs:∀x,foldedSetIterable iter X.env x=pure x)
   {use:Option (Value->Sem Unit)} {RP:Value->Shared->Prop} {Q:VK} {pins:List (Addr×Obj)} {s:Shared} {σ:St} {H:Hp} (I:Inv X pins σ H s) (h:kx ix wi tc te σ H Q)
   (hfin:∀(D C:Addr) (s6:Shared) (H5:Hp) (mm:Str->Option Value),Inv X pins σ H5 s6->s6.heap.Ns C mm->H5 C=none->C≠X.env.locals->(∀z c,X.env.cells.lookup z=some c->c≠C)->X.s₀.heap.objs.size<=C->(∀p∈X.pn++pins,p.1≠C)->Q (.ref D) H5->compPost (model X.prog X.w) X.A X.xe use RP (.ref D) C (.ok .next) s6) :
   wpAny (model X.prog X.w) X.A (comprehension (.ListComp elt [⟨.Name x px,iter,ifs,0⟩] sc pos) sc X.env p0 (newList []) false (eval iter X.env) use) RP X.xe s:=by
 refine wpAny_comprehension_free (use:=use) rfl hs hcl hkind hnames (thn (hi pins s σ H _ I h) fun v s1 h1=>thn h1 fun itv s2 h2=>?_)
 obtain⟨it,fp,tn,J,H2,e,I2,T,st2,f2,q2⟩:=h2
 subst e
 have fr2:H2 s2.heap.objs.size=none:=I2.hok.fresh (Nat.le_refl _)
 obtain⟨W,⟨m0,w0⟩,turn⟩:=q2 s2.heap.objs.size fr2
 refine wpAny_newObj_type ?_
 have I3:Inv X pins σ (upd H2 s2.heap.objs.size (.lst [])) { s2 with heap:=s2.heap.push { cls:=.type "list",dict:=none,data:=.seq ([]:List Value).toArray } }:=by
   exact I2.lnew (its:=[]) (ys:=[]) (t':=s2.toks) .nil (Nat.zero_le _)
 have lt2:∀b∈fp,b<s2.heap.objs.size:=fun b hb=>by
   obtain⟨o,ho,_⟩:=T.obj _ _ st2 b hb
   exact Heap.lt_size ho
 have f3:∀b∈fp,FpOk X pins (upd H2 s2.heap.objs.size (.lst [])) b:=fun b hb=>⟨by rw[ac (Nat.ne_of_lt (lt2 b hb))];exact (f2 b hb).1,(f2 b hb).2⟩
 generalize hs3:({ s2 with heap:=s2.heap.push { cls:=.type "list",dict:=none,data:=.seq ([]:List Value).toArray } }:Shared)=s3 at I3
 have hsz3:s2.heap.objs.size<=s3.heap.objs.size:=by rw[<- hs3];show _<=(s2.heap.push _).objs.size;rw[Heap.size_push];exact Nat.le_succ _
 have tn3:tn 0 s3.heap:=T.keep _ _ _ st2 fun b _ o e=>by rw[<- hs3];exact Heap.get?_push_of_some _ e
 have lt3:∀b∈fp,b<s3.heap.objs.size:=fun b hb=>Nat.lt_of_lt_of_le (lt2 b hb) hsz3
 refine wpAny_newFunctionEnv hcell (by intro y hy;simp at hy) (fun h4 hns4 hsb4=>?_) hkind
 have old:∀b o,s3.heap.get? b=some o->h4.get? b=some o:=fun b o e=>hsb4.extBut b o (Nat.ne_of_lt (Heap.lt_size e)) (Heap.get?_push_of_some _ e)
 have I4:=a8c (m:=_) (tk:=s3.toks+([]:List (Str×Value)).length) (N:=N) I3 hkind hN hsub hhas hix f3 lt3 hns4 old
 have tn4:tn 0 h4:=T.keep _ _ _ tn3 fun b _ o e=>old b o e
 have fpB:∀{H':Hp},(∀b∈fp,H' b=none)->∀b∈fp,FpOk (blk X N s3 (upd H2 s2.heap.objs.size (.lst [])) sc cl s3.heap.objs.size fp) [] H' b:=fun {H'} hn b hb =>
   ⟨hn b hb,Nat.ne_of_lt (lt3 b hb),I4.ok.exfs b hb,.inl hb,fun y c e=>(I4.ok.exf b hb).2 y c e,fun p hp=>absurd (show p∈([]:List (Addr×Obj)) from hp) (by simp)⟩
 have loop:codeAny (model X.prog X.w) X.A (.compLoop (.ListComp elt [⟨.Name x px,iter,ifs,0⟩] sc pos) 0 (.ref it) (.ref s2.heap.objs.size) (compEnvC sc cl s3.heap.objs.size X.env))
     (compPost (model X.prog X.w) X.A X.xe use RP (.ref s2.heap.objs.size) s3.heap.objs.size) { s3 with heap:=h4,toks:=s3.toks+([]:List (Str×Value)).length }:=by
   refine ng (fun n s'=>∃i v0 H',Inv (blk X N s3 (upd H2 s2.heap.objs.size (.lst [])) sc cl s3.heap.objs.size fp) [] (v0::bo σ ix) H' s'/\tn i s'.heap/\(∀b∈fp,H' b=none)/\W i n H') ?_ m0
     ⟨0,none,_,I4,tn4,fun b hb=>(f3 b hb).1,w0⟩
   rintro n s5 ⟨i,v0,H5,I5,st5,fr5,w5⟩
   rcases turn i n H5 w5 with⟨stop,qn⟩|⟨go,step⟩
   . refine thn (T.done (blk X N s3 (upd H2 s2.heap.objs.size (.lst [])) sc cl s3.heap.objs.size fp) rfl rfl rfl hc i [] s5 _ H5 _ I5 (fpB fr5) st5 stop) fun r s6 ⟨hr,I6⟩=>?_
     subst hr
     obtain⟨mm,hm,_⟩:=I6.loc
     have I7:Inv X pins σ H5 s6:=by
       have hC:H5 s3.heap.objs.size=none:=I6.free
       have hc3:s3.heap.get? s3.heap.objs.size=none:=Heap.get?_none_of_le (Nat.le_refl _)
       have up:∀b o,b≠s3.heap.objs.size->s6.heap.get? b=some o->s6.heap.get? b=some o:=fun b o hb e=>e
       have neC:∀b o,s3.heap.get? b=some o->b≠s3.heap.objs.size:=fun b o e=>Nat.ne_of_lt (Heap.lt_size e)
       have u:=I6.base
       refine I3.call' (s':=s6) (ch:=fp) I6.os ⟨fun b o e n hb hx=>?_,fun b o e n hb hx=>?_,fun b o e n hx=>u.free b o e n hx,fun b o e hx=>?_,u.tups,u.frzs,u.tbls⟩ (fun b o e=>?_) I6.bare fun b hb=>⟨(f3 b hb).2.2.2.1,(f3 b hb).2.1,(f3 b hb).2.2.2.2.1,(f3 b hb).2.2.2.2.2⟩
       . exact up b o (neC b o e) (u.keep b o e n hb hx)
       . obtain⟨sl,e1⟩:=u.slot b o e n hb hx
         exact⟨sl,up b _ (neC b o e) e1⟩
       . obtain⟨o',e1⟩:=u.there b o e hx
         exact⟨o',up b _ (neC b o e) e1⟩
       . refine (I6.hok b o e).stay (fun c v hc' q=>up c v ?_ q) (fun _ q=>q) fun _ _ q=>q
         rintro rfl
         rcases hc' with z|z
         . rw[<- z,hC] at e;cases e
         . rw[hC] at z;cases z
     have hCn:H5 s3.heap.objs.size=none:=I6.free
     have hCl:s3.heap.objs.size≠X.env.locals:=Nat.ne_of_gt I3.lt
     have hCc:∀z c,X.env.cells.lookup z=some c->c≠s3.heap.objs.size:=fun z c e e2=>by
       obtain⟨v',q⟩:=I3.cell z c e
       exact absurd (e2 ▸ q.lt) (Nat.lt_irrefl _)
     exact hfin _ _ s6 H5 mm I7 hm hCn hCl hCc I3.sz (fun p hp e2=>absurd (e2 ▸ Heap.lt_size (I3.pin p hp).1) (Nat.lt_irrefl _)) qn
   . refine thn (T.item (blk X N s3 (upd H2 s2.heap.objs.size (.lst [])) sc cl s3.heap.objs.size fp) rfl rfl rfl hc i [] s5 _ H5 _ I5 (fpB fr5) st5 go) fun r s6 ⟨u,hr,h6⟩=>?_
     subst hr
     refine thn h6 fun _ s7 ⟨y,H7,I7,r7,y7,st7,fr7⟩=>?_
     have I7':=I7.pinned (fpB fr7) (T.obj _ _ st7)
     refine wpAny_assign_Name (o9 (i:=0) I7' hnd (by show N[0]? = some x;rw[hN];rfl) (.inl (lookup_relabel_local hx)) r7 (fun s8 I8=>?_) (.inr (lookup_relabel_local hx)))
     have I8':Inv (blk X N s3 (upd H2 s2.heap.objs.size (.lst [])) sc cl s3.heap.objs.size fp) ([]++il fp s7.heap) (some y::bo σ ix) H7 s8:=I8
     refine thn (hif _ _ _ _ _ s8 _ H7 _ I8' (step y H7 y7)) fun ok s9 ⟨H9,I9,q9⟩=>?_
     have again:∀{H':Hp} {s':Shared} {m':Nat},Inv (blk X N s3 (upd H2 s2.heap.objs.size (.lst [])) sc cl s3.heap.objs.size fp) ([]++il fp s7.heap) (some y::bo σ ix) H' s'->m'<n->W (i+1) m' H'->
         ∃m,m<n/\∃i v0 H',Inv (blk X N s3 (upd H2 s2.heap.objs.size (.lst [])) sc cl s3.heap.objs.size fp) [] (v0::bo σ ix) H' s'/\tn i s'.heap/\(∀b∈fp,H' b=none)/\W i m H':=fun {H' s' m'} Ia hm wa=>by
       refine⟨m',hm,i+1,some y,H',Ia.unpinned,T.keep _ _ _ st7 fun b hb o e=>(Ia.pin (b,o) (List.mem_append_right _ (List.mem_append_right _ (fw hb e)))).1,fun b hb=>?_,wa⟩
       obtain⟨o,e,d⟩:=T.obj _ _ st7 b hb
       exact (Ia.pin (b,o) (List.mem_append_right _ (List.mem_append_right _ (fw hb e)))).2.1
     cases ok with
     | false =>
       rw[if_neg Bool.false_ne_true] at q9 |-
       obtain⟨m',hm,wa⟩:=q9
       exact again I9 hm wa
     | true =>
       rw[if_pos rfl] at q9 |-
       refine thn (he _ _ _ _ _ s9 _ H9 _ I9 q9) fun v10 s10 ⟨z,H10,I10,r10,ys,hD,hl,m',hm,wa⟩=>?_
       exact thn (i4 _ s10 _ H10 (.ref s2.heap.objs.size) [z] (.ref s2.heap.objs.size) [v10] (fun _ H'=>H'=upd H10 s2.heap.objs.size (.lst (ys++[z]))) I10 rfl (.cons r10 .nil) ⟨_,ys,z,rfl,rfl,hD,hl,rfl⟩)
         fun _ s11 ⟨_,H11,I11,_,e11⟩=>again I11 hm (by rw[e11];exact wa)
 subst hs3
 exact codeAny_compStart_list loop (T.self _ 0 _ _ _ tn4 loop)
theorem yp {elt iter:Expr}{x:Str}{px pos:Pos}{ifs:List Expr}{sc:Scope}{cl:List (Str×Addr)}{ix:List Nat}{wi:TI}{tc:TT}{te:TE}(N:List Str)
   (hc:X.calm=true) (hi:PI X (.Name x px) iter wi) (hif:∀s H C ex,PTs (blk X N s H sc cl C ex) ifs tc) (he:∀s H C ex,PE (blk X N s H sc cl C ex) elt te)
   (hkind:sc.kind=.function) (hN:N=x::ix.map fun j=>(X.N[j]?).getD "") (hnd:N.Nodup) (hx:sc.names.lookup x=some .local)
   (hcl:closureFor sc X.env=pure cl) (hcell:∀y∈sc.names,y.2≠.cell) (hnames:∀y∈sc.names,y.2=.local->sc.names.lookup y.1=some .local)
   (hsub:∀y c,cl.lookup y=some c->X.env.cells.lookup y=some c) (hhas:∀y,((relabel sc X.env).names.lookup y=some .cell\/(relabel sc X.env).names.lookup y=some .free)->∃c,cl.lookup y=some c)
   (hix:∀j∈ix,∃y,X.N[j]? = some y/\X.env.kindOf y=some .cell/\(relabel sc X.env).names.lookup y=some .cell)
   (hs:∀x,foldedSetIterable iter X.env x=pure x:=by intro _;rfl) :
   PE X (.ListComp elt [⟨.Name x px,iter,ifs,0⟩] sc pos) (kx ix wi tc te):=by
 intro pins s σ H Q I h
 rw[eval_ListComp]
 exact ud N hc hi hif he hkind hN hnd hx hcl hcell hnames hsub hhas hix hs I h fun D C s6 H5 mm I7 hm hCn hCl hCc hsz hpin qn =>
   ⟨mm,hm,fun h7 sb7=>⟨.ref D,H5,I7.turned (t':=s6.toks) (it:=C) (fun b o hb e=>sb7.extBut b o hb e) hCn hCl (.inr hsz) hCc hpin,rfl,qn⟩⟩
end
noncomputable def Its (x:Str):It:=⟨fun i _=>i<x.cps.size,fun i H v H'=>H'=H/\∃c,x.cps[i]? = some c/\v=.str ⟨#[c]⟩,fun i _=>x.cps.size<=i⟩
theorem a4r {P:Program}{w:World}{K:PySem.W.Frag}{tg:Expr}{x:Str}{t:Tok}(it:Addr) (T:String) (hT:T = "str_ascii_iterator" \/ T = "str_iterator"):Turn P w K tg (Its x) [it] it (fun i h=>h.IsStrIter it T x t i/\i<=x.cps.size) where
 mem:=by simp
 obj:=fun i h st b hb=>by
   have e:b=it:=by simpa using hb
   subst e
   obtain⟨⟨o,e,c,d⟩,_⟩:=st
   exact⟨o,e,fun v z=>by rw[d] at z;cases z⟩
 keep:=fun i h h' st k=>⟨let ⟨o,ho,r⟩:=st.1;⟨o,k it (by simp) o ho,r⟩,st.2⟩
 item:=by
   intro X hP hw hK hc i pins s σ H E I hf st hg
   subst hP hw hK
   obtain⟨f0,f1,f2,f3,f4,f5⟩:=hf it (by simp)
   have hi:i<x.cps.size:=hg
   have fin:∀h',h'.IsStrIter it T x t (i+1)->(∀b o,b≠it->s.heap.get? b=some o->h'.get? b=some o)->∀u:Tok,∃uv,some (Value.str ⟨#[x.cps[i]]⟩ u)=some uv/\
       wpAny (model X.prog X.w) X.A (letOwnedTupleGo tg (.ref it) uv) (fun _ s2=>∃v H',Inv X pins σ H' s2/\RelV v uv/\(Its x).yld i H v H'/\(s2.heap.IsStrIter it T x t (i+1)/\i+1<=x.cps.size)/\∀b∈[it],H' b=none) E { s with heap:=h',toks:=s.toks+1 }:=fun h' st' kk u=>by
     have I1:Inv X pins σ H { s with heap:=h',toks:=s.toks+1 }:=I.turned (fun b o hb e=>kk b o hb e) f0 f1 f3 f4 f5
     obtain⟨o,e,c,d⟩:=id st'
     refine⟨_,rfl,qo (s:={ s with heap:=h',toks:=s.toks+1 }) e c d (by rcases hT with rfl|rfl<;>decide) ⟨.str ⟨#[x.cps[i]]⟩,H,I1,⟨u,rfl⟩,⟨rfl,_,by simp[hi],rfl⟩,⟨st',hi⟩,fun b hb=>?_⟩⟩
     exact (hf b hb).1
   rcases hT with rfl|rfl
   . exact wpAny_pyNext_ascii_item st.1 (c:=x.cps[i]) (by simp[hi]) fun h' hit' hs'=>fin h' hit' (fun b o hb e=>hs'.extBut b o hb e) _
   . exact wpAny_pyNext_wide_item st.1 (c:=x.cps[i]) (by simp[hi]) fun h' hit' hs'=>fin h' hit' (fun b o hb e=>hs'.extBut b o hb e) _
 done:=by
   intro X hP hw hK hc i pins s σ H E I hf st hg
   subst hP hw hK
   obtain⟨f0,f1,f2,f3,f4,f5⟩:=hf it (by simp)
   have hi:x.cps.size<=i:=hg
   rcases hT with rfl|rfl
   . exact wpAny_pyNext_ascii_end (I.ok.hd hc) st.1 (by simp;omega) fun h' eb=>⟨rfl,I.turned (t':=s.toks) (fun b o hb e=>eb b o hb e) f0 f1 f3 f4 f5⟩
   . exact wpAny_pyNext_wide_end (I.ok.hd hc) st.1 (by simp;omega) fun h' eb=>⟨rfl,I.turned (t':=s.toks) (fun b o hb e=>eb b o hb e) f0 f1 f3 f4 f5⟩
 self:=fun _ _ _ _ _ st h=>by
   rcases hT with rfl|rfl
   . exact wpAny_pyIter_striter_ascii st.1 h
   . exact wpAny_pyIter_striter_wide st.1 h
section
variable {X:Cx}{tg:Expr}
noncomputable def iStr (tl:TE):TI:=fun σ H R=>tl σ H fun x H1=>∃z,x=.str z/\R (Its z) H1
theorem a90 {l:Expr}{tl:TE}(hl:PE X l tl):PI X tg l (iStr tl):=by
 intro pins s σ H R I h
 refine thn (hl pins s σ H _ I h) fun v s1 ⟨x,H1,I1,r1,q1⟩=>?_
 obtain⟨z,e,q⟩:=q1
 subst e
 obtain⟨t,rfl⟩:=r1
 have fin:∀(o:Obj) (T:String),(T = "str_ascii_iterator" \/ T = "str_iterator")->(s1.heap.push o).IsStrIter s1.heap.objs.size T z t 0->PIE X pins σ tg R (.ref s1.heap.objs.size) { s1 with heap:=s1.heap.push o }:=fun o T hT hs=>by
   refine⟨s1.heap.objs.size,[s1.heap.objs.size],_,_,H1,rfl,I1.kept (t':=s1.toks) fun b o e=>Heap.get?_push_of_some _ e,a4r (x:=z) (t:=t) _ T hT,⟨hs,Nat.zero_le _⟩,fun b hb=>?_,q⟩
   have e:b=s1.heap.objs.size:=by simpa using hb
   subst e
   exact I1.fpOk (Nat.le_refl _) (I1.hok.fresh (Nat.le_refl _))
 cases ha:z.cps.all (· < 128)
 . exact wpAny_pyIter_wide ha (fin _ _ (.inr rfl) ⟨_,Heap.get?_push_size _ rfl,rfl,rfl⟩)
 . exact wpAny_pyIter_ascii ha (fin _ _ (.inl rfl) ⟨_,Heap.get?_push_size _ rfl,rfl,rfl⟩)
theorem a4v (hc:X.calm=true):cf X (.builtin "all") (fun xs H Q=>∃(a:Addr) (bs:List Bool),xs=[.ref a]/\SqL X.K H a (bs.map V.bl)/\Q (.bl (bs.all id)) H):=by
 intro pins s σ H xs us Q I r h
 obtain⟨a,bs,rfl,hq,q⟩:=h
 obtain⟨u,rfl,ru⟩:=r.one
 cases ru
 obtain⟨its,rv,p,hz⟩:=I.list hq
 have hlt:a<s.heap.objs.size:=by obtain⟨o,n,e,_⟩:=p;exact Heap.lt_size e
 refine call_all_walk (wpAny_pyIter_list p.isList ?_)
 have len:bs.length=its.length:=by have:=rv.length;simpa using this
 refine⟨s.heap.objs.size,_,_,_,_,_,fun i=>(bs[i]?).getD false,rfl,Walks.list (A:=X.A.in1) (show X.A.in1.handled=none from I.ok.hd hc) s.heap.objs.size a (Nat.ne_of_lt hlt) its.toArray,⟨⟨_,Heap.get?_push_size _ rfl,rfl,rfl⟩,p.isList.at fun o e=>Heap.get?_push_of_some _ e⟩,?_,?_⟩
 . intro i v s' Q' E' hv hQ
   have hv':its[i]? = some v:=by simpa using hv
   cases hb:bs[i]? with
   | none =>
     have h1:=List.getElem?_eq_none_iff.mp hb
     have h2:=(List.getElem?_eq_some_iff.mp hv').1
     omega
   | some b =>
     obtain⟨u,hu,ru⟩:=rv.get (i:=i) (x:=V.bl b) (by rw[List.getElem?_map,hb]<;>rfl)
     rw[hv'] at hu
     cases hu
     cases ru
     simp only[hb,Option.getD_some] at hQ
     exact wpAny_truthy_bool hQ
 . intro h' tk hk
   have e:(List.range its.toArray.size).all (fun i=>(bs[i]?).getD false)=bs.all id:=by
     rw[List.size_toArray,<- len]
     rw[Bool.eq_iff_iff]
     simp only[List.all_eq_true,List.mem_range,id]
     constructor
     . intro h b hb
       obtain⟨i,hi,e⟩:=List.mem_iff_getElem.mp hb
       have:=h i hi
       rw[List.getElem?_eq_getElem hi,Option.getD_some,e] at this
       exact this
     . intro h i hi
       rw[List.getElem?_eq_getElem hi,Option.getD_some]
       exact h _ (List.getElem_mem hi)
   have fr:FpOk X pins H s.heap.objs.size:=I.fpOk (Nat.le_refl _) (I.hok.fresh (Nat.le_refl _))
   refine⟨.bl (bs.all id),H,?_,by rw[e];rfl,q⟩
   have I1:Inv X pins σ H { s with heap:=h',toks:=tk }:=I.kept (h':=h') (t':=tk) fun b o e=>hk b o (fun z=>by
     have:b=s.heap.objs.size:=by simpa using z
     exact absurd (Heap.lt_size e) (by rw[this];exact Nat.lt_irrefl _)) (Heap.get?_push_of_some _ e)
   exact I1
theorem su:cf X (.builtin "isinstance") (fun xs H Q=>∃a ys,xs=[.ref a,.ty "tuple"]/\SqT X.K H a ys/\Q (.bl true) H):=by
 intro pins s σ H xs us Q I r h
 obtain⟨a,ys,rfl,hq,q⟩:=h
 cases r with
 | cons r1 r =>
   cases r with
   | cons r2 r =>
     cases r
     cases r1
     cases r2
     obtain⟨its,rv,p,hz⟩:=I.tuple hq
     obtain⟨o,e,hc,_⟩:=p
     exact IsiPair.tuple_tuple e hc ⟨.bl true,H,I,rfl,q⟩
theorem vi:cf X (.builtin "isinstance") (fun xs H Q=>∃z,xs=[.str z,.ty "str"]/\Q (.bl true) H):=by
 intro pins s σ H xs us Q I r h
 obtain⟨z,rfl,q⟩:=h
 cases r with
 | cons r1 r =>
   cases r with
   | cons r2 r =>
     cases r
     obtain⟨t,rfl⟩:=r1
     cases r2
     exact IsiPair.str_str ⟨.bl true,H,I,rfl,q⟩
end
theorem a0t (t:SetTable) (es:Array (Int×Value)) (h:Int) (x:Value):(layNew t es h x).2.1.led=t.led:=by
 unfold layNew
 split
 . dsimp only
   unfold SetTable.orStandIn
   split<;>rfl
 . rfl
theorem ln {t t':SetTable}{hs:Array Int}{n:Nat}{o:Array Nat}(h:t.relaid hs n=some (t',o)):t'.led=t.led/\t'.plain=t.plain:=by
 unfold SetTable.relaid SetTable.laid at h
 cases e:SetTable.layClean (SetTable.sizeAbove n - 1) hs with
 | none=>rw[e] at h;cases h
 | some ow =>
   rw[e] at h
   have h':=Option.some.inj h
   cases h'
   exact⟨rfl,rfl⟩
theorem wp (t:SetTable) (es:Array (Int×Value)) (n:Nat):(relayAll t es n).2.1.led=t.led:=by
 unfold relayAll
 split
 . rename_i t' o e
   dsimp only
   split
   . exact (ln e).1
   . rfl
 . rfl
theorem sn (t:SetTable) (es:Array (Int×Value)) (n:Nat) (hp:(relayAll t es n).2.1.plain=true):t.plain=true:=by
 unfold relayAll at hp
 split at hp
 . rename_i t' o e
   dsimp only at hp
   split at hp
   . rw[<- (ln e).2];exact hp
   . cases hp
 . cases hp
noncomputable def gc:Value->Str
 | .str x _=>x
 | _=>⟨#[]⟩
noncomputable def SSet (P:Program) (w:World) (h:Heap) (a:Addr) (ss:List Str):Prop :=
 ∃o es ep t,h.get? a=some o/\o.ExactSet/\o.data=.set es ep t/\ElemsOf (strKind P w) es.toList/\es.toList.map (fun e=>gc e.2)=ss/\ss.Nodup/\es.size<scanBound/\t.fits es.size=true/\
   t.led = !w.params.followText "set-order" /\ (1<=es.size->t.plain=false)
theorem a1k {P:Program}{w:World}{x:Str}{v:Value}(h:(strKind P w).is x v=true):∃u,v=.str x u:=Value.isStrOf_shape h
theorem ue {P:Program}{w:World}{l:List (Int×Value)}(h:ElemsOf (strKind P w) l) {e:Int×Value}(he:e∈l):∃u,e.2=.str (gc e.2) u:=by
 obtain⟨⟨k,hk,_⟩,_⟩:=h e he
 obtain⟨u,hu⟩:=a1k hk
 exact⟨u,by rw[hu];rfl⟩
theorem a5j {P:Program}{w:World}{l:List (Int×Value)}(h:ElemsOf (strKind P w) l) (x:Str):(l.findIdx? (fun e=>(strKind P w).is x e.2)).isSome=decide (x∈l.map fun e=>gc e.2):=by
 rw[Bool.eq_iff_iff,List.findIdx?_isSome,List.any_eq_true,decide_eq_true_eq,List.mem_map]
 constructor
 . rintro⟨e,he,hk⟩
   obtain⟨u,hu⟩:=a1k hk
   exact⟨e,he,by rw[hu];rfl⟩
 . rintro⟨e,he,rfl⟩
   obtain⟨u,hu⟩:=ue h he
   refine⟨e,he,?_⟩
   rw[hu]
   exact strKind_is _ _ _ _
section
variable {P:Program}{w:World}{A:Around}{E:Value->Shared->Prop}{s:Shared}
theorem a5o {a:Addr}{ss:List Str}{x:Str}{u:Tok}{Q:Bool->Shared->Prop}(hS:SSet P w s.heap a ss) (hroom:ss.length+1<scanBound)
   (h:∀h' ss' b,Heap.SameBut a s.heap h'->SSet P w h' a ss'->(if x∈ss then ss'=ss else ss'.Perm (ss++[x]))->Q b { s with heap:=h' }) :
   wpAny (model P w) A (setAddHashed a (.str x u) (hashStr w x)) Q E s:=by
 obtain⟨o,es,ep,t,ho,hex,hd,hel,hss,hnd,hb,hf,hled,hpl⟩:=hS
 have hkey:(strKind P w).is x (.str x u)=true:=strKind_is _ _ _ _
 have hn:es.size=ss.length:=by rw[<- hss,List.length_map,Array.length_toList]
 unfold setAddHashed setAddHashedIn
 refine wpAny_holding (wpAny_bind (wpAny_setState_of ho hd hf ?_))
 dsimp only
 rw[byScan_of (knd:=strKind P w) rfl hb hel]
 simp only[↓reduceIte]
 unfold setAddByScan
 refine wpAny_bind ?_
 refine wpAny_bind (wpAny_rule ?_)
 refine wpAny_bind (wpAny_setScan_of (knd:=strKind P w) hkey ho hd hf hel ?_)
 have hfm:=a5j hel x
 rw[hss] at hfm
 cases hr:List.findIdx? (fun e=>(strKind P w).is x e.2) es.toList with
 | some j =>
   dsimp only
   rw[hr] at hfm
   have hx:x∈ss:=of_decide_eq_true (Eq.symm hfm)
   refine wpAny_pure (wpAny_pure ?_)
   have:=h s.heap ss false (Heap.SameBut.refl a s.heap) ⟨o,es,ep,t,ho,hex,hd,hel,hss,hnd,hb,hf,hled,hpl⟩ (by rw[if_pos hx])
   exact this
 | none =>
   dsimp only
   rw[hr] at hfm
   have hx:x∉ss:=of_decide_eq_false (Eq.symm hfm)
   have hgw:∀(b:Bool) {s₁:Shared} {Q':Unit->Shared->Prop},Q' () s₁->wpAny (model P w) A (match b with|true=>rule "set.scan.the-table-gave-way" | false=>pure ()) Q' E s₁ :=
     fun b s₁ Q' hq=>by cases b<;>first|exact wpAny_pure hq|exact wpAny_rule hq
   have hperm:=layNew_perm t es (hashStr w x) (.str x u)
   have hfits:=layNew_fits t es (hashStr w x) (.str x u)
   have hled1:=a0t t es (hashStr w x) (.str x u)
   show wpAny (model P w) A _ _ E s
   have hash:(strKind P w).hash x=hashStr w x:=rfl
   try rw[hash]
   generalize hL:layNew t es (hashStr w x) (.str x u)=L at hperm hfits hled1 |-
   obtain⟨es1,t1,wasDummy,gave⟩:=L
   dsimp only at hperm hfits hled1 |-
   rw[Array.toList_push] at hperm
   have hel1:ElemsOf (strKind P w) es1.toList:=(ElemsOf.push (knd:=strKind P w) hel hkey rfl).perm hperm
   have hss1:(es1.toList.map fun e=>gc e.2).Perm (ss++[x]):=by
     have:=hperm.map (fun e:Int×Value=>gc e.2)
     rw[List.map_append,hss] at this
     exact this
   have hsz1:es1.size=ss.length+1:=by rw[<- Array.length_toList,hperm.length_eq,List.length_append,Array.length_toList,hn];rfl
   have hb1:es1.size<scanBound:=by rw[hsz1];exact hroom
   have hnd1:(es1.toList.map fun e=>gc e.2).Nodup:=by
     refine hss1.nodup_iff.mpr ?_
     rw[List.nodup_append]
     exact⟨hnd,by simp,fun y hy z hz e=>by rw[List.mem_singleton.mp hz] at e;exact hx (e ▸ hy)⟩
   refine wpAny_bind (hgw _ ?_)
   have tail:∀t2:SetTable,t2.fits es1.size=true->t2.led=t.led->t2.plain=false->∀(g:Bool->Sem Unit),(∀(b:Bool) (s₁:Shared) (Q':Unit->Shared->Prop),Q' () s₁->wpAny (model P w) A (g b) Q' E s₁)->
       wpAny (model P w) A (do
         storeSet a es1 t2
         if (!wasDummy && t2.tooFull)=true then do
             g (relayAll t2 es1 (SetTable.grown es1.size)).2.2
             storeSet a (relayAll t2 es1 (SetTable.grown es1.size)).1 (relayAll t2 es1 (SetTable.grown es1.size)).2.1
             pure (some true)
           else pure (some true)) (fun r s'=>r=some true/\∃h' ss',s'={ s with heap:=h' }/\Heap.SameBut a s.heap h'/\SSet P w h' a ss'/\ss'.Perm (ss++[x])) E s:=by
     intro t2 hf2 hl2 hp2 g hg
     refine wpAny_bind (wpAny_storeSet_of ho hd ?_ (fits_of_scanBound hb1))
     have ho1:(s.heap.update a (Obj.putSet es1 t2)).get? a=some { o with data:=.set es1 (ep+1) t2 }:=by
       have:=Heap.get?_update_self (Obj.putSet es1 t2) ho (by rw[putSet_of es1 t2 hd];rfl)
       rw[putSet_of es1 t2 hd] at this;exact this
     have hsb1:=Heap.SameBut.update s.heap a (Obj.putSet es1 t2)
     split
     . have hp:=relayAll_perm t2 es1 (SetTable.grown es1.size)
       have hfr:=relayAll_fits t2 es1 (SetTable.grown es1.size)
       have hlr:=wp t2 es1 (SetTable.grown es1.size)
       have hpr:=sn t2 es1 (SetTable.grown es1.size)
       generalize hRl:relayAll t2 es1 (SetTable.grown es1.size)=Rl at hp hfr hlr hpr |-
       obtain⟨es2,t3,gave2⟩:=Rl
       dsimp only at hp hfr hlr hpr |-
       have hsz:es2.size=es1.size:=by rw[<- Array.length_toList,hp.length_eq,Array.length_toList]
       have hb2:es2.size<scanBound:=by rw[hsz];exact hb1
       refine wpAny_bind (hg _ _ _ ?_)
       refine wpAny_bind (wpAny_storeSet_of ho1 rfl ?_ (fits_of_scanBound hb2))
       have ho2:((s.heap.update a (Obj.putSet es1 t2)).update a (Obj.putSet es2 t3)).get? a=some { o with data:=.set es2 (ep+1+1) t3 }:=by
         have:=Heap.get?_update_self (Obj.putSet es2 t3) ho1 (by rw[putSet_of es2 t3 rfl];rfl)
         rw[putSet_of (o:={ o with data:=.set es1 (ep+1) t2 }) es2 t3 rfl] at this;exact this
       have hss2:=hp.map (fun e:Int×Value=>gc e.2)
       refine wpAny_pure ⟨rfl,_,es2.toList.map (fun e=>gc e.2),rfl,hsb1.trans (Heap.SameBut.update _ a _),⟨_,es2,ep+1+1,t3,ho2,hex,rfl,hel1.perm hp,rfl,hss2.nodup_iff.mpr hnd1,hb2,hfr,hlr.trans (hl2.trans hled),fun _=>?_⟩,hss2.trans hss1⟩
       cases hq:t3.plain with
       | false=>rfl
       | true=>rw[hpr hq] at hp2;cases hp2
     . exact wpAny_pure ⟨rfl,_,es1.toList.map (fun e=>gc e.2),rfl,hsb1,⟨_,es1,ep+1,t2,ho1,hex,rfl,hel1,rfl,hnd1,hb1,hf2,hl2.trans hled,fun _=>hp2⟩,hss1⟩
   have fin:∀s':Shared,(∃h' ss',s'={ s with heap:=h' }/\Heap.SameBut a s.heap h'/\SSet P w h' a ss'/\ss'.Perm (ss++[x]))->Q true s':=by
     rintro s' ⟨h',ss',rfl,hsb,hS',hp'⟩
     exact h h' ss' true hsb hS' (by rw[if_neg hx];exact hp')
   split
   . refine wpAny_bind ?_
     rw[hashByValue_scannable 8 (x:=.str x u) rfl]
     refine wpAny_pure ?_
     dsimp only[plainKind]
     simp only[Bool.false_eq_true,if_false]
     refine wpAny_mono (tail { t1 with plain:=false } (SetTable.fits_plain_off hfits) hled1 rfl _ ?_) (fun r s' hq=>?_) fun _ _ e=>e
     . intro b s₁ Q' hq;cases b<;>first|exact wpAny_pure hq|exact wpAny_rule hq
     . obtain⟨rfl,hq⟩:=hq
       exact wpAny_pure (fin s' hq)
   . rename_i hnp
     refine wpAny_bind (wpAny_pure ?_)
     simp only[↓reduceIte]
     refine wpAny_mono (tail t1 hfits hled1 (by simpa using hnp) _ ?_) (fun r s' hq=>?_) fun _ _ e=>e
     . intro b s₁ Q' hq;cases b<;>first|exact wpAny_pure hq|exact wpAny_rule hq
     . obtain⟨rfl,hq⟩:=hq
       exact wpAny_pure (fin s' hq)
end
inductive Dd:List Str->List Str->Prop
 | nil:Dd [] []
 | old {xs ss:List Str} {x:Str}:Dd xs ss->x∈ss->Dd (xs++[x]) ss
 | new {xs ss ss':List Str} {x:Str}:Dd xs ss->x∉ss->ss'.Perm (ss++[x])->Dd (xs++[x]) ss'
theorem Dd.mem {xs ss:List Str}(h:Dd xs ss):∀y,y∈ss↔y∈xs:=by
 induction h with
 | nil=>intro y;exact Iff.rfl
 | old d hx ih =>
   rename_i zs ss x
   intro y
   rw[ih y,List.mem_append,List.mem_singleton]
   constructor
   . exact .inl
   . rintro (q|rfl)
     . exact q
     . exact (ih y).mp hx
 | new d hx hp ih =>
   rename_i zs ss ss' x
   intro y
   rw[hp.mem_iff,List.mem_append,List.mem_append,ih y]
theorem Dd.nodup {xs ss:List Str}(h:Dd xs ss):ss.Nodup:=by
 induction h with
 | nil=>exact List.nodup_nil
 | old d hx ih=>exact ih
 | new d hx hp ih =>
   rename_i zs ss ss' x
   refine hp.nodup_iff.mpr (List.nodup_append.mpr ⟨ih,by simp,fun y hy z hz e=>?_⟩)
   rw[List.mem_singleton.mp hz] at e
   exact hx (e ▸ hy)
theorem Dd.len {xs ss:List Str}(h:Dd xs ss):ss.length<=xs.length:=by
 induction h with
 | nil=>exact Nat.le_refl _
 | old d hx ih=>rw[List.length_append];exact Nat.le_trans ih (Nat.le_add_right _ _)
 | new d hx hp ih=>rw[hp.length_eq,List.length_append,List.length_append];exact Nat.add_le_add_right ih _
theorem yr:∀{vs:List Value}{xs:List Str},StrsAre vs xs->∀(i:Nat) (v:Value),vs[i]? = some v->∃x t,xs[i]? = some x/\v=.str x t
 | _,_,.nil,i,v,h=>by simp at h
 | _,_,.cons x t r,0,v,h=>by simp at h;exact⟨x,t,rfl,h.symm⟩
 | _,_,.cons x t r,i+1,v,h=>by
   obtain⟨y,u,e1,e2⟩:=yr r i v (by simpa using h)
   exact⟨y,u,by simpa using e1,e2⟩
section
variable {P:Program}{w:World}{A:Around}{R:Result->Shared->Prop}{I:Addr}{fp wr:List Addr}{G:Array GenState->Array GenState->Prop}{n:Nat}{Pv:Nat->Value->Prop}{St:Nat->Shared->Prop}
theorem SSet.at {h h':Heap}{a:Addr}{ss:List Str}(hS:SSet P w h a ss) (k:∀o,h.get? a=some o->h'.get? a=some o):SSet P w h' a ss:=by
 obtain⟨o,es,ep,tb,ho,rest⟩:=hS
 exact⟨o,es,ep,tb,k o ho,rest⟩
theorem ou (W:WalksS P w A.in1 I fp wr G n Pv St) (S:Addr) (hSf:S∉fp) (xs:List Str) (hn:xs.length=n) (hval:∀i v,Pv i v->∃x t,xs[i]? = some x/\v=.str x t) (hb:n+1<scanBound) :
   ∀(k i:Nat) (s:Shared) (ss:List Str),n - i=k->i<=n->St i s->SSet P w s.heap S ss->Dd (xs.take i) ss->
     (∀s' ss',Moved (S::wr) G s s'->SSet P w s'.heap S ss'->Dd xs ss'->R (.ok (.ret .none)) s')->
     codeAny (model P w) A (.builtin "set.update.loop" ⟨[.ref S,.ref I],[]⟩) R s:=by
 have hSw:S∉wr:=fun h=>hSf (W.sub _ h)
 have hsub:∀b∈wr,b∈S::wr:=fun b hb=>List.mem_cons_of_mem _ hb
 intro k
 induction k with
 | zero =>
   intro i s ss hk hi hst hS hd hR
   have hin:i=n:=by omega
   subst hin
   refine codeAny_builtin PyProof.Rows.F.entry_set_update_loop ?_
   rw[Around.under_plainId PyProof.Rows.F.plain_set_update_loop _]
   show wpAny _ A.in1 (pyNext (.ref I) >>= _) _ _ s
   refine wpAny_bind (W.done s _ _ hst fun s' hm=>?_)
   show wpAny _ A.in1 (ret Value.none) _ _ s'
   refine wpAny_pure (hR s' ss (hm.mono hsub) (hS.at fun o e=>hm.heap S _ hSw e) ?_)
   rw[List.take_of_length_le (Nat.le_of_eq hn)] at hd
   exact hd
 | succ k ih =>
   intro i s ss hk hi hst hS hd hR
   have hlt:i<n:=by omega
   refine codeAny_builtin PyProof.Rows.F.entry_set_update_loop ?_
   rw[Around.under_plainId PyProof.Rows.F.plain_set_update_loop _]
   show wpAny _ A.in1 (pyNext (.ref I) >>= _) _ _ s
   refine wpAny_bind (W.item i s _ _ hlt hst fun v s' hP hst' hm=>?_)
   obtain⟨x,t,hx,rfl⟩:=hval i v hP
   have hS':SSet P w s'.heap S ss:=hS.at fun o e=>hm.heap S _ hSw e
   show wpAny _ A.in1 (holding [Value.str x t] (setAdd S (.str x t)) >>= _) _ _ s'
   refine wpAny_bind (wpAny_holding ?_)
   unfold setAdd
   refine wpAny_holding ?_
   refine wpAny_bind ((strKind P w).pyHash (k:=x) (strKind_is _ _ _ _) ?_)
   have hl:ss.length<=i:=by have:=hd.len;rw[List.length_take] at this;omega
   refine a5o (s:={ s' with toks:=s'.toks+1 }) hS' (by omega) fun h' ss' b hsb hS2 hss=>?_
   have hd':Dd (xs.take (i+1)) ss':=by
     have e:xs.take (i+1)=xs.take i++[x]:=by rw[List.take_add_one,hx];rfl
     rw[e]
     by_cases hm:x∈ss
     . rw[if_pos hm] at hss
       rw[hss]
       exact .old hd hm
     . rw[if_neg hm] at hss
       exact .new hd hm hss
   refine wpAny_pure ⟨plainId_quiet PyProof.Rows.F.plain_set_update_loop _,ih (i+1) _ ss' (by omega) hlt (W.frame _ s' _ _ hst' (Nat.le_succ _) fun b hb o e=>?_) hS2 hd' fun s'' ss'' hm'' hS'' hd''=>?_⟩
   . rw[hsb.2 b (fun h:b=S=>hSf (by rw[<- h];exact hb))];exact e
   . refine hR s'' ss'' (Moved.trans W.gtrans ((hm.mono hsub).then_heap (Nat.le_succ _) fun b o hb e=>?_) hm'') hS'' hd''
     rw[hsb.2 b (fun h:b=S=>hb (by rw[h];exact List.mem_cons_self))];exact e
end
section
variable {P:Program}{w:World}{A:Around}{E:Value->Shared->Prop}{s:Shared}
theorem o6 (a:Value) {Q₁:Value->Shared->Prop}
   (h:Q₁ (.ref s.heap.objs.size) { s with heap:=s.heap.push { cls:=.type "set",dict:=none,data:=.set #[] 0 (.fresh 0 0 (!w.params.followText "set-order")) } }) :
   codeAny (model P w) A (.call (.builtin "set.__new__") ⟨[.type "set",a],[]⟩) (wants Q₁ E) s:=by
 refine codeAny_of_tree ?_
 show wpAny _ A.in1 (do checkBuiltinCall "set.__new__" ⟨[.type "set",a],[]⟩;again (.builtin "set.__new__" ⟨[.type "set",a],[]⟩)) _ _ s
 refine wpAny_bind (wpAny_of_eq (PySem.F.newCall_set_1 a) (wpAny_pure ⟨plainId_quiet PySem.F.plain_set_new _,codeAny_builtin PySem.F.entry_set_new ?_⟩))
 rw[Around.under_plainId PySem.F.plain_set_new _]
 unfold Builtin.«set.__new__» Builtin.Frozenset.newClass
 have hsub:=sub_set_self
 obtain⟨hp,g,d,tk,os⟩:=s
 dsimp only
 wp_walk
 refine wpAny_askSetting (wpAny_pure ?_)
 dsimp only
 simp only[newObj]
 refine wpAny_bind (wpAny_alloc (wpAny_pure ?_))
 exact wpAny_pure h
set_option maxHeartbeats 16000000 in
theorem uh {l:Addr}{items:Array Value}{xs:List Str}{Q:Value->Shared->Prop}
   (hh:A.handled=none) (hl:s.heap.IsList l items) (hi:StrsAre items.toList xs) (hb:items.size+1<scanBound)
   (h:∀(h':Heap) (tk:Nat) (ss:List Str),SSet P w h' s.heap.objs.size ss->Dd xs ss->(∀b o,b<s.heap.objs.size->s.heap.get? b=some o->h'.get? b=some o)->Q (.ref s.heap.objs.size) { s with heap:=h',toks:=tk }) :
   wpAny (model P w) A (call (.type "set") [.ref l]) Q E s:=by
 obtain⟨c,tl,hmro⟩:=PySem.F.called_set.mro
 have hmade:=PySem.F.called_set.made
 have hsub:=PySem.F.called_set.sub
 refine wpAny_call (codeAny_of_tree ?_)
 show wpAny _ _ (callAny (.type "set") _) _ _ _
 refine wpAny_pure ⟨Code.quiet_builtin _ (by decide +kernel),codeAny_builtin PySem.F.entry_type_call ?_⟩
 rw[Around.under_plain (weight_type_call_type "set" [.ref l] []) rfl]
 have h1:=PySem.F.called_set.notType
 have h2:=PySem.F.called_set.canCreate
 have hct:=PySem.F.typeCall_set_1 (.ref l)
 repeat (any_goals (first|assumption|wp_step))
 refine codeAny_mono (o6 (.ref l) (E:=E) (Q₁:=fun obj s₁=>obj=.ref s.heap.objs.size/\s₁={ s with heap:=s.heap.push { cls:=.type "set",dict:=none,data:=.set #[] 0 (.fresh 0 0 (!w.params.followText "set-order")) } }) ⟨rfl,rfl⟩) fun r s₁ hr=>?_
 cases r with
 | error e=>exact hr
 | ok fl =>
   cases fl with
   | ret obj =>
     obtain⟨rfl,rfl⟩:=hr
     generalize hled:(!w.params.followText "set-order")=led
     have hS:(s.heap.push { cls:=.type "set",dict:=none,data:=.set #[] 0 (.fresh 0 0 led) }).get? s.heap.objs.size=some { cls:=.type "set",dict:=none,data:=.set #[] 0 (.fresh 0 0 led) }:=Heap.get?_push_size _ rfl
     have hT:Shared.TypeIs { s with heap:=s.heap.push { cls:=.type "set",dict:=none,data:=.set #[] 0 (.fresh 0 0 led) } } (.ref s.heap.objs.size) "set" := ⟨_,hS,rfl⟩
     have hli:=PySem.F.called_set.init.lookup
     have hbi:=PySem.F.called_set.init.bind (.ref s.heap.objs.size)
     repeat (any_goals (first|assumption|wp_step))
     refine codeAny_mono (codeAny_call_builtin (R:=wants (fun r s₂=>r=.none/\∃h' tk ss,s₂={ s with heap:=h',toks:=tk }/\SSet P w h' s.heap.objs.size ss/\Dd xs ss/\
         (∀b o,b<s.heap.objs.size->s.heap.get? b=some o->h'.get? b=some o)) E) PySem.F.called_set.init.plain PySem.F.entry_set_init (check_set_init_1 hT ?_)) fun r₂ s₂ hr₂=>?_
     . obtain⟨ol,hol,hcl,nl,hdl⟩:=hl
       obtain⟨ocls,odict,odata,oslots⟩:=ol
       simp only at hcl hdl
       subst hcl;subst hdl
       have hol':(s.heap.push { cls:=.type "set",dict:=none,data:=.set #[] 0 (.fresh 0 0 led) }).get? l=some { cls:=.type "list",dict:=odict,data:=.seq items nl,slots:=oslots }:=Heap.get?_push_of_some _ hol
       have hsls:=PySem.F.sub_list_set
       have hslf:=PySem.F.sub_list_frozenset
       have hne:(Value.type "list" == Value.type "dict")=false:=by decide
       have hl1:(s.heap.push { cls:=.type "set",dict:=none,data:=.set #[] 0 (.fresh 0 0 led) }).IsList l items:=⟨_,hol',rfl,nl,rfl⟩
       unfold Builtin.«set.__init__» noKeywords Builtin.Frozenset.updateFrom
       generalize hPI:pyIter=PI
       wp_walk
       subst hPI
       refine wpAny_pyIter_list hl1 ?_
       refine wpAny_bind (wpAny_runValue ?_)
       have hlS:l<s.heap.objs.size:=Heap.lt_size hol
       have hh3:A.in1.in1.in1.handled=none:=by simp[hh]
       have hneI:l≠(s.heap.push { cls:=.type "set",dict:=none,data:=.set #[] 0 (.fresh 0 0 led) }).objs.size:=by
         rw[Heap.size_push];exact Nat.ne_of_lt (Nat.lt_succ_of_lt hlS)
       have hSf:s.heap.objs.size∉[(s.heap.push { cls:=.type "set",dict:=none,data:=.set #[] 0 (.fresh 0 0 led) }).objs.size,l]:=by
         rw[Heap.size_push];simp only[List.mem_cons,List.mem_singleton,List.not_mem_nil,or_false,not_or]
         exact⟨Nat.ne_of_lt (Nat.lt_succ_self _),Nat.ne_of_gt hlS⟩
       have hlen:xs.length=items.size:=by have:=hi.length;simpa using this.symm
       have hval:∀(i:Nat) (v:Value),items[i]? = some v->∃x t,xs[i]? = some x/\v=.str x t:=fun i v hv=>yr hi i v (by rw[Array.getElem?_toList];exact hv)
       refine ou ((Walks.list hh3 _ l hneI items).toS) s.heap.objs.size hSf xs hlen hval hb (items.size - 0) 0 _ [] (by omega) (Nat.zero_le _)
         ⟨⟨_,Heap.get?_push_size _ rfl,rfl,rfl⟩,(hl1.push _)⟩ ?hS0 (by rw[List.take_zero];exact .nil) ?hR
       case hS0 =>
         have hget:((s.heap.push { cls:=.type "set",dict:=none,data:=.set #[] 0 (.fresh 0 0 led) }).push { cls:=.type "list_iterator",data:=.fields #[.ref l,.int 0 0] }).get? s.heap.objs.size
             =some { cls:=.type "set",dict:=none,data:=.set #[] 0 (.fresh 0 0 led) }:=Heap.get?_push_of_some _ hS
         exact⟨_,#[],0,_,hget,⟨rfl,rfl,rfl⟩,rfl,fun e he=>by simp at he,rfl,List.nodup_nil,by decide,by rfl,hled.symm,fun q=>absurd q (by simp)⟩
       case hR =>
         intro s' ss' hm hS' hd'
         obtain⟨h',g',d',tk',os'⟩:=s'
         have eg:g'=s.gens:=hm.gens
         have ed:d'=s.drawn:=hm.drawn
         have eo:os'=s.os:=hm.os
         subst eg;subst ed;subst eo
         show wpAny _ _ _ _ _ _
         refine wpAny_pure ?_
         show wpAny _ _ (ret Value.none) _ _ _
         refine wpAny_pure ⟨rfl,h',tk',ss',rfl,hS',hd',fun b o hb e=>?_⟩
         have hb1:b≠s.heap.objs.size:=Nat.ne_of_lt hb
         have hb2:b≠(s.heap.push { cls:=.type "set",dict:=none,data:=.set #[] 0 (.fresh 0 0 led) }).objs.size:=by
           rw[Heap.size_push];exact Nat.ne_of_lt (Nat.lt_succ_of_lt hb)
         exact hm.heap b o (by simp only[List.mem_cons,List.mem_singleton,List.not_mem_nil,or_false,not_or];exact⟨hb1,hb2⟩) (Heap.get?_push_of_some _ (Heap.get?_push_of_some _ e))
     . cases r₂ with
       | error e=>exact hr₂
       | ok fl₂ =>
         cases fl₂ with
         | ret r =>
           obtain⟨rfl,h',tk,ss,rfl,hS',hd',hk'⟩:=hr₂
           repeat (any_goals (first|assumption|wp_step))
           exact h _ _ ss hS' hd' hk'
         | _=>exact hr₂.elim
   | _=>exact hr.elim
end
namespace SF
theorem entry_set_iter:entryFor table "set.__iter__" = some Builtin.«frozenset.__iter__» := entryFor_alias (id' := "frozenset.__iter__") (by kernel_rfl) rfl (by decide +kernel) (by kernel_rfl)
theorem slot_next:Slot "set_iterator" "__next__" "set_iterator.__next__" :=
 .of (owner := "set_iterator") (n := "__next__") (by rw[typeLookup_type,builtinLookup_eq_fast];kernel_rfl) (by decide +kernel) (by decide +kernel) (by decide +kernel)
   (by first|exact .inl (by decide +kernel)|exact .inr (by decide +kernel)) (by rw[isSubtype_type];kernel_rfl)
theorem entry_next:entryFor table "set_iterator.__next__" = some Builtin.«set_iterator.__next__» := entryFor_of_tree (by kernel_rfl)
theorem args_next (a:Value):argsOk "set_iterator.__next__" ⟨[a],[]⟩:=by unfold argsOk;kernel_rfl
theorem slot_self:Slot "set_iterator" "__iter__" "set_iterator.__iter__" :=
 .of (owner := "set_iterator") (n := "__iter__") (by rw[typeLookup_type,builtinLookup_eq_fast];kernel_rfl) (by decide +kernel) (by decide +kernel) (by decide +kernel)
   (by first|exact .inl (by decide +kernel)|exact .inr (by decide +kernel)) (by rw[isSubtype_type];kernel_rfl)
theorem entry_self:entryFor table "set_iterator.__iter__" = some Builtin.«dict_keyiterator.__iter__» :=
 entryFor_alias (id' := "dict_keyiterator.__iter__") (by kernel_rfl) rfl (by decide +kernel) (by kernel_rfl)
theorem args_self (a:Value):argsOk "set_iterator.__iter__" ⟨[a],[]⟩:=by unfold argsOk;kernel_rfl
theorem set_len:typeLookup (.type "set") "__len__" = pure (some (.builtin "set.__len__")):=by rw[typeLookup_type,builtinLookup_eq_fast];kernel_rfl
theorem sub_set:isSubtype (.type "set") (.type "set")=pure true:=by rw[isSubtype_type];kernel_rfl
end SF
open PySem PySem.Spec PyProof.Rows
theorem ky {α:Type}:∀(l:List α) (i:Nat) (h:i<l.length),(l[i]::l.eraseIdx i).Perm l
 | x::r,0,_=>List.Perm.refl _
 | x::r,i+1,h=>by
   have h':i<r.length:=by simpa using h
   exact (List.Perm.swap x r[i] (r.eraseIdx i)).trans ((ky r i h').cons x)
theorem ni {α:Type}(next:Nat->Nat):∀(fuel k:Nat) (left:List α) (out:Array α),left.length=fuel->(pickOrder.go next fuel k left out).toList.Perm (out.toList++left)
 | 0,k,left,out,h=>by
   have e:left=[]:=List.eq_nil_of_length_eq_zero h
   subst e
   simp[pickOrder.go]
 | fuel+1,k,left,out,h=>by
   have hlt:next k % left.length<left.length:=Nat.mod_lt _ (by omega)
   unfold pickOrder.go
   rw[List.getElem?_eq_getElem hlt]
   dsimp only
   refine (ni next fuel (k+1) _ _ (by rw[List.length_eraseIdx_of_lt hlt];omega)).trans ?_
   rw[Array.toList_push,List.append_assoc]
   refine List.Perm.append_left _ ?_
   rw[List.singleton_append]
   exact ky _ _ hlt
theorem uc {α:Type}(next:Nat->Nat) (xs:Array α):(pickOrder next xs).toList.Perm xs.toList:=by
 have:=ni next xs.size 0 xs.toList #[] (by simp)
 simpa [pickOrder] using this
section
variable {P:Program}{w:World}{A:Around}{E:Value->Shared->Prop}
theorem zr {src:Source}{n:Nat}{s:Shared}{Q:Nat->Shared->Prop}(hn:n≠0) (h:∀i d,i<n->Q i { s with drawn:=d }):wpAny (model P w) A (choose src n) Q E s:=by
 intro Γ p hΓ
 unfold choose
 rw[Sem.wp_choose]
 exact⟨hn,h _ _ (Nat.mod_lt _ (Nat.pos_of_ne_zero hn))⟩
theorem jg {α:Type}:∀(n:Nat) (xs:List α) (s:Shared) (Q:List α->Shared->Prop),xs.length=n->(∀ys d,ys.Perm xs->Q ys { s with drawn:=d })->wpAny (model P w) A (drawOrder n xs) Q E s
 | 0,xs,s,Q,hl,h=>by
   have e:xs=[]:=List.eq_nil_of_length_eq_zero hl
   subst e
   exact wpAny_pure (h [] s.drawn (List.Perm.refl _))
 | n+1,[],s,Q,hl,h=>by simp at hl
 | n+1,x::r,s,Q,hl,h=>by
   unfold drawOrder
   refine wpAny_bind (zr (by rw[hl];exact Nat.succ_ne_zero n) fun i d hi=>?_)
   rw[List.getElem?_eq_getElem hi]
   dsimp only
   refine wpAny_bind (jg n _ _ _ (by rw[List.length_eraseIdx_of_lt hi];omega) fun ys d' hp=>?_)
   refine wpAny_pure (h _ d' ?_)
   exact (hp.cons _).trans (ky _ _ hi)
end
theorem tj {α:Type}:∀l:List α,(List.range l.length).filterMap (fun i=>l[i]?)=l
 | []=>rfl
 | x::r=>by
   rw[List.length_cons,List.range_succ_eq_map,List.filterMap_cons]
   simp only[List.getElem?_cons_zero]
   rw[List.filterMap_map]
   exact congrArg (x :: ·) (tj r)
noncomputable def uu (first:Value) (i:Nat) (S:Addr) (n ep:Nat):Obj:={ cls:=.type "set_iterator",dict:=none,data:=.fields #[first,.int i 0,.ref S,.int n 0,.int ep 0],slots := #[] }
inductive Ord (w:World) (S:Addr) (es:Array (Int×Value)) (ep:Nat) (t:SetTable) (h:Heap):Value->Nat->List Value->Prop
 | text (i:Nat):w.params.followText "set-order" = true->Ord w S es ep t h (.int 0 0) i ((pickOrder (w.params.setOrder S ep) es).toList.map (·.2))
 | drawn (i:Nat) (T:Addr) (ps:List Nat):w.params.followText "set-order" = false->IsTup h T (ps.map fun (p:Nat)=>Value.int p 0).toArray->(∀p∈ps,p<es.size)->Ord w S es ep t h (.ref T) i (ps.filterMap fun p=>(es[p]?).map (·.2))
 | none (k i:Nat):w.params.followText "set-order" = false->es.size=0->Ord w S es ep t h (.int k 0) i []
 | one0 (e:Int×Value):w.params.followText "set-order" = false->es = #[e]->Ord w S es ep t h (.int 0 0) 0 [e.2]
 | one1 (e:Int×Value) (j:Nat):w.params.followText "set-order" = false->es = #[e]->t.place = #[j]->Ord w S es ep t h (.int (j+1:Nat) 0) 1 [e.2]
noncomputable def a6q (P:Program) (w:World) (S I T0:Addr) (es:Array (Int×Value)) (ep:Nat) (t:SetTable) (ord:List Value) (i:Nat) (h:Heap):Prop :=
 ∃first o,h.get? I=some (uu first i S es.size ep)/\h.get? S=some o/\o.data=.set es ep t/\Ord w S es ep t h first i ord/\∀T,first=.ref T->T=T0
section
variable {P:Program}{w:World}{A:Around}{E:Value->Shared->Prop}{s:Shared}
theorem a91 (j:Nat):SetTable.below #[j] (j+1)=1:=by
 simp[SetTable.below,SetTable.below.go]
theorem a9f (j:Nat):SetTable.below #[j] 0=0:=by
 simp[SetTable.below,SetTable.below.go]
theorem lh {Q:Bool->Shared->Prop}(h:Q (w.params.followText "set-order") s):wpAny (model P w) A setsByText Q E s:=by
 unfold setsByText
 exact wpAny_bind (wpAny_askSetting (wpAny_pure h))
theorem pw {S:Addr}{es:Array (Int×Value)}{ep i k:Nat}{t:SetTable}{ord:List Value}{o:Obj}{Q:Option (Value×Nat)->Shared->Prop}(ho:s.heap.get? S=some o) (hd:o.data=.set es ep t) (hf:t.fits es.size=true)
   (hled:t.led = !w.params.followText "set-order") (od:Ord w S es ep t s.heap (.int (k:Int) 0) i ord)
   (h:∀k':Nat,(∀v,ord[i]? = some v->Ord w S es ep t s.heap (.int (k':Int) 0) (i+1) ord)->Q ((ord[i]?).map fun v=>(v,k')) s):wpAny (model P w) A (setNext S k i ep) Q E s:=by
 unfold setNext
 refine wpAny_bind (wpAny_setState_of ho hd hf ?_)
 dsimp only
 refine wpAny_bind (lh ?_)
 generalize hk:(k:Int)=ki at od
 generalize hfst:Value.int ki 0=first at od
 cases od with
 | text i ht =>
   cases hfst
   obtain rfl:k=0:=by omega
   rw[ht]
   simp only[if_true,bne_self_eq_false,Bool.false_eq_true,if_false]
   unfold setWalk
   refine wpAny_bind ?_
   refine wpAny_bind (wpAny_setState_of ho hd hf ?_)
   dsimp only
   refine wpAny_bind (lh ?_)
   rw[ht]
   simp only[if_true]
   refine wpAny_bind (wpAny_askSetting (wpAny_pure ?_))
   refine wpAny_pure ?_
   have:=h 0 fun v _=>Ord.text (i+1) ht
   rw[List.getElem?_map,Array.getElem?_toList] at this
   rw[Option.map_map] at this
   exact this
 | drawn=>cases hfst
 | none k' i ht h0 =>
   cases hfst
   rw[ht]
   have e0:es = #[]:=Array.eq_empty_of_size_eq_zero h0
   subst e0
   have hl:t.led=true:=by rw[hled,ht];rfl
   rw[if_neg Bool.false_ne_true]
   split
   . rename_i hdr
     have hdr':(!t.plain && decide ((#[]:Array (Int×Value)).size>1))=true:=hdr
     simp at hdr'
   . refine wpAny_bind (show wpAny (model P w) A (if (!t.led && !(#[]:Array (Int×Value)).isEmpty)=true then unsupported "set:maker-not-led" else pure ()) _ _ _ from ?_)
     rw[hl]
     refine wpAny_pure (wpAny_pure ?_)
     have:=h k fun v e=>by simp at e
     simpa using this
 | one0 e ht he =>
   cases hfst
   obtain rfl:k=0:=by omega
   rw[ht]
   subst he
   have hl:t.led=true:=by rw[hled,ht];rfl
   have hpz:t.place.size=1:=by
     simp only[SetTable.fits,Bool.and_eq_true,beq_iff_eq] at hf
     exact hf.1
   obtain⟨j,hj⟩:∃j,t.place = #[j]:=by
     generalize t.place=pl at hpz
     obtain⟨l⟩:=pl
     match l,hpz with
     | [j],_=>exact⟨j,rfl⟩
   rw[if_neg Bool.false_ne_true]
   split
   . rename_i hdr
     have hdr':(!t.plain && decide ((#[e]:Array (Int×Value)).size>1))=true:=hdr
     simp at hdr'
   . refine wpAny_bind (show wpAny (model P w) A (if (!t.led && !(#[e]:Array (Int×Value)).isEmpty)=true then unsupported "set:maker-not-led" else pure ()) _ _ _ from ?_)
     rw[hl]
     refine wpAny_pure (wpAny_pure ?_)
     rw[hj,a9f]
     exact h (j+1) fun v _=>Ord.one1 e j ht rfl hj
 | one1 e j ht he hp =>
   cases hfst
   obtain rfl:k=j+1:=by omega
   rw[ht]
   subst he
   have hl:t.led=true:=by rw[hled,ht];rfl
   rw[if_neg Bool.false_ne_true]
   split
   . rename_i hdr
     have hdr':(!t.plain && decide ((#[e]:Array (Int×Value)).size>1))=true:=hdr
     simp at hdr'
   . refine wpAny_bind (show wpAny (model P w) A (if (!t.led && !(#[e]:Array (Int×Value)).isEmpty)=true then unsupported "set:maker-not-led" else pure ()) _ _ _ from ?_)
     rw[hl]
     refine wpAny_pure (wpAny_pure ?_)
     rw[hp,a91]
     exact h 0 fun v e=>by simp at e
theorem Ord.keep {S:Addr}{es:Array (Int×Value)}{ep i:Nat}{t:SetTable}{ord:List Value}{first:Value}{h h':Heap}(od:Ord w S es ep t h first i ord) (k:∀T o,first=.ref T->h.get? T=some o->h'.get? T=some o):Ord w S es ep t h' first i ord:=by
 cases od with
 | text i ht=>exact .text i ht
 | drawn i T ps ht hT hp =>
   obtain⟨o,e,c⟩:=hT
   exact .drawn i T ps ht ⟨o,k T o rfl e,c⟩ hp
 | none kk i ht h0=>exact .none kk i ht h0
 | one0 e ht he=>exact .one0 e ht he
 | one1 e j ht he hp=>exact .one1 e j ht he hp
theorem Ord.kind {S:Addr}{es:Array (Int×Value)}{ep i:Nat}{t:SetTable}{ord:List Value}{first:Value}{h:Heap}(od:Ord w S es ep t h first i ord) :
   (∃k:Nat,first=.int (k:Int) 0)\/∃(T:Addr) (ps:List Nat),first=.ref T/\w.params.followText "set-order" = false/\IsTup h T (ps.map fun (p:Nat)=>Value.int p 0).toArray/\(∀p∈ps,p<es.size)/\ord=ps.filterMap fun p=>(es[p]?).map (·.2):=by
 cases od with
 | text i ht=>exact .inl ⟨0,rfl⟩
 | drawn i T ps ht hT hp=>exact .inr ⟨T,ps,rfl,ht,hT,hp,rfl⟩
 | none k i ht h0=>exact .inl ⟨k,rfl⟩
 | one0 e ht he=>exact .inl ⟨0,rfl⟩
 | one1 e j ht he hp=>exact .inl ⟨j+1,rfl⟩
theorem Ord.step {S:Addr}{es:Array (Int×Value)}{ep i:Nat}{t:SetTable}{ord:List Value}{T:Addr}{h:Heap}(od:Ord w S es ep t h (.ref T) i ord):Ord w S es ep t h (.ref T) (i+1) ord:=by
 cases od with
 | drawn i T ps ht hT hp=>exact .drawn (i+1) T ps ht hT hp
end
theorem wz {es:Array (Int×Value)}:∀{ps:List Nat},(∀p∈ps,p<es.size)->∀(i:Nat),(ps.filterMap fun p=>(es[p]?).map (·.2))[i]? = (ps[i]?).bind fun p=>(es[p]?).map (·.2)
 | [],_,i=>by simp
 | p::r,hp,i=>by
   have h1:p<es.size:=hp p (by simp)
   have e:es[p]? = some es[p]:=by simp[h1]
   rw[List.filterMap_cons,e]
   cases i with
   | zero=>simp[e]
   | succ i=>simpa using wz (fun q hq=>hp q (List.mem_cons_of_mem _ hq)) i
section
variable {P:Program}{w:World}{A:Around}
theorem a1u (hh:A.handled=none) {S I:Addr}{es:Array (Int×Value)}{ep:Nat}{t:SetTable}{ord:List Value}(fp:List Addr) (hI:I∈fp) (hS:S∈fp) (hne:S≠I) (hf:t.fits es.size=true) (hled:t.led = !w.params.followText "set-order")
   {T0:Addr} (hT:T0∈fp) (hTI:T0≠I) :
   Walks P w A I fp [I] ord.length (fun i v=>ord[i]? = some v) (a6q P w S I T0 es ep t ord) where
 sub:=fun b hb=>by rw[List.mem_singleton.mp hb];exact hI
 frame:=fun i h h' st hk=>by
   obtain⟨first,o,h1,h2,h3,h4,h5⟩:=st
   exact⟨first,o,hk I hI _ h1,hk S hS _ h2,h3,h4.keep (fun T o e q=>hk T (by rw[h5 T e];exact hT) o q),h5⟩
 item:=fun i s Q E hi st hQ=>by
   obtain⟨first,o,h1,h2,h3,h4,h5⟩:=st
   have ty:s.TypeIs (.ref I) "set_iterator" := ⟨_,h1,rfl⟩
   unfold pyNext
   refine wpAny_bind (wpAny_attempt (wpAny_callSpecial?_slot (name:=Str.ofString "__next__") ty SF.slot_next (wpAny_call_entry SF.slot_next ty SF.entry_next ?_ (SF.args_next _))))
   show wpAny _ _ (fieldsOf (.ref I) >>= _) _ _ s
   refine wpAny_bind (wpAny_fieldsOf h1 rfl ?_)
   show wpAny _ _ (setEntries S >>= _) _ _ s
   refine wpAny_bind (wpAny_setEntries_of h2 h3 hf ?_)
   simp only[bne_self_eq_false,Bool.false_eq_true,if_false]
   have hv:ord[i]? = some ord[i]:=List.getElem?_eq_getElem hi
   rcases h4.kind with⟨k,rfl⟩|⟨T,ps,rfl,ht,hTt,hps,hord⟩
   . show wpAny _ _ (setNext S (Int.toNat (k:Int)) (Int.toNat (i:Int)) (Int.toNat (ep:Int)) >>= _) _ _ s
     simp only[Int.toNat_natCast]
     refine wpAny_bind (pw h2 h3 hf hled h4 fun k' hk'=>?_)
     rw[hv]
     show wpAny _ _ (setField (.ref I) 0 (rawInt k') >>= _) _ _ s
     refine wpAny_bind (wpAny_setField_rec h1 (by simp) fun ha ha1 ha2=>?_)
     refine wpAny_bind (wpAny_setField_rec ha1 (by simp) fun hb hb1 hb2=>?_)
     refine wpAny_pure ⟨_,rfl,wpAny_pure (hQ _ hb s.toks hv ⟨.int (k':Int) 0,o,hb1,?_,h3,(hk' _ hv).keep (fun T o e=>by cases e),(fun T e=>by cases e)⟩ fun b o hb' e=>?_)⟩
     . rw[hb2.2 S hne,ha2.2 S hne];exact h2
     . have:b≠I:=fun z=>hb' (by simp[z])
       rw[hb2.2 b this,ha2.2 b this];exact e
   . have hTne:T≠I:=by rw[h5 T rfl];exact hTI
     have hg:=wz hps i
     rw[<- hord,hv] at hg
     cases hpi:ps[i]? with
     | none=>rw[hpi] at hg;cases hg
     | some p =>
       rw[hpi] at hg
       have hp:p<es.size:=hps p (List.mem_of_getElem? hpi)
       have hep:es[p]? = some es[p]:=by simp[hp]
       have hg':some ord[i]=(es[p]?).map (·.2):=hg
       rw[hep] at hg'
       have hval:ord[i]=es[p].2:=Option.some.inj hg'
       show wpAny _ _ (seqItems? (.ref T) >>= _) _ _ s
       obtain⟨oT,eT,cT,nT,dT⟩:=hTt
       refine wpAny_bind (wpAny_seqItems eT dT ?_)
       dsimp only
       have hpl:((ps.map fun (p:Nat)=>Value.int p 0).toArray)[Int.toNat (i:Int)]? = some (.int (p:Int) 0):=by
         rw[Int.toNat_natCast,List.getElem?_toArray,List.getElem?_map,hpi];rfl
       rw[hpl]
       show wpAny _ _ (setNextDrawn S (Int.toNat (p:Int)) (Int.toNat (ep:Int)) >>= _) _ _ s
       simp only[Int.toNat_natCast]
       unfold setNextDrawn
       refine wpAny_bind (wpAny_bind (wpAny_setState_of h2 h3 hf ?_))
       simp only[bne_self_eq_false,Bool.false_eq_true,if_false]
       rw[hep]
       refine wpAny_pure ?_
       refine wpAny_bind (wpAny_setField_rec h1 (by simp) fun hb hb1 hb2=>?_)
       refine wpAny_pure ⟨_,rfl,wpAny_pure (hQ _ hb s.toks (by rw[hv,hval];rfl) ⟨.ref T,o,hb1,?_,h3,h4.step.keep (fun T' o e q=>?_),h5⟩ fun b o hb' e=>?_)⟩
       . rw[hb2.2 S hne];exact h2
       . cases e;rw[hb2.2 T hTne];exact q
       . have:b≠I:=fun z=>hb' (by simp[z])
         rw[hb2.2 b this];exact e
 done:=fun s Q E st hQ=>by
   obtain⟨first,o,h1,h2,h3,h4,h5⟩:=st
   have ty:s.TypeIs (.ref I) "set_iterator" := ⟨_,h1,rfl⟩
   have hv:ord[ord.length]? = none:=List.getElem?_eq_none (Nat.le_refl _)
   have stop:∀h':Heap,(∀b o,b≠I->s.heap.get? b=some o->h'.get? b=some o)->wpAny (model P w) A.in1 (do raiseNew (<- newExc (.type "StopIteration") []):Sem Fin) (fun _ _=>False)
       (fun x s'=>wpAny (model P w) A (do let b<-isInstance x (.type "StopIteration");if b=true then pure Option.none else throw x) Q E s') { s with heap:=h' }:=by
     intro h' hk
     refine wpAny_bind ?_
     simp only[newExc,newTuple]
     refine wpAny_bind (wpAny_newObj_type ?_ (by size_fits))
     refine wpAny_bind (m:=firstArgMember _ _) (wpAny_of_eq (a:=Value.none) (by first|rfl|(simp only[firstArgMember];rfl)) ?_)
     refine wpAny_newObj_type ?_ (by size_fits)
     simp only[raiseNew]
     refine wpAny_bind (wpAny_handled ?_)
     rw[show A.in1.handled=none from hh]
     refine wpAny_bind (wpAny_pure (wpAny_throw ?_))
     refine wpAny_bind (wpAny_isInstance (T := "StopIteration") (b:=true) ⟨_,Heap.get?_push_size _ rfl,rfl⟩ isSubtype_stop ?_)
     exact wpAny_pure (hQ _ _ fun b o hb e=>Heap.get?_push_of_some _ (Heap.get?_push_of_some _ (hk b o (fun z=>hb (by simp[z])) e)))
   unfold pyNext
   refine wpAny_bind (wpAny_attempt (wpAny_callSpecial?_slot (name:=Str.ofString "__next__") ty SF.slot_next (wpAny_call_entry SF.slot_next ty SF.entry_next ?_ (SF.args_next _))))
   show wpAny _ _ (fieldsOf (.ref I) >>= _) _ _ s
   refine wpAny_bind (wpAny_fieldsOf h1 rfl ?_)
   show wpAny _ _ (setEntries S >>= _) _ _ s
   refine wpAny_bind (wpAny_setEntries_of h2 h3 hf ?_)
   simp only[bne_self_eq_false,Bool.false_eq_true,if_false]
   rcases h4.kind with⟨k,rfl⟩|⟨T,ps,rfl,ht,hTt,hps,hord⟩
   . show wpAny _ _ (setNext S (Int.toNat (k:Int)) (Int.toNat (ord.length:Int)) (Int.toNat (ep:Int)) >>= _) _ _ s
     simp only[Int.toNat_natCast]
     refine wpAny_bind (pw h2 h3 hf hled h4 fun k' hk'=>?_)
     rw[hv]
     show wpAny _ _ (setField (.ref I) 2 .none >>= _) _ _ s
     refine wpAny_bind (wpAny_setField_rec h1 (by simp) fun ha ha1 ha2=>?_)
     refine wpAny_mono (stop ha fun b o hb e=>by rw[ha2.2 b hb];exact e) (fun _ _ z=>z.elim) fun x s' z=>?_
     exact z
   . have hpi:ps[ord.length]? = none:=by
       have hg:=wz hps ord.length
       rw[<- hord,hv] at hg
       cases hpi:ps[ord.length]? with
       | none=>rfl
       | some p =>
         rw[hpi] at hg
         have hp:p<es.size:=hps p (List.mem_of_getElem? hpi)
         have hep:es[p]? = some es[p]:=by simp[hp]
         have hg':(none:Option Value)=(es[p]?).map (·.2):=hg
         rw[hep] at hg'
         cases hg'
     show wpAny _ _ (seqItems? (.ref T) >>= _) _ _ s
     obtain⟨oT,eT,cT,nT,dT⟩:=hTt
     refine wpAny_bind (wpAny_seqItems eT dT ?_)
     dsimp only
     have hpl:((ps.map fun (p:Nat)=>Value.int p 0).toArray)[Int.toNat (ord.length:Int)]? = none:=by
       rw[Int.toNat_natCast,List.getElem?_toArray,List.getElem?_map,hpi];rfl
     rw[hpl]
     show wpAny _ _ (setField (.ref I) 0 (rawInt 0) >>= _) _ _ s
     refine wpAny_bind (wpAny_setField_rec h1 (by simp) fun ha ha1 ha2=>?_)
     refine wpAny_bind (wpAny_setField_rec ha1 (by simp) fun hb hb1 hb2=>?_)
     refine wpAny_mono (stop hb fun b o hb' e=>by rw[hb2.2 b hb',ha2.2 b hb'];exact e) (fun _ _ z=>z.elim) fun x s' z=>?_
     exact z
 self:=fun i s Q E st hQ=>by
   obtain⟨first,o,h1,h2,h3,h4,h5⟩:=st
   have ty:s.TypeIs (.ref I) "set_iterator" := ⟨_,h1,rfl⟩
   refine wpAny_pyIter_slot ty SF.slot_self (wpAny_call_entry SF.slot_self ty SF.entry_self ?_ (SF.args_self _))
   show wpAny _ _ (ret (.ref I)) _ _ s
   exact wpAny_pure ⟨_,rfl,"set_iterator",_,ty,SF.slot_next.lookup,hQ⟩
theorem xv {E:Value->Shared->Prop}{s:Shared}{S:Addr}{ss:List Str}{Q:Value->Shared->Prop}(hS:SSet P w s.heap S ss)
   (h:∀(h':Heap) (d':Drawn) (I:Addr) (fp:List Addr) (ord:List Value) (St:Nat->Heap->Prop),(∀b o,s.heap.get? b=some o->h'.get? b=some o)->s.heap.objs.size<=I->I∈fp->(∀b∈fp,b<h'.objs.size/\(b=S\/s.heap.objs.size<=b))->
     (∀A':Around,A'.handled=none->Walks P w A' I fp [I] ord.length (fun i v=>ord[i]? = some v) St)->St 0 h'->(∃ys,StrsAre ord ys/\ys.Perm ss)->Q (.ref I) { s with heap:=h',drawn:=d' }) :
   wpAny (model P w) A (pyIter (.ref S)) Q E s:=by
 obtain⟨o,es,ep,t,ho,hex,hd,hel,hss,hnd,hb,hf,hled,hpl⟩:=hS
 have ty:s.TypeIs (.ref S) "set" := ⟨o,ho,hex.1⟩
 have hlt:S<s.heap.objs.size:=Heap.lt_size ho
 have hstr:∀l:List (Int×Value),(∀e∈l,e∈es.toList)->StrsAre (l.map (·.2)) (l.map fun e=>gc e.2):=by
   intro l
   induction l with
   | nil=>intro _;exact .nil
   | cons e r ih =>
     intro hm
     obtain⟨u,hu⟩:=ue hel (hm e (by simp))
     have:=StrsAre.cons (gc e.2) u (ih fun x hx=>hm x (List.mem_cons_of_mem _ hx))
     rw[<- hu] at this
     exact this
 refine wpAny_pyIter_slot ty PySem.F.slot_set_iter (wpAny_call_entry PySem.F.slot_set_iter ty SF.entry_set_iter ?_ (PySem.F.args_set_iter_1 _))
 show wpAny _ _ (Builtin.Frozenset.sizeOf S >>= _) _ _ s
 unfold Builtin.Frozenset.sizeOf
 refine wpAny_bind (wpAny_bind (wpAny_setEntries_of ho hd hf (wpAny_pure ?_)))
 unfold setDrawn
 refine wpAny_bind (wpAny_bind (wpAny_setState_of ho hd hf ?_))
 dsimp only
 refine wpAny_bind (lh (wpAny_pure ?_))
 have make:∀(first:Value) (T0:Addr) (ord:List Value) (h1:Heap) (d1:Drawn),(∀b ob,s.heap.get? b=some ob->h1.get? b=some ob)->s.heap.objs.size<=h1.objs.size->(∀T,first=.ref T->T=T0)->T0<h1.objs.size->(T0=S\/s.heap.objs.size<=T0)->Ord w S es ep t h1 first 0 ord->(∃ys,StrsAre ord ys/\ys.Perm ss)->
     Q (.ref h1.objs.size) { s with heap:=h1.push (uu first 0 S es.size ep),drawn:=d1 }:=by
   intro first T0 ord h1 d1 hk hsz hT hT1 hT2 od hord
   have hne:S≠h1.objs.size:=Nat.ne_of_lt (Nat.lt_of_lt_of_le hlt hsz)
   have szp:(h1.push (uu first 0 S es.size ep)).objs.size=h1.objs.size+1:=Heap.size_push ..
   refine h _ d1 h1.objs.size [h1.objs.size,S,T0] ord (a6q P w S h1.objs.size T0 es ep t ord) (fun b ob e=>Heap.get?_push_of_some _ (hk b ob e)) hsz (by simp) (fun b hb=>?_) (fun A' hA=>?_) ⟨first,o,Heap.get?_push_size _ rfl,Heap.get?_push_of_some _ (hk S o ho),hd,od.keep (fun T ob _ e=>Heap.get?_push_of_some _ e),hT⟩ hord
   . rw[szp]
     have hb':b=h1.objs.size\/b=S\/b=T0:=by simpa using hb
     rcases hb' with rfl|rfl|rfl
     . exact⟨Nat.lt_succ_self _,.inr hsz⟩
     . exact⟨Nat.lt_succ_of_lt (Nat.lt_of_lt_of_le hlt hsz),.inl rfl⟩
     . exact⟨Nat.lt_succ_of_lt hT1,hT2⟩
   . exact a1u hA _ (by simp) (by simp) hne hf hled (by simp) (Nat.ne_of_lt hT1)
 have plain0:∀(ord:List Value),Ord w S es ep t s.heap (.int 0 0) 0 ord->(∃ys,StrsAre ord ys/\ys.Perm ss)->Q (.ref s.heap.objs.size) { s with heap:=s.heap.push (uu (.int 0 0) 0 S es.size ep) }:=fun ord od hord =>
   make (.int 0 0) S ord s.heap s.drawn (fun _ _ e=>e) (Nat.le_refl _) (fun T e=>by cases e) hlt (.inl rfl) od hord
 cases hbt:w.params.followText "set-order" with
 | true =>
   simp only[Bool.not_true,Bool.false_and,Bool.false_eq_true,if_false]
   refine wpAny_bind (wpAny_pure (wpAny_bind (wpAny_setEpoch_of ho hd hf ?_)))
   refine wpAny_bind (wpAny_newObj_type (wpAny_pure ⟨_,rfl,"set_iterator",_,⟨_,Heap.get?_push_size _ rfl,rfl⟩,SF.slot_next.lookup,?_⟩))
   refine plain0 _ (.text 0 hbt) ⟨_,hstr _ (fun e he=>(uc _ es).mem_iff.mp he),?_⟩
   rw[<- hss];exact (uc _ es).map _
 | false =>
   show wpAny _ _ (if (!false && (!t.plain && decide (es.size>1)))=true then _ else _) _ _ s
   by_cases h2:es.size>1
   . have hp0:t.plain=false:=hpl (by omega)
     rw[if_pos (by simp[hp0,h2])]
     refine wpAny_bind (jg es.size (List.range es.size) s _ (by simp) fun ps d hps=>?_)
     have hpsl:ps.length=es.size:=by rw[hps.length_eq,List.length_range]
     refine wpAny_bind (wpAny_newObj_type ?_ ?_)
     . refine (wpAny_bind (wpAny_setEpoch_of (s:={ s with heap:=s.heap.push _,drawn:=d }) (Heap.get?_push_of_some _ ho) hd hf ?_))
       refine wpAny_bind (wpAny_newObj_type (wpAny_pure ⟨_,rfl,"set_iterator",_,⟨_,Heap.get?_push_size _ rfl,rfl⟩,SF.slot_next.lookup,?_⟩))
       have hlp:∀p∈ps,p<es.size:=fun p hp=>List.mem_range.mp (hps.mem_iff.mp hp)
       refine make (.ref s.heap.objs.size) s.heap.objs.size (ps.filterMap fun p=>(es[p]?).map (·.2)) (s.heap.push _) d (fun b ob e=>Heap.get?_push_of_some _ e) (by rw[Heap.size_push];exact Nat.le_succ _) (fun T e=>by cases e;rfl) (by rw[Heap.size_push];exact Nat.lt_succ_self _) (.inr (Nat.le_refl _))
         (.drawn 0 _ ps hbt ⟨_,Heap.get?_push_size _ rfl,rfl,_,rfl⟩ hlp) ?_
       have e1:(ps.filterMap fun p=>(es[p]?).map (·.2))=(ps.filterMap fun p=>es[p]?).map (·.2):=by rw[List.map_filterMap]
       have hpm:(ps.filterMap fun p=>es[p]?).Perm es.toList:=by
         have:=hps.filterMap (fun p=>es[p]?)
         have e2:=tj es.toList
         simp only[Array.getElem?_toList,Array.length_toList] at e2
         rw[e2] at this
         exact this
       refine⟨_,by rw[e1];exact hstr _ (fun e he=>hpm.mem_iff.mp he),?_⟩
       rw[<- hss];exact hpm.map _
     . have hz:ps.length<=sizeLine:=by rw[hpsl];exact fits_of_scanBound hb
       show (ps.map _).toArray.size<=sizeLine
       rw[List.size_toArray,List.length_map];exact hz
   . rw[if_neg (by simp[h2])]
     refine wpAny_bind (wpAny_pure (wpAny_bind (wpAny_setEpoch_of ho hd hf ?_)))
     refine wpAny_bind (wpAny_newObj_type (wpAny_pure ⟨_,rfl,"set_iterator",_,⟨_,Heap.get?_push_size _ rfl,rfl⟩,SF.slot_next.lookup,?_⟩))
     by_cases h1:es.size=0
     . refine plain0 [] (.none 0 0 hbt h1) ⟨[],.nil,?_⟩
       rw[<- hss,Array.eq_empty_of_size_eq_zero h1]
       exact List.Perm.refl _
     . obtain⟨e,he⟩:∃e,es = #[e]:=by
         obtain⟨l⟩:=es
         have hl:l.length=1:=by
           have a1:¬ l.length>1:=h2
           have a2:¬ l.length=0:=h1
           omega
         match l,hl with
         | [e],_=>exact⟨e,rfl⟩
       refine plain0 [e.2] (.one0 e hbt he) ⟨[gc e.2],hstr [e] (fun x hx=>by rw[he];exact hx),?_⟩
       rw[<- hss,he]
       exact List.Perm.refl _
theorem vo {E:Value->Shared->Prop}{s:Shared}{S:Addr}{ss:List Str}{Q:List Value->Shared->Prop}(hh:A.handled=none) (hS:SSet P w s.heap S ss) (hl:ss.length<=sizeLine)
   (h:∀(h':Heap) (d':Drawn) (tk:Nat) (ord:List Value) (ys:List Str),(∀b o,s.heap.get? b=some o->h'.get? b=some o)->s.heap.objs.size<=h'.objs.size->StrsAre ord ys->ys.Perm ss->Q ord { s with heap:=h',drawn:=d',toks:=tk }) :
   wpAny (model P w) A (collect (.ref S)) Q E s:=by
 obtain⟨o,es,ep,t,ho,hex,hd,hrest⟩:=id hS
 have hlt:S<s.heap.objs.size:=Heap.lt_size ho
 unfold collect
 refine wpAny_bind (wpAny_runValue (codeAny_builtin entry_proto_collect' ?_))
 rw[Around.under_plainId PySem.F.plain_proto_collect _]
 show wpAny _ A.in1 (newList [] >>= fun l=>again (.builtin "list.__iadd__" ⟨[l,.ref S],[]⟩)) _ _ s
 refine wpAny_bind (wpAny_newObj_type ?_)
 refine wpAny_pure ⟨plainId_quiet PySem.F.plain_list_iadd _,codeAny_builtin entry_list_iadd' ?_⟩
 rw[Around.under_plainId PySem.F.plain_list_iadd _]
 generalize hH:s.heap.push { cls:=.type "list",data:=.seq ([]:List Value).toArray }=H
 have hHs:H.objs.size=s.heap.objs.size+1:=by rw[<- hH,Heap.size_push]
 have old:∀b ob,s.heap.get? b=some ob->H.get? b=some ob:=fun b ob e=>by rw[<- hH];exact Heap.get?_push_of_some _ e
 have hS1:SSet P w H S ss:=hS.at fun o e=>old S o e
 have hD:H.get? s.heap.objs.size=some { cls:=.type "list",data:=.seq #[] }:=by rw[<- hH];exact Heap.get?_push_size _ rfl
 show wpAny _ A.in1 (Builtin.List.listExtendWith (.ref s.heap.objs.size) (.ref S) (.ref s.heap.objs.size)) _ _ { s with heap:=H }
 unfold Builtin.List.listExtendWith
 refine wpAny_bind (wpAny_typeOf (T := "set") (v:=.ref S) (show Shared.TypeIs { s with heap:=H } (.ref S) "set" from⟨o,old S o ho,hex.1⟩) ?_)
 have h1:Builtin.List.listSameRef (.ref s.heap.objs.size) (.ref S)=false:=by simp[Builtin.List.listSameRef,Nat.ne_of_gt hlt]
 have h2:(Value.type "set" == Value.type "list")=false:=by decide
 have h3:(Value.type "set" == Value.type "tuple")=false:=by decide
 simp only[h1,h2,h3,Bool.or_false,Bool.false_eq_true,if_false]
 refine wpAny_bind (xv (s:={ s with heap:=H }) hS1 fun h' d' I fp ord St hk hI hIf hfp W st ⟨ys,hys,hp⟩=>?_)
 have ty':Shared.TypeIs { s with heap:=h',drawn:=d' } (.ref S) "set" := ⟨o,hk S o (old S o ho),hex.1⟩
 refine wpAny_bind (wpAny_holding ?_)
 unfold Builtin.List.listLengthHint
 refine wpAny_bind (wpAny_specialOf (T := "set") (v:=.ref S) ty' SF.set_len ?_)
 wp_delta
 refine wpAny_bind (wpAny_isInstance (T := "set") (v:=.ref S) (b:=true) ty' SF.sub_set ?_)
 show wpAny _ A.in1 (typeOf (Value.ref S) >>= _) _ _ _
 refine wpAny_bind (wpAny_typeOf (T := "set") (v:=.ref S) ty' ?_)
 refine wpAny_pure ?_
 have hDI:s.heap.objs.size≠I:=fun z=>by
   have:H.objs.size<=I:=hI
   rw[hHs] at this
   omega
 have hSf:s.heap.objs.size∉fp:=fun hb=>by
   rcases (hfp _ hb).2 with z|z
   . exact absurd z (Nat.ne_of_gt hlt)
   . have:H.objs.size<=s.heap.objs.size:=z
     rw[hHs] at this
     omega
 have hlen:ord.length=ss.length:=by
   have a1:ord.length=ys.length:=hys.length
   rw[a1,hp.length_eq]
 have key:∀(h1:Heap) (c₁:Nat),St 0 h1->(∀b ob,b≠s.heap.objs.size->h'.get? b=some ob->h1.get? b=some ob)->h1.get? s.heap.objs.size=some { cls:=.type "list",data:=.seq #[] c₁ }->
     codeAny (model P w) A (.builtin "list.extend.loop" ⟨[.ref s.heap.objs.size,.ref I,.ref s.heap.objs.size],[]⟩)
       (fun r s'=>r=.ok (.ret (.ref s.heap.objs.size))/\∃acc' c',s'.heap.get? s.heap.objs.size=some { cls:=.type "list",data:=.seq acc' c' }/\Q acc'.toList s') { s with heap:=h1,drawn:=d' }:=by
   intro h1 c₁ st1 hk1 hD1
   refine codeAny_extend_loopS (W A.in1 hh).toS (by rw[hlen];exact hl) _ hSf _ ord.length 0 _ #[] c₁ rfl (Nat.zero_le _) st1 hD1 (ItemsOf.nil _) fun s' acc' c' hm hS' hacc=>?_
   refine⟨rfl,acc',c',hS',?_⟩
   have eacc:acc'.toList=ord:=by
     refine List.ext_getElem? fun i=>?_
     rw[Array.getElem?_toList]
     by_cases hi:i<acc'.size
     . have e:acc'[i]? = some acc'[i]:=by simp[hi]
       rw[e,hacc.2 i _ e]
     . have hi':ord.length<=i:=by have:=hacc.1;omega
       rw[List.getElem?_eq_none hi']
       simp;omega
   have heq:s'={ s with heap:=s'.heap,drawn:=d',toks:=s'.toks }:=Moved.eq_with hm
   rw[eacc,heq]
   refine h s'.heap d' s'.toks ord ys (fun b ob e=>?_) (Nat.le_of_lt (Heap.lt_size hS')) hys hp
   have hb1:b≠s.heap.objs.size:=Nat.ne_of_lt (Heap.lt_size e)
   have hb2:b≠I:=fun z=>by
     have hz:H.objs.size<=b:=by rw[z];exact hI
     rw[hHs] at hz
     exact Nat.lt_irrefl _ (Nat.lt_of_lt_of_le (Nat.lt_succ_of_lt (Heap.lt_size e)) hz)
   exact hm.heap b ob (by simp[hb1,hb2]) (hk1 b ob hb1 (hk b ob (old b ob e)))
 have hD':h'.get? s.heap.objs.size=some { cls:=.type "list",data:=.seq #[] }:=hk _ _ hD
 have fin:∀(h1:Heap) (c₁:Nat),St 0 h1->(∀b ob,b≠s.heap.objs.size->h'.get? b=some ob->h1.get? b=some ob)->h1.get? s.heap.objs.size=some { cls:=.type "list",data:=.seq #[] c₁ }->∀(R:Result->Shared->Prop),
     (∀s' acc' c',s'.heap.get? s.heap.objs.size=some { cls:=.type "list",data:=.seq acc' c' }->Q acc'.toList s'->R (.ok (.ret (.ref s.heap.objs.size))) s')->
     codeAny (model P w) A (.builtin "list.extend.loop" ⟨[.ref s.heap.objs.size,.ref I,.ref s.heap.objs.size],[]⟩) R { s with heap:=h1,drawn:=d' }:=by
   intro h1 c₁ a1 a2 a3 R hR
   refine codeAny_mono (key h1 c₁ a1 a2 a3) fun r s' ⟨e,acc',c',q1,q2⟩=>?_
   subst e
   exact hR s' acc' c' q1 q2
 have last:∀(R:Result->Shared->Prop),R=R->True:=fun _ _=>trivial
 refine wpAny_ite_split (fun _=>?_) (fun _=>wpAny_pure ⟨plainId_quiet PySem.F.plain_extend_loop _,fin h' 0 st (fun b ob _ e=>e) hD' _ fun s' acc' c' q1 q2=>?_⟩)
 . refine wpAny_bind (wpAny_rule ?_)
   refine wpAny_bind ?_
   show wpAny _ _ (updateSeq s.heap.objs.size (·.push .none) >>= fun _=>updateSeq s.heap.objs.size (·.pop)) _ _ _
   refine wpAny_bind (wpAny_updateSeq hD' rfl ?_)
   have hS₂:=Heap.get?_update_self (Obj.mapSeq (·.push Value.none)) hD' rfl
   refine wpAny_updateSeq (hz:=by seq_fits) hS₂ rfl ?_
   have hS₃:=Heap.get?_update_self (Obj.mapSeq (·.pop)) hS₂ rfl
   refine wpAny_pure ⟨plainId_quiet PySem.F.plain_extend_loop _,fin _ _ ?_ (fun b ob hb e=>?_) hS₃ _ fun s' acc' c' q1 q2=>?_⟩
   . refine (W A.in1 hh).frame 0 _ _ st fun b hb o e=>?_
     have hbS:b≠s.heap.objs.size:=fun z=>hSf (z ▸ hb)
     exact (Heap.get?_update_other _ _ (Ne.symm hbS)).trans ((Heap.get?_update_other _ _ (Ne.symm hbS)).trans e)
   . exact (Heap.get?_update_other _ _ (Ne.symm hb)).trans ((Heap.get?_update_other _ _ (Ne.symm hb)).trans e)
   . show wpAny _ A (load s.heap.objs.size >>= _) _ _ _
     exact wpAny_bind (wpAny_load q1 (wpAny_pure q2))
 . show wpAny _ A (load s.heap.objs.size >>= _) _ _ _
   exact wpAny_bind (wpAny_load q1 (wpAny_pure q2))
theorem xq {E:Value->Shared->Prop}{s:Shared}{S:Addr}{ss:List Str}{Q:Value->Shared->Prop}(hh:A.handled=none) (hS:SSet P w s.heap S ss) (h64:ss.length<64)
   (h:∀(h':Heap) (d':Drawn) (tk:Nat) (l:Addr) (vs:List Value) (zs:List Str) (e:Nat),(∀b o,s.heap.get? b=some o->h'.get? b=some o)->s.heap.objs.size<=l->h'.get? l=some { cls:=.type "list",data:=.seq vs.toArray e }->StrsAre vs zs->zs.Perm ss->sortedS zs=true->
     Q (.ref l) { s with heap:=h',drawn:=d',toks:=tk }) :
   wpAny (model P w) A (call (.builtin "sorted") [.ref S]) Q E s:=by
 refine Calls.call_function_entry kind_sorted plain_sorted entry_sorted (args_sorted1 _) ?_
 unfold Builtin.«sorted»
 refine wpAny_bind (m:=checkCount "sorted" 1 1 _) (wpAny_pure ?_)
 refine wpAny_bind (vo (A:=A.in1) (show A.in1.handled=none from hh) hS (by rw[sizeLine_eq];omega) fun h1 d1 tk1 ord ys hk1 hsz1 hys hp1=>?_)
 have hn:ord.length<64:=by
   have:ord.length=ys.length:=hys.length
   rw[this,hp1.length_eq];exact h64
 refine wpAny_bind (wpAny_newList ?_ (by rw[sizeLine_eq];omega))
 have hoL:(h1.push (seqObj "list" ord.toArray 0)).get? h1.objs.size=some (seqObj "list" ord.toArray 0):=Heap.get?_push_size _ rfl
 show wpAny _ _ _ _ _ { s with heap:=h1.push (seqObj "list" ord.toArray 0),drawn:=d1,toks:=tk1 }
 refine wpAny_bind (wpAny_holding (wpAny_call_entry slot_list_sort ⟨_,hoL,rfl⟩ entry_list_sort (list_sort_treeK strKind_oneLt hoL hys.keysOf (fun v₁ v₂ rest e=>keyKind_strs (by rw[<- e];exact hys)) hn fun st' a1 a2=>⟨_,rfl,?_⟩) (args_list_sort _)))
 obtain⟨zs,q1,q2,q3⟩:=sorted_out_str hys a1 a2
 refine wpAny_pure ⟨_,rfl,?_⟩
 obtain⟨e,he⟩:=sortedHeap_at (out:=(arrOf st').map (·.2)) hoL
 refine h _ d1 tk1 h1.objs.size ((arrOf st').map (·.2)).toList zs e (fun b o q=>?_) hsz1 he q1 (q2.trans hp1) q3
 have hb:=Heap.lt_size (hk1 b o q)
 rw[sortedHeap_old (Nat.ne_of_lt hb) (by rw[Heap.size_push];exact Nat.lt_succ_of_lt hb)]
 exact Heap.get?_push_of_some _ (hk1 b o q)
end
section
variable {X:Cx}
noncomputable def SetO (P:Program) (w:World) (a:Addr) (ss:List Str):HO:=.ext fun h=>SSet P w h a ss
theorem ld:∀{xs:List Str}{us:List Value},Vals (xs.map V.str) us->StrsAre us xs
 | [],_,h=>by cases h;exact .nil
 | x::r,_,h=>by
   cases h with
   | cons h1 h2=>obtain⟨t,rfl⟩:=h1;exact .cons x t (ld h2)
theorem lp:∀{us:List Value}{xs:List Str},StrsAre us xs->Vals (xs.map V.str) us
 | _,_,.nil=>.nil
 | _,_,.cons x t r=>.cons ⟨t,rfl⟩ (lp r)
theorem w8 (hc:X.calm=true):cf X (.type "set") (fun vs H Q=>∃(a:Addr) (xs:List Str),vs=[.ref a]/\SqL X.K H a (xs.map V.str)/\xs.length+1<scanBound/\
   ∀p ss,H p=none->Dd xs ss->Q (.ref p) (upd H p (SetO X.prog X.w p ss))):=by
 intro pins s σ H vs us Q I r h
 obtain⟨a,xs,rfl,hq,hz,q⟩:=h
 obtain⟨u,rfl,ru⟩:=r.one
 cases ru
 obtain⟨its,rv,p,_⟩:=I.list hq
 have hs:=ld rv
 have hl:its.length=xs.length:=hs.length
 refine uh (I.ok.hd hc) p.isList (by simpa using hs) (by rw[List.size_toArray,hl];exact hz) fun h' tk ss hS hd hk=>?_
 have fr:H s.heap.objs.size=none:=I.hok.fresh (Nat.le_refl _)
 refine⟨.ref s.heap.objs.size,upd H s.heap.objs.size (SetO X.prog X.w s.heap.objs.size ss),I.laid (t':=tk) (fun b o e=>hk b o (Heap.lt_size e) e) (Nat.le_refl _) ⟨hS,?_,fun h1 h2 h3 k=>?_⟩,rfl,q _ ss fr hd⟩
 . obtain⟨o,_,_,_,ho,_⟩:=hS;exact⟨o,ho⟩
 . exact SSet.at h3 k
theorem j3 (hc:X.calm=true):cf X (.builtin "sorted") (fun vs H Q=>∃(a:Addr) (ss:List Str),vs=[.ref a]/\H a=some (SetO X.prog X.w a ss)/\ss.length<64/\
   ∀p zs,H p=none->zs.Perm ss->sortedS zs=true->Q (.ref p) (upd H p (.lst (zs.map V.str)))):=by
 intro pins s σ H vs us Q I r h
 obtain⟨a,ss,rfl,hq,hz,q⟩:=h
 obtain⟨u,rfl,ru⟩:=r.one
 cases ru
 have hS:SSet X.prog X.w s.heap a ss:=(I.hok a _ hq).1
 refine xq (I.ok.hd hc) hS hz fun h' d' tk l ws zs e hk hl hget hs hp hso=>?_
 have fr:H l=none:=I.hok.fresh hl
 have hzl:zs.length<64:=by rw[hp.length_eq];exact hz
 have ok':HOk X.prog X.w (upd H l (.lst (zs.map V.str))) h':=I.hok.laid (a:=l) (o:=.lst (zs.map V.str)) hk hl ⟨by rw[List.length_map];exact Nat.le_of_lt (dw (by omega)),ws,e,lp hs,hget⟩
 have un:Un (frs X.stack) [] H (upd H l (.lst (zs.map V.str))) s.heap h':=Un.laid hk hl fr
 exact⟨.ref l,_,I.call (g':=s.gens) (d':=d') (t':=tk) (ch:=[]) un ok' I.bare (fun b z=>absurd z (by simp)),rfl,q l zs fr hp hso⟩
end
section
variable {P:Program}{w:World}{K:PySem.W.Frag}{mg:Str->Option Value}{base:Heap}{N:List Str}{qual:Str}{scope:Scope}{f:Addr}{cd:Value}{A:Around}{outer:List Env}{s₀:Shared}{H₀:Hp}{E:XK}
end
section
variable {P:Program}{w:World}{K:PySem.W.Frag}{mg:Str->Option Value}{base:Heap}{N:List Str}{qual:Str}{scope:Scope}{f:Addr}{cd:Value}{A:Around}{outer:List Env}{s₀:Shared}{H₀:Hp}{E:XK}
end
section
variable {X:Cx}{E:XK}{x:Str}{C:Addr}{B newId initId:String}{bmB:List Value}{np cpos pos:Pos}{e:Expr}{es:List Expr}{t:TA}
end
section
variable {X:Cx}{pins₀:List (Addr×Obj)}{E:XK}
theorem Inv.track {Y:Cx}{pins:List (Addr×Obj)}{σ:St}{H:Hp}{s:Shared}{a:Addr}{o:HO}(I:Inv Y pins σ H s) (hn:H a=none) (h0:Y.s₀.heap.get? a=none) (hL:a≠Y.env.locals) (hc:∀x c,Y.env.cells.lookup x=some c->c≠a)
   (hp:∀p∈Y.pn++pins,p.1≠a) (ho:ObjOk Y.prog Y.w (upd H a o) s.heap a o):Inv Y pins σ (upd H a o) s:=by
 have keep:∀b u,H b=some u->upd H a o b=some u:=fun b u e=>by rw[ac (ai e hn)];exact e
 refine⟨I.ok,I.os,I.bare,⟨I.base.keep,I.base.slot,fun b ob e n hx=>?_,I.base.there,fun b xs e=>keep b _ (I.base.tups b xs e),fun b ob xs e=>keep b _ (I.base.frzs b ob xs e),fun b ps e=>?_⟩,I.loc,I.cell,?_,fun x c e=>?_,fun p q=>?_,fun b u e=>?_,I.len⟩
 . have:b≠a:=fun z=>by rw[z,h0] at e;cases e
   rw[ac this];exact I.base.free b ob e n hx
 . obtain⟨m,e'⟩:=I.base.tbls b ps e
   exact⟨m,keep b _ e'⟩
 . rw[ac (Ne.symm hL)];exact I.free
 . rw[ac (hc x c e)];exact I.freeC x c e
 . obtain⟨p1,p2,p3⟩:=I.pin p q
   exact⟨p1,by rw[ac (hp p q)];exact p2,p3⟩
 . by_cases hb:b=a
   . subst hb;rw[a0] at e;cases e;exact ho
   . rw[ac hb] at e
     exact (I.hok b u e).stay (fun _ _ _ q=>q) (fun c q=>keep c _ q) fun c xs q=>keep c _ q
end
section
variable {X:Cx}{E:XK}{c n:Str}{C:Addr}{i:Nat}{body suite:List Stmt}{b₀:Stmt}{tb ts:TS}{np hpos pos:Pos}
end
open PySem.Builtin PySem.Builtin.ObjectAttr PySem.Builtin.Getset_descriptor
section
variable {prog:Program}{w:World}{A:Around}{E:Value->Shared->Prop}{h:Heap}{g:Array GenState}{d:Drawn}{t:Nat}{os:OsState}{K:PySem.W.Frag}{a C:Addr}{o:Obj}
end
section
variable {X:Cx}
end
mutual
inductive Dp (K:PySem.W.Frag) (H:Hp):V->PyData->Prop
 | non:Dp K H .non .none
 | bl (b:Bool):Dp K H (.bl b) (.bool b)
 | int (i:Int):Dp K H (.int i) (.int i)
 | str (x:Str):Dp K H (.str x) (.str x)
 | lst {a:Addr} {xs:List V} {ds:List PyData}:SqL K H a xs->DpAll K H xs ds->Dp K H (.ref a) (.list ds)
 | tup {a:Addr} {xs:List V} {ds:List PyData}:SqT K H a xs->DpAll K H xs ds->Dp K H (.ref a) (.tuple ds)
inductive DpAll (K:PySem.W.Frag) (H:Hp):List V->List PyData->Prop
 | nil:DpAll K H [] []
 | cons {v:V} {vs:List V} {d:PyData} {ds:List PyData}:Dp K H v d->DpAll K H vs ds->DpAll K H (v::vs) (d::ds)
end
section
variable {X:Cx}{pins:List (Addr×Obj)}{σ:St}{H:Hp}{s:Shared}
mutual
theorem Dp.reads (I:Inv X pins σ H s):∀{v:V}{d:PyData},Dp X.K H v d->∀{u:Value},RelV v u->∃as,Reads s.heap u d as
 | _,_,.non,_,r=>by cases r;exact⟨_,.none⟩
 | _,_,.bl b,_,r=>by cases r;exact⟨_,.bool b⟩
 | _,_,.int i,_,r=>by obtain⟨t,rfl⟩:=r;exact⟨_,.int i t⟩
 | _,_,.str x,_,r=>by obtain⟨t,rfl⟩:=r;exact⟨_,.str x t⟩
 | _,_,.lst hs ha,_,r=>by
   cases r
   obtain⟨its,rv,⟨o,n,e,hc,_,hd⟩,_⟩:=I.list hs
   obtain⟨as,ra⟩:=DpAll.reads I ha rv
   exact⟨_,.list e hc hd (by simpa using ra)⟩
 | _,_,.tup hs ha,_,r=>by
   cases r
   obtain⟨its,rv,⟨o,e,hc,n,hd⟩,_⟩:=I.tuple hs
   obtain⟨as,ra⟩:=DpAll.reads I ha rv
   exact⟨_,.tuple e hc hd (by simpa using ra)⟩
theorem DpAll.reads (I:Inv X pins σ H s):∀{vs:List V}{ds:List PyData},DpAll X.K H vs ds->∀{us:List Value},Vals vs us->∃as,ReadsAll s.heap us ds as
 | _,_,.nil,_,r=>by cases r;exact⟨_,.nil⟩
 | _,_,.cons h1 h2,_,r=>by
   cases r with
   | cons r1 r2 =>
     obtain⟨as,q1⟩:=Dp.reads I h1 r1
     obtain⟨bs,q2⟩:=DpAll.reads I h2 r2
     exact⟨_,.cons q1 q2⟩
end
end
noncomputable def EqOk (d:PyData):Prop:=d.canLay0=true/\d.depth<=16
section
variable {X:Cx}
noncomputable def rNeD (K:PySem.W.Frag):R2:=fun x y H Q=>∃dx dy,Dp K H x dx/\Dp K H y dy/\EqOk dx/\EqOk dy/\Q (.bl (!PyData.eqv dx dy)) H
theorem a3u (hu:X.A.units+32<cLine):OpR X (compareOp .NotEq) (rNeD X.K):=by
 intro pins s σ H x y v u Q I rx ry h
 obtain⟨dx,dy,h1,h2,o1,o2,q⟩:=h
 obtain⟨as,ra⟩:=Dp.reads I h1 rx
 obtain⟨bs,rb⟩:=Dp.reads I h2 ry
 exact SeqAt.compareNe_reads ra rb o1.1 o2.1 (by have:=o1.2;have:=Nat.min_le_left dx.depth dy.depth;omega) ⟨.bl _,H,I,rfl,q⟩
end
noncomputable def RowAt (K:PySem.W.Frag) (H:Hp) (a:Addr) (r:List Str):Prop:=SqT K H a (r.map V.str)
noncomputable def RowsAt (K:PySem.W.Frag) (H:Hp) (a:Addr) (rs:List (List Str)):Prop:=∃as:List Addr,H a=some (.lst (as.map V.ref))/\Paired (fun b r=>RowAt K H b r) as rs
noncomputable def a9j (K:PySem.W.Frag) (H:Hp) (a:Addr) (rss:List (List (List Str))):Prop:=∃as:List Addr,SqT K H a (as.map V.ref)/\Paired (fun b rs=>RowsAt K H b rs) as rss
theorem Same.seqT {K:PySem.W.Frag}{H H':Hp}{a:Addr}{xs:List V}(e:Same H H') (h:SqT K H a xs):SqT K H' a xs:=by
 rcases h with (h|⟨o,h⟩)|h
 . exact .inl (.inl (e _ _ h))
 . exact .inl (.inr ⟨o,e _ _ h⟩)
 . exact .inr h
theorem RowAt.same {K:PySem.W.Frag}{H H':Hp}{a:Addr}{r:List Str}(h:RowAt K H a r) (e:Same H H'):RowAt K H' a r:=e.seqT h
theorem RowsAt.same {K:PySem.W.Frag}{H H':Hp}{a:Addr}{rs:List (List Str)}(h:RowsAt K H a rs) (e:Same H H'):RowsAt K H' a rs:=by
 obtain⟨as,h1,h2⟩:=h
 exact⟨as,e _ _ h1,Paired.mapP h2 fun b r z=>z.same e⟩
theorem ad {H:Hp}{p:Addr}(h:H p=none) (o:HO):Same H (upd H p o):=fun b u q=>by rw[ac (ai q h)];exact q
noncomputable def um (K:PySem.W.Frag) (w:World) (a:Addr) (kvs:List (Str×V)):Prop :=
 ∃es n,K.lookup a=some ⟨.type "dict",none,.dict es n,#[]⟩/\PySem.W.KeysLit w.params es.toList/\(a == sysModules)=false/\∀x,RelO (kvs.lookup x) (findBy Value.isStrOf es x)
noncomputable def a6t (X:Cx) (to:TE) (t:TA):TE:=fun σ H Q=>to σ H fun x H1=>∃a kvs,x=.ref a/\um X.K X.w a kvs/\t σ H1 fun ys H2=>∃z,ys=[.str z]/\Q ((kvs.lookup z).getD .non) H2
section
variable {X:Cx}{o e:Expr}{to:TE}{t:TA}{apos cpos:Pos}
theorem a8m (ho:PE X o to) (ha:PA X [e] t)
   (hbase:attributeBase o "get" X.env (eval o X.env)=eval o X.env:=by rfl)
   (hfew:((backTo cpos (starEach [e] X.env)).all (fun x => !x.1) && (backToKw cpos (keywordEach [] X.env)).all (fun x=>x.1.isSome)
     && decide ([e].length+([]:List Keyword).length+(if ([]:List Keyword).isEmpty then 0 else 1)<30))=true:=by rfl)
   (hline:(apos.endLine == cpos.line)=true:=by rfl) (hs:starEach [e] X.env=(false,eval e X.env)::starEach [] X.env:=by rfl) (hplain:(backTo cpos (starEach [] X.env)).any (·.1)=false:=by rfl) :
   PE X (.Call (.Attribute o "get" apos) [e] [] cpos) (a6t X to t):=by
 intro pins s σ H Q I h
 refine wpAny_Call_method_late hbase hfew hline rfl (thn (ho pins s σ H _ I h) fun v s1 ⟨x,H1,I1,r1,a,kvs,ex,hd,q1⟩=>?_)
 subst ex
 cases r1
 obtain⟨es,n,hl,hk,hno,hv⟩:=hd
 have mp:∀s':Shared,X.K.In s'.heap->s'.heap.MapOf (strKind X.prog X.w) a (fun k=>findBy Value.isStrOf es k):=fun s' kin=>PySem.W.mapOf_K kin hl hk
 have mp1:=mp s1 I1.kIn
 refine⟨"dict","dict.get",PySem.F.plainAttrs_dict,PySem.F.slot_dict_get,PySem.F.type_dict_get,mp1.typeIs,mp1.noDict,?_⟩
 have hA:=ha cpos pins s1 σ H1 _ I1 q1
 rw[hs] at hA |-
 refine Calls.callWith_builtin (by show (false || (backTo cpos (starEach [] X.env)).any (·.1))=false;rw[hplain]<;>rfl) (Calls.evalArgs_plain ?_)
 refine thn hA fun us s2 ⟨vs,H2,I2,r2,z,ez,q2⟩=>?_
 subst ez
 obtain⟨u,rfl,ru⟩:=r2.one
 obtain⟨t',rfl⟩:=ru
 have mp2:=mp s2 I2.kIn
 refine call_meetsIn PySem.F.slot_dict_get mp2.typeIs PySem.F.entry_dict_get (PySem.F.args_dict_get_2 _ _) (meets_dict_get (strKind X.prog X.w) a (strKind_is _ _ z t') hno) ⟨_,mp2,?_⟩
 have hz:=hv z
 refine⟨(kvs.lookup z).getD .non,H2,I2.tok _,?_,q2⟩
 cases e1:kvs.lookup z with
 | none =>
   rw[e1] at hz
   cases e2:findBy Value.isStrOf es z with
   | none=>rfl
   | some u=>rw[e2] at hz;exact hz.elim
 | some v =>
   rw[e1] at hz
   cases e2:findBy Value.isStrOf es z with
   | none=>rw[e2] at hz;exact hz.elim
   | some u=>rw[e2] at hz;exact hz
end
open PySem.Builtin.Str
noncomputable def cutS (z:Str) (lo hi:Option Int):Str:=⟨((z.cps.toList.drop (HT.sIx z.length 0 lo)).take (HT.sIx z.length z.length hi - HT.sIx z.length 0 lo)).toArray⟩
theorem qk (n d:Nat) (hd:d<=n) (v:Option Int) (hv:∀i,v=some i -> -(n:Int)<=i\/0<=i\/True):HT.sIx n d v<=n:=by
 cases v with
 | none=>exact hd
 | some i =>
   show (if i<0 then (i+(n:Int)).toNat else min i.toNat n)<=n
   split<;>omega
theorem xg (n d:Nat) (hd:d<=n) (v:Option Int):(match v with|none=>(d:Int)|some i=>max 0 (min (if i<0 then i+(n:Int) else i) (n:Int)))=((HT.sIx n d v:Nat):Int):=by
 cases v with
 | none=>rfl
 | some i =>
   show max 0 (min (if i<0 then i+(n:Int) else i) (n:Int))=((if i<0 then (i+(n:Int)).toNat else min i.toNat n:Nat):Int)
   split<;>omega
theorem yo (lo hi:Option Int) (n:Nat):strSliceIndices lo hi 1 n=(List.range (HT.sIx n n hi - HT.sIx n 0 lo)).map (fun k=>HT.sIx n 0 lo+k):=by
 have e1:=xg n 0 (Nat.zero_le _) lo
 have e2:=xg n n (Nat.le_refl _) hi
 have key:strSliceIndices lo hi 1 n=sliceRange ((HT.sIx n 0 lo:Nat):Int) ((HT.sIx n n hi:Nat):Int) 1:=by
   rw[<- e1,<- e2]
   cases lo<;>cases hi<;>rfl
 rw[key]
 generalize HT.sIx n 0 lo=a
 generalize HT.sIx n n hi=b
 unfold sliceRange
 simp only[show ((1:Int)>0)=True from by simp,if_true]
 by_cases h:(a:Int)<b
 . rw[if_pos h]
   have e3:(((b:Int) - a+1 - 1) / 1).toNat=b - a:=by omega
   rw[e3]
   refine List.map_congr_left fun k _=>?_
   omega
 . rw[if_neg h]
   have e4:b - a=0:=by omega
   rw[e4]
   rfl
theorem a3t (z:Str) (lo hi:Option Int):((strSliceIndices lo hi 1 z.length).filterMap (z.cps[·]?))=(z.cps.toList.drop (HT.sIx z.length 0 lo)).take (HT.sIx z.length z.length hi - HT.sIx z.length 0 lo):=by
 rw[yo]
 have hz:z.length=z.cps.toList.length:=by simp[Str.length]
 have hb:HT.sIx z.length z.length hi<=z.length:=qk _ _ (Nat.le_refl _) hi fun _ _=>.inr (.inr trivial)
 generalize HT.sIx z.length 0 lo=a at*
 generalize HT.sIx z.length z.length hi=b at*
 by_cases h:a<=b
 . have:=StrLaws.picks z.cps.toList (b - a) a (by omega)
   simpa using this
 . have e:b - a=0:=by omega
   rw[e]
   simp
section
variable {X:Cx}
noncomputable def rSlS:V->Option Int->Option Int->Hp->VK->Prop:=fun x lo hi H Q=>∃z,x=.str z/\z.length<=sizeLine/\Q (.str (cutS z lo hi)) H
theorem vc:SlR X rSlS:=by
 intro pins s σ H x v vl vu lo hi sl Q I rx hs pl pu h
 obtain⟨z,rfl,hz,q⟩:=h
 obtain⟨t,rfl⟩:=rx
 refine⟨"str",_,PySem.F.slot_str_getitem.lookup,typeIs_str s z t,?_⟩
 obtain⟨l,hl,el⟩:∃l:Option (Int×Tok),partValue l=vl/\l.map (·.1)=lo:=by
   cases pl with
   | none=>exact⟨none,rfl,rfl⟩
   | int i t=>exact⟨some (i,t),rfl,rfl⟩
 obtain⟨u,hu,eu⟩:∃u:Option (Int×Tok),partValue u=vu/\u.map (·.1)=hi:=by
   cases pu with
   | none=>exact⟨none,rfl,rfl⟩
   | int i t=>exact⟨some (i,t),rfl,rfl⟩
 have hS:s.heap.IsSlice sl l u none:=by
   obtain⟨o,ho,hc,hd⟩:=hs
   exact⟨o,ho,hc,by rw[hd,hl,hu];rfl⟩
 refine getItem_meets (typeIs_str s z t) (by decide) PySem.F.slot_str_getitem PySem.F.entry_str_getitem (PySem.F.args_str_getitem_2 _ _) (meets_str_getitem_slice z t sl l u none (by decide)) ⟨hS,?_⟩
 have epick:slicePicked z l u none=strSliceIndices lo hi 1 z.length:=by
   unfold slicePicked
   rw[el,eu]
   rfl
 have ecut:((slicePicked z l u none).filterMap (z.cps[·]?))=(z.cps.toList.drop (HT.sIx z.length 0 lo)).take (HT.sIx z.length z.length hi - HT.sIx z.length 0 lo):=by rw[epick];exact a3t z lo hi
 unfold sliceMade
 split
 . rename_i hw
   have hlen:(slicePicked z l u none).length=z.length:=by simpa using hw
   have eq:cutS z lo hi=z:=by
     have e1:((z.cps.toList.drop (HT.sIx z.length 0 lo)).take (HT.sIx z.length z.length hi - HT.sIx z.length 0 lo))=z.cps.toList:=by
       rw[epick,yo,List.length_map,List.length_range] at hlen
       have hb:HT.sIx z.length z.length hi<=z.length:=qk _ _ (Nat.le_refl _) hi fun _ _=>.inr (.inr trivial)
       rcases Nat.eq_zero_or_pos z.length with h0|h0
       . have:z.cps.toList=[]:=by
           have:z.cps.toList.length=0:=by simpa [Str.length] using h0
           exact List.eq_nil_of_length_eq_zero this
         rw[this];simp
       . have ea:HT.sIx z.length 0 lo=0:=by omega
         have eb:HT.sIx z.length z.length hi=z.length:=by omega
         rw[ea,eb,List.drop_zero,Nat.sub_zero]
         exact List.take_of_length_le (by simp[Str.length])
     unfold cutS
     rw[e1]
   rw[eq] at q
   exact⟨.str z,H,I,⟨t,rfl⟩,q⟩
 . show (Made.str _).post _ s
   rw[ecut]
   refine⟨?_,.str (cutS z lo hi),H,I.tok _,⟨_,rfl⟩,q⟩
   refine Nat.le_trans ?_ hz
   show ((z.cps.toList.drop (HT.sIx z.length 0 lo)).take (HT.sIx z.length z.length hi - HT.sIx z.length 0 lo)).toArray.size<=z.cps.size
   rw[List.size_toArray,List.length_take,List.length_drop,Array.length_toList]
   omega
theorem ju:OpR X (compareOp .In) (fun x y H Q=>∃(c:Nat) (z:Str),x=.str ⟨#[c]⟩/\y=.str z/\Q (.bl (decide (c∈z.cps.toList))) H):=by
 intro pins s σ H x y v u Q I rx ry h
 obtain⟨c,z,rfl,rfl,q⟩:=h
 refine a4e pins s σ H _ _ v u Q I rx ry ⟨_,_,rfl,rfl,?_⟩
 rw[StrLaws.found_one]
 exact q
end
noncomputable def Glob (mg:Str->Option Value) (x:Str) (v:V):Prop:=∃u,mg x=some u/\RelV v u
theorem pe_g {X:Cx}{x:Str}{v:V}{pos:Pos}(h:Glob X.mg x v) (hg:Gl X x:=by rfl) (hd:(x == ("__debug__" : Str))=false:=by decide):PE X (.Name x pos) (tC v):=by
 obtain⟨u,hm,r⟩:=h
 exact a72 hg hm r hd
theorem wj {sc:Scope}{env:Env}(hfree:∀y∈sc.names,y.2≠.free) (hcell:∀y∈sc.names,y.2≠.cell) (y:Str) (h:(relabel sc env).names.lookup y=some .cell\/(relabel sc env).names.lookup y=some .free):False:=by
 have key:∀k,(relabel sc env).names.lookup y=some k->∃z∈sc.names,z.2=k\/z.2=.free:=fun k e=>by
   have hm:=PySem.mem_of_lookup e
   obtain⟨z,hz,ez⟩:=List.mem_map.mp hm
   refine⟨z,hz,?_⟩
   obtain⟨n,kk⟩:=z
   dsimp only at ez
   split at ez
   . rename_i hc
     simp only[Bool.and_eq_true,beq_iff_eq] at hc
     exact .inr hc.1.1
   . exact .inl (congrArg Prod.snd ez)
 rcases h with h|h
 . obtain⟨z,hz,q|q⟩:=key _ h
   . exact hcell z hz q
   . exact hfree z hz q
 . obtain⟨z,hz,q|q⟩:=key _ h
   . exact hfree z hz q
   . exact hfree z hz q
theorem pj {X:Cx}{elt iter:Expr}{x:Str}{px pos:Pos}{ifs:List Expr}{sc:Scope}{wi:TI}{tc:TT}{te:TE}(hi:PI X (.Name x px) iter wi) (hif:∀s H C ex,PTs (blk X [x] s H sc [] C ex) ifs tc) (he:∀s H C ex,PE (blk X [x] s H sc [] C ex) elt te)
   (hc:X.calm=true:=by rfl) (hkind:sc.kind=.function:=by rfl) (hx:sc.names.lookup x=some .local:=by decide +kernel) (hfree:∀y∈sc.names,y.2≠.free:=by decide +kernel) (hcell:∀y∈sc.names,y.2≠.cell:=by decide +kernel)
   (hnames:∀y∈sc.names,y.2=.local->sc.names.lookup y.1=some .local:=by decide +kernel) (hs:∀x,foldedSetIterable iter X.env x=pure x:=by intro _;rfl) :
   PE X (.ListComp elt [⟨.Name x px,iter,ifs,0⟩] sc pos) (kx [] wi tc te) :=
 yp [x] hc hi hif he hkind rfl (by simp) hx (PySem.closureFor_none hfree) hcell hnames (fun y c e=>by simp at e) (fun y h=>(wj hfree hcell y h).elim) (fun j hj=>by simp at hj) hs
structure JSeq (J:It) (I0:Hp->Prop) (xs:List V):Prop where
 go:∀i H,I0 H->i<xs.length->J.go i H
 stop:∀i H,I0 H->xs.length<=i->J.stop i H
 yld:∀i H x H',i<xs.length->I0 H->J.yld i H x H'->H'=H/\xs[i]? = some x
 stay:∀H H',I0 H->Same H H'->I0 H'
theorem wo {K:PySem.W.Frag}{a:Addr}{xs:List V}:JSeq (Itt K a) (fun H=>SqT K H a xs) xs where
 go:=fun i H h hi=>⟨xs,xs[i],h,by simp[hi]⟩
 stop:=fun i H h hi=>⟨xs,h,hi⟩
 yld:=fun i H x H' _ h y=>⟨y.1,y.2 xs h⟩
 stay:=fun H H' h e=>e.seqT h
theorem i3 {K:PySem.W.Frag}{a:Addr}{xs:List V}:JSeq (Itl K a) (fun H=>SqL K H a xs) xs where
 go:=fun i H h hi=>⟨xs,xs[i],h,by simp[hi]⟩
 stop:=fun i H h hi=>⟨xs,h,hi⟩
 yld:=fun i H x H' _ h y=>⟨y.1,y.2 xs h⟩
 stay:=fun H H' h e=>e.seq h
noncomputable def jv (z:Str):List V:=z.cps.toList.map fun c=>V.str ⟨#[c]⟩
theorem a5t {z:Str}:JSeq (Its z) (fun _=>True) (jv z) where
 go:=fun i H _ hi=>by simpa [jv,Its] using hi
 stop:=fun i H _ hi=>by simpa [jv,Its] using hi
 yld:=fun i H x H' _ _ y=>by
   obtain⟨e,c,hc,rfl⟩:=y
   refine⟨e,?_⟩
   unfold jv
   rw[List.getElem?_map,Array.getElem?_toList,hc];rfl
 stay:=fun _ _ _ _=>trivial
noncomputable def nums (lo:Int) (n:Nat):List V:=(List.range n).map fun i=>V.int (lo+(i:Nat))
theorem xk {lo:Int}{n:Nat}:JSeq (Itr lo n) (fun _=>True) (nums lo n) where
 go:=fun i H _ hi=>by simpa [nums,Itr] using hi
 stop:=fun i H _ hi=>by simpa [nums,Itr] using hi
 yld:=fun i H x H' hi _ y=>by
   refine⟨y.1,?_⟩
   have hi':i<n:=by simpa [nums] using hi
   have e:x=.int (lo+i):=y.2
   unfold nums
   rw[List.getElem?_map,List.getElem?_range hi',e];rfl
 stay:=fun _ _ _ _=>trivial
theorem Paired.snocP {α β:Type}{F:α->β->Prop}{x:α}{y:β}:∀{l₁:List α}{l₂:List β},Paired F l₁ l₂->F x y->Paired F (l₁++[x]) (l₂++[y])
 | _,_,.nil,h=>.cons h .nil
 | _,_,.cons h₁ t,h=>.cons h₁ (Paired.snocP t h)
noncomputable def ck (D:Addr) (H H':Hp):Prop:=∀b u,H b=some u->b≠D->H' b=some u
theorem Same.x {H H':Hp}(e:Same H H') (D:Addr):ck D H H':=fun b u q _=>e b u q
theorem x6 {J:It}{H1:Hp}{σ:St}{ix:List Nat}{tc:TT}{te:TE}{Q:VK}{I0:Hp->Prop}(xs:List V) (p:V->Bool) (R:Addr->V->V->Hp->Prop) (hJ:JSeq J I0 xs) (h0:I0 H1) (hz:xs.length<=sizeLine) (hR:∀D x y H H',R D x y H->ck D H H'->R D x y H')
   (hc:∀x∈xs,∀H2,Same H1 H2->∀Q':Bool->Hp->Prop,(∀H3,Same H2 H3->Q' (p x) H3)->tc (some x::bo σ ix) H2 Q')
   (he:∀D,∀x∈xs,p x=true->∀H2,Same H1 H2->H2 D≠none->∀Q':VK,(∀y H3,Same H2 H3->R D x y H3->Q' y H3)->te (some x::bo σ ix) H2 Q')
   (hQ:∀D H' ys,H1 D=none->Same H1 H'->H' D=some (.lst ys)->Paired (fun x y=>R D x y H') (xs.filter p) ys->Q (.ref D) H') :
   js J H1 σ ix tc te Q:=by
 intro D hD
 have put:∀H ys,Same H1 H->Same H1 (upd H D (.lst ys)):=fun H ys e b u q=>by rw[ac (ai q hD)];exact e b u q
 refine⟨fun i m H=>i<=xs.length/\m=xs.length - i/\Same H1 H/\∃ys,H D=some (.lst ys)/\Paired (fun x y=>R D x y H) ((xs.take i).filter p) ys,⟨xs.length,Nat.zero_le _,rfl,put _ _ (Same.refl _),[],a0,by simpa using Paired.nil⟩,?_⟩
 rintro i m H ⟨hi,rfl,e,ys,hy,hp⟩
 have hI:=hJ.stay _ _ h0 e
 by_cases hlt:i<xs.length
 . refine .inr ⟨hJ.go i H hI hlt,fun x H' hy'=>?_⟩
   obtain⟨rfl,hx⟩:=hJ.yld i H x H' hlt hI hy'
   have hm:x∈xs:=List.mem_of_getElem? hx
   have ht:xs.take (i+1)=xs.take i++[x]:=by rw[List.take_add_one,hx];rfl
   have hlen:ys.length<=i:=by
     have h1:=Paired.length hp
     have h2:=List.length_filter_le p (xs.take i)
     rw[List.length_take] at h2
     omega
   refine hc x hm _ e _ fun H3 e3=>?_
   cases hpx:p x with
   | false =>
     rw[if_neg Bool.false_ne_true]
     refine⟨xs.length - (i+1),by omega,hlt,rfl,e.trans e3,ys,e3 _ _ hy,?_⟩
     rw[ht,List.filter_append]
     simp only[List.filter_cons,hpx,List.filter_nil,List.append_nil,Bool.false_eq_true,if_false]
     exact Paired.mapP hp fun x y z=>hR _ _ _ _ _ z (e3.x D)
   | true =>
     rw[if_pos rfl]
     refine he D x hm hpx _ (e.trans e3) (by rw[e3 _ _ hy];simp) _ fun y H4 e4 hr=>?_
     have e5:ck D H4 (upd H4 D (.lst (ys++[y]))):=fun b u q hb=>by rw[ac hb];exact q
     refine⟨ys,e4 _ _ (e3 _ _ hy),by omega,xs.length - (i+1),by omega,hlt,rfl,put _ _ (e.trans (e3.trans e4)),ys++[y],a0,?_⟩
     rw[ht,List.filter_append]
     simp only[List.filter_cons,hpx,List.filter_nil,if_true]
     exact Paired.snocP (Paired.mapP hp fun x y z=>hR _ _ _ _ _ (hR _ _ _ _ _ z ((e3.trans e4).x D)) e5) (hR _ _ _ _ _ hr e5)
 . have hi':i=xs.length:=by omega
   subst hi'
   refine .inl ⟨hJ.stop _ H hI (Nat.le_refl _),?_⟩
   rw[List.take_length] at hp
   exact hQ D H ys hD e hy hp
theorem qu {α β:Type}{f:α->β}:∀{l:List α}{l':List β},Paired (fun x y=>y=f x) l l'->l'=l.map f
 | _,_,.nil=>rfl
 | _,_,.cons h t=>by rw[h,qu t];rfl
theorem kg {J:It}{H1:Hp}{σ:St}{ix:List Nat}{tc:TT}{te:TE}{Q:VK}{I0:Hp->Prop}(xs:List V) (p:V->Bool) (f:V->V) (hJ:JSeq J I0 xs) (h0:I0 H1) (hz:xs.length<=sizeLine)
   (hc:∀x∈xs,∀H2,Same H1 H2->∀Q':Bool->Hp->Prop,(∀H3,Same H2 H3->Q' (p x) H3)->tc (some x::bo σ ix) H2 Q')
   (he:∀x∈xs,p x=true->∀H2,Same H1 H2->∀Q':VK,(∀H3,Same H2 H3->Q' (f x) H3)->te (some x::bo σ ix) H2 Q')
   (hQ:∀D H',H1 D=none->Same H1 H'->H' D=some (.lst ((xs.filter p).map f))->Q (.ref D) H') :
   js J H1 σ ix tc te Q :=
 x6 xs p (fun _ x y _=>y=f x) hJ h0 hz (fun _ _ _ _ _ h _=>h) hc (fun _ x hx hp H2 e _ Q' q=>he x hx hp H2 e Q' fun H3 e3=>q _ H3 e3 rfl) fun D H' ys hD e hy hp=>hQ D H' hD e (by rw[hy,qu hp])
theorem a8i {J:It}{H1:Hp}{σ:St}{ix:List Nat}{te:TE}{Q:VK}{I0:Hp->Prop}(xs:List V) (ws:List V) (hJ:JSeq J I0 xs) (h0:I0 H1) (hz:xs.length<=sizeLine) (hl:ws.length=xs.length)
   (he:∀(i:Nat) (x y:V),xs[i]? = some x->ws[i]? = some y->∀H2,Same H1 H2->∀Q':VK,(∀H3,Same H2 H3->Q' y H3)->te (some x::bo σ ix) H2 Q')
   (hQ:∀D H',H1 D=none->Same H1 H'->H' D=some (.lst ws)->Q (.ref D) H'):js J H1 σ ix tYes te Q:=by
 intro D hD
 have put:∀H ys,Same H1 H->Same H1 (upd H D (.lst ys)):=fun H ys e b u q=>by rw[ac (ai q hD)];exact e b u q
 refine⟨fun i m H=>i<=xs.length/\m=xs.length - i/\Same H1 H/\H D=some (.lst (ws.take i)),⟨xs.length,Nat.zero_le _,rfl,put _ _ (Same.refl _),by rw[a0,List.take_zero]⟩,?_⟩
 rintro i m H ⟨hi,rfl,e,hy⟩
 have hI:=hJ.stay _ _ h0 e
 by_cases hlt:i<xs.length
 . refine .inr ⟨hJ.go i H hI hlt,fun x H' hy'=>?_⟩
   obtain⟨rfl,hx⟩:=hJ.yld i H x H' hlt hI hy'
   have hw:ws[i]? = some ws[i]:=List.getElem?_eq_getElem (by omega)
   unfold tYes
   dsimp only
   rw[if_pos rfl]
   refine he i x ws[i] hx hw _ e _ fun H3 e3=>?_
   refine⟨ws.take i,e3 _ _ hy,by rw[List.length_take];omega,xs.length - (i+1),by omega,hlt,rfl,put _ _ (e.trans e3),?_⟩
   rw[a0,List.take_add_one,hw];rfl
 . have hi':i=xs.length:=by omega
   subst hi'
   refine .inl ⟨hJ.stop _ H hI (Nat.le_refl _),hQ D H hD e ?_⟩
   rw[hy,List.take_of_length_le (by omega)]
section
variable {κ:Type} [DecidableEq κ]
noncomputable def valV (kvs:List (κ×V)) (k:κ):Option V:=(kvs.find? fun kv=>decide (kv.1=k)).map (·.2)
noncomputable def putK (kvs:List (κ×V)) (k:κ) (v:V):List (κ×V) :=
 if (kvs.any fun kv=>decide (kv.1=k))=true then kvs.map (fun kv=>if kv.1=k then (kv.1,v) else kv) else kvs++[(k,v)]
noncomputable def ia (kvs:List (κ×V)) (k:κ):List (κ×V):=kvs.filter fun kv=>decide (kv.1≠k)
theorem gh {p:κ×V}{r:List (κ×V)}{k:κ}(e:p.1=k):valV (p::r) k=some p.2:=by simp[valV,List.find?_cons,e]
theorem jy {p:κ×V}{r:List (κ×V)}{k:κ}(e:¬ p.1=k):valV (p::r) k=valV r k:=by simp[valV,List.find?_cons,e]
theorem oq (k:κ):∀kvs:List (κ×V),(kvs.any fun kv=>decide (kv.1=k))=(valV kvs k).isSome
 | []=>rfl
 | p::r=>by
   rw[List.any_cons]
   by_cases e:p.1=k
   . simp only[gh e,decide_eq_true e,Bool.true_or,Option.isSome_some]
   . rw[jy e,decide_eq_false e,Bool.false_or];exact oq k r
theorem j5 (kvs:List (κ×V)) (k:κ) (v:V):(putK kvs k v).length<=kvs.length+1:=by
 unfold putK
 split
 . rw[List.length_map];omega
 . rw[List.length_append,List.length_cons,List.length_nil];omega
theorem a5d {kvs:List (κ×V)}{k:κ}(v:V) (h:valV kvs k=none):putK kvs k v=kvs++[(k,v)]:=by
 unfold putK
 rw[oq,h]
 exact if_neg (by decide)
theorem RelO.isSome_eq {o:Option V}{u:Option Value}(r:RelO o u):o.isSome=u.isSome:=by
 cases o with
 | none=>cases u with
   | none=>rfl
   | some _=>exact (show False from r).elim
 | some _=>cases u with
   | none=>exact (show False from r).elim
   | some _=>rfl
theorem RelO.getD {o:Option V}{u:Option Value}{d:V}{d':Value}(r:RelO o u) (rd:RelV d d'):RelV (o.getD d) (u.getD d'):=by
 cases o with
 | none=>cases u with
   | none=>exact rd
   | some _=>exact (show False from r).elim
 | some _=>cases u with
   | none=>exact (show False from r).elim
   | some _=>exact r
theorem KV.val {kvs:List (κ×V)}{vs:List (κ×Value)}(r:KV kvs vs) (k:κ):RelO (valV kvs k) (valueAt vs k):=by
 unfold KV at r
 induction r with
 | nil=>exact True.intro
 | @cons p q ps qs h t ih =>
   obtain⟨h1,h2⟩:=h
   by_cases e:p.1=k
   . have e':q.1=k:=h1.symm.trans e
     have b:valueAt (q::qs) k=some q.2:=by simp[valueAt,List.find?_cons,e']
     rw[gh e,b];exact h2
   . have e':¬ q.1=k:=fun z=>e (h1.trans z)
     have b:valueAt (q::qs) k=valueAt qs k:=by simp[valueAt,List.find?_cons,e']
     rw[jy e,b];exact ih
theorem KV.any {kvs:List (κ×V)}{vs:List (κ×Value)}(r:KV kvs vs) (k:κ):(kvs.any fun kv=>decide (kv.1=k))=vs.any fun kv=>decide (kv.1=k):=by
 unfold KV at r
 induction r with
 | nil=>rfl
 | cons h t ih=>rw[List.any_cons,List.any_cons,ih,h.1]
theorem KV.repl {kvs:List (κ×V)}{vs:List (κ×Value)}(r:KV kvs vs) (k:κ) {y:V}{u:Value}(ry:RelV y u) :
   KV (kvs.map fun kv=>if kv.1=k then (kv.1,y) else kv) (vs.map fun kv=>if kv.1=k then (kv.1,u) else kv):=by
 unfold KV at r |-
 induction r with
 | nil=>exact .nil
 | @cons p q ps qs h t ih =>
   rw[List.map_cons,List.map_cons]
   refine .cons ?_ ih
   obtain⟨h1,h2⟩:=h
   by_cases e:p.1=k
   . rw[if_pos e,if_pos (h1.symm.trans e)];exact⟨h1,ry⟩
   . rw[if_neg e,if_neg (fun z=>e (h1.trans z))];exact⟨h1,h2⟩
theorem KV.put {kvs:List (κ×V)}{vs:List (κ×Value)}(r:KV kvs vs) (k:κ) {y:V}{u:Value}(ry:RelV y u):KV (putK kvs k y) (stored vs k u):=by
 unfold putK stored
 rw[r.any k]
 by_cases e:(vs.any fun kv=>decide (kv.1=k))=true
 . rw[if_pos e,if_pos e];exact r.repl k ry
 . rw[if_neg e,if_neg e];exact Paired.snoc r ⟨rfl,ry⟩
theorem KV.drop {kvs:List (κ×V)}{vs:List (κ×Value)}(r:KV kvs vs) (k:κ):KV (ia kvs k) (without vs k):=by
 unfold KV at r |-
 unfold ia without
 induction r with
 | nil=>exact .nil
 | @cons p q ps qs h t ih =>
   obtain⟨h1,h2⟩:=h
   rw[List.filter_cons,List.filter_cons]
   by_cases e:p.1=k
   . have a:¬ decide (p.1≠k)=true:=by simp[e]
     have b:¬ decide (q.1≠k)=true:=by simp[h1.symm.trans e]
     rw[if_neg a,if_neg b];exact ih
   . have e':¬ q.1=k:=fun z=>e (h1.trans z)
     have a:decide (p.1≠k)=true:=by simp[e]
     have b:decide (q.1≠k)=true:=by simp[e']
     rw[if_pos a,if_pos b];exact .cons ⟨h1,h2⟩ ih
theorem KV.keys {kvs:List (κ×V)}{vs:List (κ×Value)}(r:KV kvs vs):kvs.map (·.1)=vs.map (·.1):=by
 unfold KV at r
 induction r with
 | nil=>rfl
 | cons h t ih=>rw[List.map_cons,List.map_cons,ih,h.1]
theorem KV.length {kvs:List (κ×V)}{vs:List (κ×Value)}(r:KV kvs vs):kvs.length=vs.length:=Paired.length r
theorem a53 (kvs:List (κ×V)) (k:κ):(ia kvs k).length<=kvs.length:=List.length_filter_le _ _
end
theorem kj {P:Program}{w:World}{k:Key}{u:Value}(r:RelV (kV k) u):(bw P w).is k u=true:=by
 cases k with
 | inl i=>obtain⟨t,e⟩:=(show ∃t,u=Value.int i t from r);subst e;exact xr P w i t
 | inr x=>obtain⟨t,e⟩:=(show ∃t,u=Value.str x t from r);subst e;exact xm P w x t
theorem u5 {P:Program}{w:World}:∀{ks:List Key}{us:List Value},Vals (ks.map kV) us->ItemsAre (bw P w) ks us
 | [],_,r=>by rw[List.map_nil] at r;cases r;exact .nil
 | k::ks,_,r=>by
   rw[List.map_cons] at r
   cases r with
   | cons h t=>exact .cons (kj h) (u5 t)
abbrev KT (H:Hp):List (List Key×V)->List (List Key×Addr×Value)->Prop:=Paired fun p q=>p.1=q.1/\H q.2.1=some (.tup (p.1.map kV))/\RelV p.2 q.2.2
theorem KT.val {H:Hp}{kvs:List (List Key×V)}{xs:List (List Key×Addr×Value)}(r:KT H kvs xs) (k:List Key):RelO (valV kvs k) ((atKey xs k).map (·.2)):=by
 induction r with
 | nil=>exact True.intro
 | @cons p q ps qs h t ih =>
   obtain⟨h1,_,h2⟩:=h
   by_cases e:p.1=k
   . have e':q.1=k:=h1.symm.trans e
     have b:atKey (q::qs) k=some q.2:=by simp[atKey,List.find?_cons,e']
     rw[gh e,b];exact h2
   . have e':¬ q.1=k:=fun z=>e (h1.trans z)
     have b:atKey (q::qs) k=atKey qs k:=by simp[atKey,List.find?_cons,e']
     rw[jy e,b];exact ih
theorem KT.repl {H:Hp}{kvs:List (List Key×V)}{xs:List (List Key×Addr×Value)}(r:KT H kvs xs) (k:List Key) {y:V}{u:Value}(ry:RelV y u) :
   KT H (kvs.map fun kv=>if kv.1=k then (kv.1,y) else kv) (xs.map (putAt k u)):=by
 induction r with
 | nil=>exact .nil
 | @cons p q ps qs h t ih =>
   rw[List.map_cons,List.map_cons]
   refine .cons ?_ ih
   obtain⟨h1,h2,h3⟩:=h
   unfold putAt
   by_cases e:p.1=k
   . rw[if_pos e,if_pos (h1.symm.trans e)];exact⟨h1,h2,ry⟩
   . rw[if_neg e,if_neg (fun z=>e (h1.trans z))];exact⟨h1,h2,h3⟩
theorem KT.put {H:Hp}{kvs:List (List Key×V)}{xs:List (List Key×Addr×Value)}(r:KT H kvs xs) (k:List Key) {b:Addr}{y:V}{u:Value}(hb:H b=some (.tup (k.map kV))) (ry:RelV y u) :
   KT H (putK kvs k y) (storedH xs k b u):=by
 have e:(kvs.any fun kv=>decide (kv.1=k))=(atKey xs k).isSome:=by
   rw[oq,(r.val k).isSome_eq,Option.isSome_map]
 unfold putK storedH
 rw[e]
 by_cases q:(atKey xs k).isSome=true
 . rw[if_pos q,if_pos q];exact r.repl k ry
 . rw[if_neg q,if_neg q];exact Paired.snoc r ⟨rfl,hb,ry⟩
theorem KT.keeps {H H':Hp}{kvs:List (List Key×V)}{xs:List (List Key×Addr×Value)}(r:KT H kvs xs) (ht:∀b ys,H b=some (.tup ys)->H' b=some (.tup ys)):KT H' kvs xs :=
 Paired.mapP r fun _ _ z=>⟨z.1,ht _ _ z.2.1,z.2.2⟩
section
variable {P:Program}{w:World}{H:Hp}{h:Heap}{a:Addr}
theorem a6u {u:HO}(ok:HOk P w H h) (e:Rd H a u):ObjOk P w H h a u:=e.ok ok
theorem ge {kvs:List (Key×V)}(ok:HOk P w H h) (e:Rd H a (.dK kvs)):kvs.length<=sizeLine/\(a == sysModules)=false/\∃vs,KV kvs vs/\h.DictOf (bw P w) a vs :=
 show ObjOk P w H h a (.dK kvs) from a6u ok e
theorem ut {kvs:List (Key×V)}(ok:HOk P w H h) (e:H a=some (.dK kvs)):kvs.length<=sizeLine/\(a == sysModules)=false/\∃vs,KV kvs vs/\h.DictOf (bw P w) a vs:=ge ok (.inl e)
theorem ly {ks:List Key}(ok:HOk P w H h) (e:H a=some (.tup (ks.map kV))):(tupleKind (bw P w)).is h ks a:=by
 obtain⟨_,its,r,o,h1,h2,n,h3⟩:=(show ObjOk P w H h a (.tup (ks.map kV)) from ok a _ e)
 exact⟨o,its.toArray,n,h1,h2,h3,by simpa using u5 r⟩
theorem mq {kvs:List (List Key×V)}(ok:HOk P w H h) (e:Rd H a (.dT kvs)):kvs.length<=sizeLine/\(a == sysModules)=false/\
   ∃xs,KT H kvs xs/\h.DictOfH (tupleKind (bw P w)) a xs:=by
 obtain⟨z,y,xs,r,o,es,ep,h1,h2,h3,h4,h5⟩:=(show ObjOk P w H h a (.dT kvs) from a6u ok e)
 refine⟨z,y,xs,r,o,es,ep,h1,h2,h3,h4,fun x hx=>?_,h5⟩
 have all:∀{l:List (List Key×V)} {m:List (List Key×Addr×Value)},KT H l m->∀x∈m,(tupleKind (bw P w)).is h x.1 x.2.1:=by
   intro l m q
   induction q with
   | nil=>intro x hx;exact nomatch hx
   | @cons p q ps qs hq t ih =>
     intro x hx
     rcases List.mem_cons.mp hx with e|hx
     . subst e
       exact ly ok (by rw[<- hq.1];exact hq.2.1)
     . exact ih x hx
 exact all r x hx
theorem aal {kvs:List (List Key×V)}(ok:HOk P w H h) (e:H a=some (.dT kvs)):kvs.length<=sizeLine/\(a == sysModules)=false/\
   ∃xs,KT H kvs xs/\h.DictOfH (tupleKind (bw P w)) a xs:=mq ok (.inl e)
end
noncomputable def DGet (H:Hp) (a:Addr) (y:V) (r:Option V):Prop :=
 (∃kvs k,Rd H a (.dK kvs)/\y=kV k/\r=valV kvs k)\/∃kvs k b,Rd H a (.dT kvs)/\y=.ref b/\H b=some (.tup (k.map kV))/\r=valV kvs k
noncomputable def DPut (H:Hp) (a:Addr) (y v:V) (H':Hp):Prop :=
 (∃kvs k,H a=some (.dK kvs)/\y=kV k/\kvs.length<sizeLine/\H'=upd H a (.dK (putK kvs k v)))\/
 ∃kvs k b,H a=some (.dT kvs)/\y=.ref b/\H b=some (.tup (k.map kV))/\kvs.length<sizeLine/\H'=upd H a (.dT (putK kvs k v))
theorem DGet.k {H:Hp}{a:Addr}{kvs:List (Key×V)}{k:Key}(e:H a=some (.dK kvs)):DGet H a (kV k) (valV kvs k):=.inl ⟨kvs,k,.inl e,rfl,rfl⟩
theorem DPut.k {H:Hp}{a:Addr}{kvs:List (Key×V)}{k:Key}{v:V}(e:H a=some (.dK kvs)) (hl:kvs.length<sizeLine):DPut H a (kV k) v (upd H a (.dK (putK kvs k v))):=.inl ⟨kvs,k,e,rfl,hl,rfl⟩
section
variable {X:Cx}{pins:List (Addr×Obj)}{σ:St}{H:Hp}{s:Shared}{a:Addr}{y v:V}{u r:Value}{o:Option V}{A:Around}{E:Value->Shared->Prop}
theorem Inv.big (I:Inv X pins σ H s):sysModules<s.heap.objs.size:=by
 have h:mainGlobals<s.heap.objs.size:=(I.mod.glob.keeps I.bk).lt
 exact Nat.lt_trans (by decide) h
theorem a2t {Q:Value->Shared->Prop}(hu:A.units+1<cLine) (I:Inv X pins σ H s) (g:DGet H a y (some v)) (ry:RelV y u) (h:∀w' s',Inv X pins σ H s'->RelV v w'->Q w' s') :
   wpAny (model X.prog X.w) A (getItem (.ref a) u) Q E s:=by
 rcases g with⟨kvs,k,e,ey,l⟩|⟨kvs,k,b,e,ey,eb,l⟩
 . subst ey
   obtain⟨z,hd,vs,rel,dd⟩:=ge I.hok e
   obtain⟨w',hw,rw'⟩:=RelO.some_of (v:=v) (o:=valueAt vs k) (by rw[l];exact rel.val k)
   exact wpAny_getItem_of (kj ry) dd.mapOf hw (h w' _ (I.tok _) rw')
 . subst ey
   cases (show u=Value.ref b from ry)
   obtain⟨z,hd,xs,rel,dd⟩:=mq I.hok e
   obtain⟨w',hw,rw'⟩:=RelO.some_of (v:=v) (o:=(atKey xs k).map (·.2)) (by rw[l];exact rel.val k)
   obtain⟨p,hp,hp2⟩:=Option.map_eq_some_iff.mp hw
   refine wpAny_getItem_heap (tupleKind_room_in1 hu) (ly I.hok eb) dd hp ?_
   rw[hp2]
   exact h w' _ (I.tok _) rw'
theorem a71 {Q:Value->Shared->Prop}(hu:A.units+1<cLine) (I:Inv X pins σ H s) (g:DGet H a y o) (ry:RelV y u) (h:∀s',Inv X pins σ H s'->Q (.bool (!o.isSome)) s') :
   wpAny (model X.prog X.w) A (compareOp .NotIn u (.ref a)) Q E s:=by
 rcases g with⟨kvs,k,e,ey,l⟩|⟨kvs,k,b,e,ey,eb,l⟩
 . subst ey
   obtain⟨z,hd,vs,rel,dd⟩:=ge I.hok e
   refine wpAny_notIn_of (kj ry) hd dd.mapOf ?_
   rw[<- (rel.val k).isSome_eq,<- l]
   exact h _ (I.tok _)
 . subst ey
   cases (show u=Value.ref b from ry)
   obtain⟨z,hd,xs,rel,dd⟩:=mq I.hok e
   refine wpAny_notIn_heap (tupleKind_room_in1 hu) (ly I.hok eb) hd dd ?_
   have q:=(rel.val k).isSome_eq
   rw[Option.isSome_map] at q
   rw[<- q,<- l]
   exact h _ (I.tok _)
theorem mv {h':Heap}{t':Nat}{ob:HO}(I:Inv X pins σ H s) (mu:Mut (H a)) (hs:Heap.SameBut a s.heap h') (he:∃q,h'.get? a=some q) (new:ObjOk X.prog X.w (upd H a ob) h' a ob) :
   Inv X pins σ (upd H a ob) { s with heap:=h',toks:=t' } :=
 I.write (x:=a) (e:=a) mu (.inl rfl) (fun b q hb z=>(hs.2 b hb).trans z) he new
theorem qx {P:Program}{w:World}{H':Hp}{h':Heap}{kvs:List (Key×V)}{vs:List (Key×Value)}(z:kvs.length<=sizeLine) (hd:(a == sysModules)=false) (rel:KV kvs vs) (dd:h'.DictOf (bw P w) a vs) :
   ObjOk P w H' h' a (.dK kvs):=⟨z,hd,vs,rel,dd⟩
theorem a2s {H':Hp}{Q:Unit->Shared->Prop}(hu:A.units+1<cLine) (I:Inv X pins σ H s) (g:DPut H a y v H') (ry:RelV y u) (rv:RelV v r) (h:∀s',Inv X pins σ H' s'->Q () s') :
   wpAny (model X.prog X.w) A (setItem (.ref a) u r) Q E s:=by
 rcases g with⟨kvs,k,e,ey,l,eH⟩|⟨kvs,k,b,e,ey,eb,l,eH⟩
 . subst ey eH
   obtain⟨z,hd,vs,rel,dd⟩:=ut I.hok e
   have hz:vs.length<=sizeLine:=by rw[<- rel.length];exact z
   have hl:(putK kvs k v).length<=sizeLine:=by have:=j5 kvs k v;omega
   refine wpAny_setItem_pairs (hsz:=hz) (kj ry) dd fun h' dd' hs=>h _ ?_
   have he:∃q,h'.get? a=some q:=let ⟨q,_,_,hq,_⟩:=dd';⟨q,hq⟩
   exact mv I (by rw[e];exact True.intro) hs he (qx hl hd (rel.put k rv) dd')
 . subst ey eH
   cases (show u=Value.ref b from ry)
   obtain⟨z,hd,xs,rel,dd⟩:=aal I.hok e
   have hz:xs.length<=sizeLine:=by rw[<- Paired.length rel];exact z
   have hl:(putK kvs k v).length<=sizeLine:=by have:=j5 kvs k v;omega
   refine wpAny_setItem_heap (hsz:=hz) (tupleKind_room_in1 hu) (ly I.hok eb) dd fun h' dd' hs=>h _ ?_
   obtain⟨q,es,ep,hq,h2,h3,h4,_,h5⟩:=dd'
   refine mv I (by rw[e];exact True.intro) hs ⟨q,hq⟩ ⟨hl,hd,_,(rel.put k eb rv).keeps fun c ys ec=>?_,q,es,ep,hq,h2,h3,h4,h5⟩
   rw[ac (aas ec e (fun z=>nomatch z))]
   exact ec
end
section
variable {X:Cx}{pins:List (Addr×Obj)}{σ:St}{H:Hp}{s:Shared}{a:Addr}{kvs:List (Key×V)}{k:Key}{u:Value}{A:Around}{E:Value->Shared->Prop}
theorem aav {v:V}{more:List Value}{Q:Value->Shared->Prop}(I:Inv X pins σ H s) (e:H a=some (.dK kvs)) (ry:RelV (kV k) u) (l:valV kvs k=some v) (hm:more=[]\/∃x,more=[x])
   (h:∀w' s',Inv X pins σ (upd H a (.dK (ia kvs k))) s'->RelV v w'->Q w' s'):wpAny (model X.prog X.w) A (call (.builtin "dict.pop") (.ref a::u::more)) Q E s:=by
 obtain⟨z,hd,vs,rel,dd⟩:=ut I.hok e
 obtain⟨w',hw,rw'⟩:=RelO.some_of (v:=v) (o:=valueAt vs k) (by rw[<- l];exact rel.val k)
 have hp:(keyPart u).isSome=true:=by
   cases k with
   | inl i=>obtain⟨t,q⟩:=(show ∃t,u=Value.int i t from ry);subst q;rfl
   | inr x=>obtain⟨t,q⟩:=(show ∃t,u=Value.str x t from ry);subst q;rfl
 have ha:argsOk "dict.pop" ⟨.ref a::u::more,[]⟩:=by
   rcases hm with q|⟨x,q⟩
   . subst q;exact PySem.F.args_dict_pop_2 _ _
   . subst q;exact PySem.F.args_dict_pop_3 _ _ _
 refine call_meetsIn PySem.F.slot_dict_pop dd.typeIs PySem.F.entry_dict_pop ha (meets_dict_pop_there (bw X.prog X.w) a (kj ry) more hm hp)
   ⟨vs,w',dd,by rw[<- rel.length];exact z,hw,fun h' dd' hs=>h w' _ ?_ rw'⟩
 have he:∃q,h'.get? a=some q:=let ⟨q,_,_,hq,_⟩:=dd';⟨q,hq⟩
 exact mv I (by rw[e];exact True.intro) hs he (qx (Nat.le_trans (a53 kvs k) z) hd (rel.drop k) dd')
end
noncomputable def NoSl (i:Expr):Prop:=∀ov iv,subscripted i false ov iv=operate [ov,iv] (getItem ov iv)
theorem yc {prog:Program}{w:World}{A:Around}{E:Value->Shared->Prop}{s:Shared}{env:Env}{value slice:Expr}{pos:Pos}{T id:String}{Q:Value->Shared->Prop}
   (hl:typeLookup (.type T) "__getitem__" = pure (some (.builtin id))) (hs:NoSl slice)
   (h:wpAny (model prog w) A (eval value env) (fun o s₁=>wpAny (model prog w) A (eval slice env) (fun i s₂=>s₂.TypeIs o T/\wpAny (model prog w) A (getItem o i) Q E s₂) E s₁) E s) :
   wpAny (model prog w) A (eval (.Subscript value slice pos) env) Q E s:=by
 refine Subscript_ (wpAny_mono h (fun o s₁ h₁=>wpAny_mono h₁ (fun i s₂ h₂=>?_) fun _ _ x=>x) fun _ _ x=>x)
 obtain⟨hT,h₂⟩:=h₂
 unfold subscriptTail
 refine wpAny_bind ?_
 rw[getitemInPython_of_ne hT.not_modules]
 refine wpAny_bind (wpAny_specialOf hT hl ?_)
 have fin:wpAny (model prog w) A (subscripted slice false o i) (fun r s₃=>wpAny (model prog w) A (letTemporaryGo value o r >>= fun _=>pure r) Q E s₃) E s₂:=by
   rw[hs o i]
   exact wpAny_operating (wpAny_mono h₂ (fun r s₃ h₃=>wpAny_bind (wpAny_letTemporaryGo (wpAny_pure h₃))) fun _ _ x=>x)
 first
   | exact wpAny_pure (wpAny_bind fin)
   | exact wpAny_bind (wpAny_pure (wpAny_bind fin))
   | exact wpAny_bind fin
theorem xo {X:Cx}{pins:List (Addr×Obj)}{σ:St}{H:Hp}{s:Shared}{a:Addr}{y:V}{o:Option V}(I:Inv X pins σ H s) (g:DGet H a y o):s.TypeIs (.ref a) "dict" := by
 rcases g with⟨kvs,k,e,_,_⟩|⟨kvs,k,b,e,_,_,_⟩
 . obtain⟨_,_,vs,_,dd⟩:=ge I.hok e
   exact dd.typeIs
 . obtain⟨_,_,xs,_,dd⟩:=mq I.hok e
   exact dd.typeIs
noncomputable def a6h (td ty:TE):TE:=fun σ H Q=>td σ H fun x H1=>ty σ H1 fun y H2=>∃a v,x=.ref a/\DGet H2 a y (some v)/\Q v H2
noncomputable def yk (ty td:TE):TE:=fun σ H Q=>ty σ H fun y H1=>td σ H1 fun x H2=>∃a o,x=.ref a/\DGet H2 a y o/\Q (.bl (!o.isSome)) H2
noncomputable def a0q (td ty tv:TE):TS:=fun D σ H=>tv σ H fun v H1=>td σ H1 fun x H2=>ty σ H2 fun y H3=>∃a H4,x=.ref a/\DPut H3 a y v H4/\D.nx σ H4
section
variable {X:Cx}{o i e value:Expr}{pos pos' tpos:Pos}{td ty tv:TE}
theorem a8o (hu:X.A.units+1<cLine) (ho:PE X o td) (hi:PE X i ty) (hs:NoSl i):PE X (.Subscript o i pos) (a6h td ty):=by
 intro pins s σ H Q I h
 refine yc PySem.F.slot_dict_getitem.lookup hs (thn (ho pins s σ H _ I h) fun u s1 ⟨x,H1,I1,rx,q1⟩=>thn (hi pins s1 σ H1 _ I1 q1) fun iv s2 ⟨y,H2,I2,ry,a,v,ex,g,q2⟩=>?_)
 subst ex
 obtain rfl:u=Value.ref a:=rx
 exact⟨xo I2 g,a2t hu I2 g ry fun w' s3 I3 rw'=>⟨v,H2,I3,rw',q2⟩⟩
theorem a2j (hu:X.A.units+1<cLine) (hi:PE X i ty) (ho:PE X o td):PC X .NotIn i o (yk ty td):=by
 intro pins s σ H Q I h
 refine thn (hi pins s σ H _ I h) fun iv s1 ⟨y,H1,I1,ry,q1⟩=>thn (ho pins s1 σ H1 _ I1 q1) fun u s2 ⟨x,H2,I2,rx,a,ov,ex,g,q2⟩=>?_
 subst ex
 obtain rfl:u=Value.ref a:=rx
 exact a71 hu I2 g ry fun s3 I3=>⟨.bl (!ov.isSome),H2,I3,rfl,q2⟩
theorem a7j (hu:X.A.units+1<cLine) (ho:PE X o td) (hi:PE X i ty) (hv:PE X value tv) (hs:swapsWith value (some (.Subscript o i pos')) pos.line X.env=pure false) :
   PS X (.Assign [.Subscript o i pos'] value pos) (a0q td ty tv):=by
 intro pins s σ H D I h
 refine wpAny_Assign_Subscript (thn (hv pins s σ H _ I h) fun r s1 ⟨v,H1,I1,rv,q1⟩=>thn (ho pins s1 σ H1 _ I1 q1) fun u s2 ⟨x,H2,I2,rx,q2⟩=>thn (hi pins s2 σ H2 _ I2 q2) fun iv s3 ⟨y,H3,I3,ry,a,H4,ex,g,q3⟩=>?_) hs
 subst ex
 obtain rfl:u=Value.ref a:=rx
 exact a2s hu I3 g ry rv fun s4 I4=>⟨σ,H4,I4,q3⟩
end
theorem wc {P:Program}{w:World}{H:Hp}(h:Heap) (hb:sysModules<h.objs.size):ObjOk P w H (h.push { cls:=.type "dict",data:=.dict #[] }) h.objs.size (.dK []) :=
 ⟨Nat.zero_le _,beq_eq_false_iff_ne.mpr (Ne.symm (Nat.ne_of_lt hb)),[],.nil,Heap.DictOf.new h⟩
noncomputable def a2r:TE:=fun _ H Q=>∀p,H p=none->Q (.ref p) (upd H p (.dK []))
section
variable {X:Cx}{pos:Pos}
theorem a4n:PE X (.Dict [] [] pos) a2r:=fun pins s σ H Q I h =>
 wpAny_Dict_empty ⟨.ref s.heap.objs.size,_,I.laid (a:=s.heap.objs.size) (o:=.dK []) (t':=s.toks) (fun _ _ q=>Heap.get?_push_of_some _ q) (Nat.le_refl _) (wc s.heap I.big),rfl,h _ (I.hok.fresh (Nat.le_refl _))⟩
end
structure M1 (X:Cx) (o:Expr) (m:Str) (apos:Pos) (e:Expr) (cpos:Pos):Prop where
 base:attributeBase o m X.env (eval o X.env)=eval o X.env
 few:((backTo cpos (starEach [e] X.env)).all (fun x => !x.1) && (backToKw cpos (keywordEach [] X.env)).all (fun x=>x.1.isSome)
   && decide (([e]:List Expr).length+([]:List Keyword).length+(if ([]:List Keyword).isEmpty then 0 else 1)<30))=true
 line:(apos.endLine == cpos.line)=true
 trees:backTo cpos (starEach [e] X.env)=[(false,eval e X.env)]
structure M2 (X:Cx) (o:Expr) (m:Str) (apos:Pos) (e f:Expr) (cpos:Pos):Prop where
 base:attributeBase o m X.env (eval o X.env)=eval o X.env
 few:((backTo cpos (starEach [e,f] X.env)).all (fun x => !x.1) && (backToKw cpos (keywordEach [] X.env)).all (fun x=>x.1.isSome)
   && decide (([e,f]:List Expr).length+([]:List Keyword).length+(if ([]:List Keyword).isEmpty then 0 else 1)<30))=true
 line:(apos.endLine == cpos.line)=true
 trees:backTo cpos (starEach [e,f] X.env)=[(false,eval e X.env),(false,eval f X.env)]
noncomputable def IsD (H:Hp) (a:Addr):Prop:=(∃kvs,Rd H a (.dK kvs))\/∃kvs,Rd H a (.dT kvs)
theorem a2h {X:Cx}{pins:List (Addr×Obj)}{σ:St}{H:Hp}{s:Shared}{a:Addr}(I:Inv X pins σ H s) (d:IsD H a) :
   s.TypeIs (.ref a) "dict" /\ (∀b,Value.ref a=.ref b->∃ob,s.heap.get? b=some ob/\ob.dict=none)/\(a == sysModules)=false:=by
 rcases d with⟨kvs,e⟩|⟨kvs,e⟩
 . obtain⟨_,hd,vs,_,dd⟩:=ge I.hok e
   refine⟨dd.typeIs,fun b q=>?_,hd⟩
   cases q
   obtain⟨ob,_,_,h1,h2,_⟩:=dd
   exact⟨ob,h1,h2.2.1⟩
 . obtain⟨_,hd,xs,_,dd⟩:=mq I.hok e
   refine⟨dd.typeIs,fun b q=>?_,hd⟩
   cases q
   obtain⟨ob,_,_,h1,h2,_⟩:=dd
   exact⟨ob,h1,h2.2.1⟩
section
variable {X:Cx}{pins:List (Addr×Obj)}{σ:St}{H:Hp}{s:Shared}{a:Addr}{y d:V}{u r:Value}{o:Option V}{A:Around}{E:Value->Shared->Prop}
theorem a8y {Q:Value->Shared->Prop}(hu:A.units+1<cLine) (I:Inv X pins σ H s) (g:DGet H a y o) (ry:RelV y u) (rd:RelV d r) (h:∀w' s',Inv X pins σ H s'->RelV (o.getD d) w'->Q w' s') :
   wpAny (model X.prog X.w) A (call (.builtin "dict.get") [.ref a,u,r]) Q E s:=by
 rcases g with⟨kvs,k,e,ey,l⟩|⟨kvs,k,b,e,ey,eb,l⟩
 . subst ey
   obtain⟨z,hd,vs,rel,dd⟩:=ge I.hok e
   refine call_meetsIn PySem.F.slot_dict_get dd.typeIs PySem.F.entry_dict_get (PySem.F.args_dict_get_3 _ _ _) (meets_dict_get_default (bw X.prog X.w) a (kj ry) hd r) ⟨_,dd.mapOf,h _ _ (I.tok _) ?_⟩
   rw[l]
   exact (rel.val k).getD rd
 . subst ey
   cases (show u=Value.ref b from ry)
   obtain⟨z,hd,xs,rel,dd⟩:=mq I.hok e
   refine call_meetsIn PySem.F.slot_dict_get dd.typeIs PySem.F.entry_dict_get (PySem.F.args_dict_get_3 _ _ _) (meetsH_dict_get_default (tupleKind (bw X.prog X.w)) a b hd r) ⟨tupleKind_room_in1 hu,k,xs,ly I.hok eb,dd,h _ _ (I.tok _) ?_⟩
   rw[l]
   exact (rel.val k).getD rd
end
noncomputable def a1p (td ty tx:TE):TE:=fun σ H Q=>td σ H fun x H1=>∃a,x=.ref a/\IsD H1 a/\ty σ H1 fun y H2=>tx σ H2 fun z H3=>∃o,DGet H3 a y o/\Q (o.getD z) H3
noncomputable def a3b (td ty:TE):TE:=fun σ H Q=>td σ H fun x H1=>∃a,x=.ref a/\IsD H1 a/\ty σ H1 fun y H2=>∃kvs k v,H2 a=some (.dK kvs)/\y=kV k/\valV kvs k=some v/\Q v (upd H2 a (.dK (ia kvs k)))
section
variable {X:Cx}{o e f:Expr}{apos cpos:Pos}{td ty tx:TE}
theorem a4q (hu:X.A.units+1<cLine) (ho:PE X o td) (he:PE X e ty) (hf:PE X f tx) (m:M2 X o "get" apos e f cpos):PE X (.Call (.Attribute o "get" apos) [e,f] [] cpos) (a1p td ty tx):=by
 intro pins s σ H Q I h
 refine wpAny_Call_method m.base m.few m.line PySem.F.plainAttrs_dict PySem.F.slot_dict_get PySem.F.type_dict_get (thn (ho pins s σ H _ I h) fun u s1 ⟨x,H1,I1,rx,a,ex,d,q1⟩=>?_)
 subst ex
 obtain rfl:u=Value.ref a:=rx
 obtain⟨t1,t2,_⟩:=a2h I1 d
 refine⟨t1,t2,?_⟩
 rw[m.trees]
 refine Calls.callWith_builtin rfl (Calls.evalArgs_plain (Calls.spliced_cons (thn (he pins s1 σ H1 _ I1 q1) fun iv s2 ⟨y,H2,I2,ry,q2⟩ =>
   Calls.spliced_cons (thn (hf pins s2 σ H2 _ I2 q2) fun fv s3 ⟨z,H3,I3,rz,ov,g,q3⟩=>Calls.spliced_nil ?_))))
 exact a8y hu I3 g ry rz fun w' s4 I4 rw'=>⟨_,H3,I4,rw',q3⟩
theorem a5l (ho:PE X o td) (he:PE X e ty) (m:M1 X o "pop" apos e cpos):PE X (.Call (.Attribute o "pop" apos) [e] [] cpos) (a3b td ty):=by
 intro pins s σ H Q I h
 refine wpAny_Call_method m.base m.few m.line PySem.F.plainAttrs_dict PySem.F.slot_dict_pop PySem.F.type_dict_pop (thn (ho pins s σ H _ I h) fun u s1 ⟨x,H1,I1,rx,a,ex,d,q1⟩=>?_)
 subst ex
 obtain rfl:u=Value.ref a:=rx
 obtain⟨t1,t2,_⟩:=a2h I1 d
 refine⟨t1,t2,?_⟩
 rw[m.trees]
 refine Calls.callWith_builtin rfl (Calls.evalArgs_plain (Calls.spliced_cons (thn (he pins s1 σ H1 _ I1 q1) fun iv s2 ⟨y,H2,I2,ry,kvs,k,v,ea,ey,l,q2⟩=>Calls.spliced_nil ?_)))
 subst ey
 exact aav I2 ea ry l (.inl rfl) fun w' s3 I3 rw'=>⟨v,_,I3,rw',q2⟩
end
section
variable {X:Cx}{pins:List (Addr×Obj)}{σ:St}{H:Hp}{s:Shared}{a:Addr}{kvs:List (Key×V)}{A:Around}{E:Value->Shared->Prop}
theorem a54 {Q:Value->Shared->Prop}(I:Inv X pins σ H s) (e:Rd H a (.dK kvs)) (h:∀p s',H p=none->Inv X pins σ (upd H p (.dK kvs)) s'->Q (.ref p) s'):wpAny (model X.prog X.w) A (call (.type "dict") [.ref a]) Q E s:=by
 obtain⟨z,hd,vs,rel,dd⟩:=ge I.hok e
 refine kt_call_dict hd dd (by rw[<- rel.length];exact z) fun h' dd' hs=>?_
 refine h _ _ (I.hok.fresh (Nat.le_refl _)) (I.laid (a:=s.heap.objs.size) (o:=.dK kvs) (t':=s.toks) (fun b q hq=>?_) (Nat.le_refl _) (qx z (beq_eq_false_iff_ne.mpr (Ne.symm (Nat.ne_of_lt I.big))) rel dd'))
 exact (hs.2 b (Nat.ne_of_lt (Heap.lt_size hq))).trans (Heap.get?_push_of_some _ hq)
end
section
variable {X:Cx}{pins:List (Addr×Obj)}{σ:St}{H:Hp}{s:Shared}{a:Addr}{y:V}{u:Value}{A:Around}{E:Value->Shared->Prop}
end
section
variable {X:Cx}
end
section
variable {κ:Type} [DecidableEq κ]
end
section
variable {X:Cx}
end
section
variable {X:Cx}{es es1:List Expr}{t t1:TA}{te:TE}{x:Str}{j:Nat}{pos pos2:Pos}
theorem a9z {j} (hr:PA X es t):PA X (.Constant (.str x) j pos::es) (bj (tC (.str x)) t):=cj vm hr rfl
theorem a9t {i:Int}{j} (hr:PA X es t):PA X (.Constant (.int i) j pos::es) (bj (tC (.int i)) t):=cj ji hr rfl
theorem aaq {b:Bool}{j} (hr:PA X es t):PA X (.Constant (.bool b) j pos::es) (bj (tC (.bl b)) t):=cj a0z hr rfl
theorem aae (h:PE X (.Name x pos) te) (hr:PA X es t):PA X (.Name x pos::es) (bj te t):=cj h hr rfl
theorem aap {x1} (h:PA X es1 t1) (hr:PA X es t):PA X (.Tuple es1 x1 pos::es) (bj (tTup t1) t):=cj (a3a h) hr rfl
theorem aaw (h:PA X es1 t1) (hr:PA X es t):PA X (.List es1 pos::es) (bj (tLst t1) t):=cj (v9 h) hr rfl
theorem a9k {a b:Expr}(h:PE X (.Subscript a b pos) te) (hr:PA X es t):PA X (.Subscript a b pos::es) (bj te t):=cj h hr rfl
theorem a8n {f:Expr}{as:List Expr}{ks:List Keyword}(h:PE X (.Call f as ks pos) te) (hr:PA X es t):PA X (.Call f as ks pos::es) (bj te t):=cj h hr rfl
theorem a99 {a b:Expr}{op:Operator}(h:PE X (.BinOp a op b pos) te) (hr:PA X es t):PA X (.BinOp a op b pos::es) (bj te t):=cj h hr rfl
end
structure QE (X:Cx) (e:Expr) (t:TE):Prop where
 run:PE X e t
structure QT (X:Cx) (e:Expr) (t:TT):Prop where
 run:PT X e t
structure QW (X:Cx) (e:Expr) (t:TT):Prop where
 run:PW X e t
structure QA (X:Cx) (es:List Expr) (t:TA):Prop where
 run:PA X es t
structure QS (X:Cx) (st:Stmt) (t:TS):Prop where
 run:PS X st t
structure QB (X:Cx) (st:List Stmt) (t:TS):Prop where
 run:PSs X st t
structure QI (X:Cx) (tg iter:Expr) (wi:TI):Prop where
 run:PI X tg iter wi
structure QG (X:Cx) (target:Expr) (t:TG):Prop where
 run:PG X target t
structure QO (X:Cx) (e:Option Expr) (t:TO):Prop where
 run:PO X e t
structure QTs (X:Cx) (ifs:List Expr) (t:TT):Prop where
 run:PTs X ifs t
theorem QW.qt {X:Cx}{e:Expr}{t:TT}(h:QW X e t):QT X e t:=⟨PW.pt h.run⟩
section
variable {st:Stmt}{id:String}{lo hi:Option Expr}
set_option autoImplicit true
set_option relaxedAutoImplicit true
theorem b9  : QB X [] qa:=⟨zj ⟩
theorem ae {rest:List Stmt}(h1:QS X st t) (h2:QB X rest u):QB X (st::rest) (tSeq t u):=⟨jw h1.run h2.run⟩
theorem ag (h1:QS X st t):QB X [st] t:=⟨jb h1.run⟩
theorem b6 {c:Expr}{a b:List Stmt}{tc:TT}(hc:QT X c tc) (ha:QB X a t) (hb:QB X b u):QS X (.If c a b pos) (tIfS tc t u):=⟨a6o hc.run ha.run hb.run⟩
theorem aq {i:Nat}{x:Str}{e:Expr}{te:TE}{pos':Pos}(hN:X.N.Nodup) (hi:X.N[i]? = some x) (hx:Loc X.env.scope x) (he:QE X e te) (hs:swapsWith e (some (.Name x pos')) pos.line X.env=pure false:=by rfl) (hf:X.fn x=true\/X.env.scope.names.lookup x=some .local:=by first|exact .inl rfl|exact .inr rfl|assumption) :     QS X (.Assign [.Name x pos'] e pos) (tAsg te (bi i)):=⟨a4b hN hi hx he.run hs hf⟩
theorem av (he:QE X e te):QS X (.Return (some e) pos) (tRet te):=⟨qq he.run⟩
theorem xw  : QS X (.Return none pos) a6v:=⟨a81 ⟩
theorem dg (he:QE X e te) (hs:swapsWith e none pos.line X.env=pure false:=by rfl):QS X (.Expr e pos) (a0r te):=⟨y0 he.run hs⟩
theorem de {iter:Expr}{body:List Stmt}{wi:TI}{g:TG}{tb:TS}{pos:Pos}(hp:PassesOwn (model X.prog X.w) X.A X.env X.xe) (hc:X.calm=true) (hi:QI X tg iter wi) (hg:QG X tg g) (hb:QB X body tb) (hs:∀x,foldedSetIterable iter X.env x=pure x:=by intro _;rfl):QS X (.For tg iter body [] pos) (tFor wi g tb):=⟨a2z hp hc hi.run hg.run hb.run hs⟩
theorem jo {tg e:Expr}{te:TE}{g:TG}(he:QE X e te) (hg:QG X tg g) (hs:swapsWithSole [tg] e pos.line X.env=pure false:=by rfl) (hw:swappedStores [tg] e X.env=pure none:=by rfl) (h1:(assignEach [tg] X.env).map (·.2)=[assign tg X.env]:=by rfl):QS X (.Assign [tg] e pos) (tAsg te g):=⟨a8z he.run hg.run hs hw h1⟩
theorem p6 {c:Expr}{body:List Stmt}{tc:TT}{tb:TS}(hp:PassesOwn (model X.prog X.w) X.A X.env X.xe) (hc:QT X c tc) (hb:QB X body tb):QS X (.While c body [] pos) (xj tc tb):=⟨a67 hp hc.run hb.run⟩
theorem ab {i j pos}:QE X (.Constant (.int i) j pos) (tC (.int i)):=⟨ji ⟩
theorem fb {b j pos}:QE X (.Constant (.bool b) j pos) (tC (.bl b)):=⟨a0z ⟩
theorem i7 {j pos}:QE X (.Constant .none j pos) (tC .non):=⟨a9i ⟩
theorem b0 {x j pos}:QE X (.Constant (.str x) j pos) (tC (.str x)):=⟨vm ⟩
theorem qv (i:Nat) {x:Str}{pos:Pos}(hN:X.N[i]? = some x:=by rfl) (hv:Vis X.env.scope x:=by first|exact Or.inl rfl|exact Or.inr (Or.inl rfl)|exact Or.inr (Or.inr rfl)) (hd:(x == ("__debug__" : Str))=false:=by decide) (hcd:(x == ("__classdict__" : Str))=false:=by decide):QE X (.Name x pos) (tVar i):=⟨pv i hN hv hd hcd⟩
theorem qe_g {X:Cx}{x:Str}{v:V}{pos:Pos}(h:Glob X.mg x v) (hg:Gl X x:=by rfl) (hd:(x == ("__debug__" : Str))=false:=by decide):QE X (.Name x pos) (tC v):=⟨pe_g h hg hd⟩
theorem ap {op:Operator}{r:R2}(ho:OpR X (binaryOp op) r) (ha:QE X a ta) (hb:QE X b tb):QE X (.BinOp a op b pos) (tOp r ta tb):=⟨a6e ho ha.run hb.run⟩
theorem jm {op:CmpOp}{r:R2}(ho:OpR X (compareOp op) r) (ha:QE X a ta) (hb:QE X b tb) (hm:behindInMarks op b=false):QE X (.Compare a [op] [b] pos) (tOp r ta tb):=⟨md ho ha.run hb.run hm⟩
theorem ar {op:CmpOp}{r:R2}(ho:OpR X (compareOp op) r) (ha:QE X a ta) (hb:QE X b tb) (hm:behindInMarks op b=false):QT X (.Compare a [op] [b] pos) (qd (tOp r ta tb)):=⟨jr ho ha.run hb.run hm⟩
theorem di {e:Expr}{t:TE}(h:QE X e t) (he:∀whole,isTrue e X.env whole=(do let v<-whole;standAt e.pos;holding [v] (truthy v)):=by intro _;rfl):QT X e (tB t):=⟨aac h.run he⟩
theorem gs (ha:QT X a tA):QT X (.UnaryOp .Not a pos) (tNot tA):=⟨a9s ha.run⟩
theorem jp (ha:QT X a tA):QW X (.BoolOp .And [a] pos) tA:=⟨a73 ha.run⟩
theorem ij (ha:QT X a tA):QW X (.BoolOp .Or [a] pos) tA:=⟨a1m ha.run⟩
theorem li {rest:List Expr}(ha:QT X a tA) (hb:QW X (.BoolOp .And (b::rest) pos) tB'):QW X (.BoolOp .And (a::b::rest) pos) (tAnd tA tB'):=⟨aa7 ha.run hb.run⟩
theorem iw {rest:List Expr}(ha:QT X a tA) (hb:QW X (.BoolOp .Or (b::rest) pos) tB'):QW X (.BoolOp .Or (a::b::rest) pos) (tOr tA tB'):=⟨a01 ha.run hb.run⟩
theorem a4a {op} {t:TE}(h:QE X a t):QE X (.BoolOp op [a] pos) t:=⟨wb h.run⟩
theorem a1v {rest:List Expr}(ha:QE X a ta) (hb:QE X (.BoolOp .And (b::rest) pos) tb):QE X (.BoolOp .And (a::b::rest) pos) (a6s ta tb):=⟨a2f ha.run hb.run⟩
theorem aa6 (ha:QE X a ta):QE X (.UnaryOp .Not a pos) (a6i ta):=⟨a9b ha.run⟩
theorem gf {c:Expr}(hc:QT X c tA) (ha:QE X a ta) (hb:QE X b tb):QE X (.IfExp c a b pos) (tIf tA ta tb):=⟨a5k hc.run ha.run hb.run⟩
theorem ah {r:R2}(hr:IxR X r) (ha:QE X a ta) (hb:QE X b tb) (hs:yy b):QE X (.Subscript a b pos) (tOp r ta tb):=⟨uy hr ha.run hb.run hs⟩
theorem bz {r:V->Option Int->Option Int->Hp->VK->Prop}(hr:SlR X r) (he:QE X e te) (hl:QO X lo tl) (hu:QO X hi th):QE X (.Subscript e (.Slice lo hi none p2) pos) (tSl r te tl th):=⟨vk hr he.run hl.run hu.run⟩
theorem cy  : QO X none sx:=⟨yd ⟩
theorem cb (h:QE X e te):QO X (some e) (a03 te):=⟨yu h.run⟩
theorem bp {x1} (h:QA X es t):QE X (.Tuple es x1 pos) (tTup t):=⟨a3a h.run⟩
theorem bc (h:QA X es t):QE X (.List es pos) (tLst t):=⟨v9 h.run⟩
theorem ak (F:FnOk X.prog X.w X.K X.mg X.base CX k f fd ps sp) (hr:Room k X.A) (hg:Gl X x) (hm:X.mg x=some (.ref f)) (hk:PySem.W.keepIn X.K (.ref f)=true) (hb:Binds X.K fd ps ds) (hd:Vals dvs ds) (hx:fj CX X E) (ha:QA X (e::es) t) (hdb:(x == ("__debug__" : Str))=false:=by decide) (he:starEach (e::es) X.env=(false,eval e X.env)::starEach es X.env:=by rfl) (hpl:(backTo pos (starEach es X.env)).any (·.1)=false:=by rfl) :     QE X (.Call (.Name x p) (e::es) [] pos) (qg sp dvs E t):=⟨a7a F hr hg hm hk hb hd hx ha.run hdb he hpl⟩
theorem ba (hc:cf X (.builtin id) r) (hg:Gl X x) (hm:X.mg x=none) (hv:bootBuiltins x=some (.builtin id)) (ha:QA X (e::es) t) (hn:x ≠ "__name__" := by decide) (hdb:(x == ("__debug__" : Str))=false:=by decide) (he:starEach (e::es) X.env=(false,eval e X.env)::starEach es X.env:=by rfl) (hpl:(backTo pos (starEach es X.env)).any (·.1)=false:=by rfl):QE X (.Call (.Name x p) (e::es) [] pos) (tCB r t):=⟨jt hc hg hm hv ha.run hn hdb he hpl⟩
theorem b7 (hc:cf X (.type T) r) (hg:Gl X x) (hm:X.mg x=none) (hv:bootBuiltins x=some (.type T)) (ha:QA X (e::es) t) (hn:x ≠ "__name__" := by decide) (hdb:(x == ("__debug__" : Str))=false:=by decide) (he:starEach (e::es) X.env=(false,eval e X.env)::starEach es X.env:=by rfl) (hpl:(backTo pos (starEach es X.env)).any (·.1)=false:=by rfl):QE X (.Call (.Name x p) (e::es) [] pos) (tCB r t):=⟨u6 hc hg hm hv ha.run hn hdb he hpl⟩
theorem a9c (pa:PlainAttrs T) (slot:Slot T name id) (hty:typeOf (.builtin id)=pure (.type "method_descriptor")) (hm:MtR X id r) (ho:QE X o to) (hbase:attributeBase o name X.env (eval o X.env)=eval o X.env:=by rfl) (hline:(apos.endLine == cpos.line)=true:=by rfl):QE X (.Call (.Attribute o name apos) [] [] cpos) (tBM0 X.K T r to):=⟨aa3 pa slot hty hm ho.run hbase hline⟩
theorem gw {X:Cx}{elt iter:Expr}{x:Str}{px pos:Pos}{ifs:List Expr}{sc:Scope}{wi:TI}{tc:TT}{te:TE}(hi:QI X (.Name x px) iter wi) (hif:∀s H C ex,QTs (blk X [x] s H sc [] C ex) ifs tc) (he:∀s H C ex,QE (blk X [x] s H sc [] C ex) elt te) (hc:X.calm=true:=by rfl) (hkind:sc.kind=.function:=by rfl) (hx:sc.names.lookup x=some .local:=by decide +kernel) (hfree:∀y∈sc.names,y.2≠.free:=by decide +kernel) (hcell:∀y∈sc.names,y.2≠.cell:=by decide +kernel) (hnames:∀y∈sc.names,y.2=.local->sc.names.lookup y.1=some .local:=by decide +kernel) (hs:∀x,foldedSetIterable iter X.env x=pure x:=by intro _;rfl) :     QE X (.ListComp elt [⟨.Name x px,iter,ifs,0⟩] sc pos) (kx [] wi tc te):=⟨pj hi.run (fun z0 z1 z2 z3=>(hif z0 z1 z2 z3).run) (fun z0 z1 z2 z3=>(he z0 z1 z2 z3).run) hc hkind hx hfree hcell hnames hs⟩
theorem a7x (ho:QE X o to) (ha:QA X [e] t) (hbase:attributeBase o "get" X.env (eval o X.env)=eval o X.env:=by rfl) (hfew:((backTo cpos (starEach [e] X.env)).all (fun x => !x.1) && (backToKw cpos (keywordEach [] X.env)).all (fun x=>x.1.isSome)       && decide ([e].length+([]:List Keyword).length+(if ([]:List Keyword).isEmpty then 0 else 1)<30))=true:=by rfl) (hline:(apos.endLine == cpos.line)=true:=by rfl) (hs:starEach [e] X.env=(false,eval e X.env)::starEach [] X.env:=by rfl) (hplain:(backTo cpos (starEach [] X.env)).any (·.1)=false:=by rfl) :     QE X (.Call (.Attribute o "get" apos) [e] [] cpos) (a6t X to t):=⟨a8m ho.run ha.run hbase hfew hline hs hplain⟩
theorem fq {l:Expr}{tl:TE}(hl:QE X l tl):QI X tg l (a0e X.K tl):=⟨yx hl.run⟩
theorem a8w {l:Expr}{tl:TE}(hl:QE X l tl):QI X tg l (iTup X.K tl):=⟨a4h hl.run⟩
theorem fi {a:Expr}{ta:TA}{p pos:Pos}(hg:Gl X "range") (hm:X.mg "range" = none) (ha:QA X [a] ta) (hs:starEach [a] X.env=[(false,eval a X.env)]:=by rfl):QI X tg (.Call (.Name "range" p) [a] [] pos) (a6n ta):=⟨a3c hg hm ha.run hs⟩
theorem a3j {a b:Expr}{ta:TA}{p pos:Pos}(hg:Gl X "range") (hm:X.mg "range" = none) (ha:QA X [a,b] ta) (hs:starEach [a,b] X.env=[(false,eval a X.env),(false,eval b X.env)]:=by rfl) (hs2:starEach [b] X.env=[(false,eval b X.env)]:=by rfl) :     QI X tg (.Call (.Name "range" p) [a,b] [] pos) (a6m ta):=⟨a1q hg hm ha.run hs hs2⟩
theorem bq {i:Nat}{x:Str}(hN:X.N.Nodup) (hi:X.N[i]? = some x) (hx:Loc X.env.scope x) (hf:X.fn x=true\/X.env.scope.names.lookup x=some .local:=by first|exact .inl rfl|exact .inr rfl|assumption):QG X (.Name x pos) (bi i):=⟨mh hN hi hx hf⟩
theorem aa  : QA X [] tNil:=⟨i8 ⟩
theorem cn (ha:QE X e te) (hr:QA X es t) (hs:starEach (e::es) X.env=(false,eval e X.env)::starEach es X.env:=by rfl):QA X (e::es) (bj te t):=⟨cj ha.run hr.run hs⟩
theorem bg {j} (hr:QA X es t):QA X (.Constant (.str x) j pos::es) (bj (tC (.str x)) t):=⟨a9z hr.run⟩
theorem b8 {i:Int}{j} (hr:QA X es t):QA X (.Constant (.int i) j pos::es) (bj (tC (.int i)) t):=⟨a9t hr.run⟩
theorem ux {b:Bool}{j} (hr:QA X es t):QA X (.Constant (.bool b) j pos::es) (bj (tC (.bl b)) t):=⟨aaq hr.run⟩
theorem af (h:QE X (.Name x pos) te) (hr:QA X es t):QA X (.Name x pos::es) (bj te t):=⟨aae h.run hr.run⟩
theorem m9 {x1} (h:QA X es1 t1) (hr:QA X es t):QA X (.Tuple es1 x1 pos::es) (bj (tTup t1) t):=⟨aap h.run hr.run⟩
theorem uw (h:QA X es1 t1) (hr:QA X es t):QA X (.List es1 pos::es) (bj (tLst t1) t):=⟨aaw h.run hr.run⟩
theorem aw {a b:Expr}(h:QE X (.Subscript a b pos) te) (hr:QA X es t):QA X (.Subscript a b pos::es) (bj te t):=⟨a9k h.run hr.run⟩
theorem az {f:Expr}{as:List Expr}{ks:List Keyword}(h:QE X (.Call f as ks pos) te) (hr:QA X es t):QA X (.Call f as ks pos::es) (bj te t):=⟨a8n h.run hr.run⟩
theorem ce {a b:Expr}{op:Operator}(h:QE X (.BinOp a op b pos) te) (hr:QA X es t):QA X (.BinOp a op b pos::es) (bj te t):=⟨a99 h.run hr.run⟩
theorem ii {X:Cx}:QTs X [] tYes:=⟨yq ⟩
theorem mn {X:Cx}{c:Expr}{t:TT}(h:QT X c t):QTs X [c] t:=⟨zc h.run⟩
end
theorem wv {X:Cx}{o i:Expr}{to ti:TE}{t:TSet}{pos:Pos}(ho:QE X o to) (hi:QE X i ti) (hs:PSet X t)
   (ha:∀v,assign (.Subscript o i pos) X.env v=(do
     let ov<-holding [v] (eval o X.env)
     let iv<-holding [v,ov] (eval i X.env)
     standAt pos
     holding [v,ov,iv] (setItem ov iv v)
     release [v,ov,iv] []):=by intro _;rfl):QG X (.Subscript o i pos) (gSub to ti t):=⟨a9m ho.run hi.run hs ha⟩
theorem Fun.okQ {P:Program}{w:World}{K:PySem.W.Frag}{mg:Str->Option Value}{base:Heap}{x qual:Str}{st:Stmt}{f:Addr}{fd:FuncData}{N ps:List Str}{k:Nat}{sp:Sp}(F:Fun K x qual st f fd) (S:FnScope N ps (ao st)) (len:∀vs H Q E,sp vs H Q E->vs.length=ps.length)
   (hbody:∀(cdv:Value) (A:Around) (outer:List Env) (s:Shared) (H:Hp) (vs:List V) (Q:VK) (E:XK),Room k (A.deeper (envOfC qual (ao st) s.heap.objs.size f cdv))->sp vs H Q E->
     ∃t,QB (cxOf CX0 P w K mg base N qual (ao st) f cdv A outer s H E).nox (gy st) t/\t { nx:=fun _ H'=>Q .non H',rt:=Q } (ib N vs) H):FnOk P w K mg base CX0 (k+1) f fd ps sp :=
 F.ok S len fun cdv A outer s H vs Q E hr h=>by
   obtain⟨t,h1,h2⟩:=hbody cdv A outer s H vs Q E hr h
   exact⟨t,h1.run,h2⟩
section
variable {X:Cx}{st:Stmt}{t:TS}{e:Expr}{te:TE}
end
section
variable {id:String}
set_option autoImplicit true
set_option relaxedAutoImplicit true
theorem gk {K:PySem.W.Frag}(hK:X.K=K) (pa:PlainAttrs T) (slot:Slot T name id) (hty:typeOf (.builtin id)=pure (.type "method_descriptor")) (hm:MtR X id r) (ho:QE X o to) (ha:QA X (e::es) t) (hbase:attributeBase o name X.env (eval o X.env)=eval o X.env:=by rfl) (hfew:((backTo cpos (starEach (e::es) X.env)).all (fun x => !x.1) && (backToKw cpos (keywordEach [] X.env)).all (fun x=>x.1.isSome)       && decide ((e::es).length+([]:List Keyword).length+(if ([]:List Keyword).isEmpty then 0 else 1)<30))=true:=by rfl) (hline:(apos.endLine == cpos.line)=true:=by rfl) (hs:starEach (e::es) X.env=(false,eval e X.env)::starEach es X.env:=by rfl) (hplain:(backTo cpos (starEach es X.env)).any (·.1)=false:=by rfl):QE X (.Call (.Attribute o name apos) (e::es) [] cpos) (tBM K T r to t):=by
 subst hK
 exact⟨a6x pa slot hty hm ho.run ha.run hbase hfew hline hs hplain⟩
end
section
variable {X:Cx}{pins:List (Addr×Obj)}{σ:St}{H:Hp}{s:Shared}{h':Heap}
theorem Inv.turnedL {t':Nat}{ch:List Addr}(I:Inv X pins σ H s) (k:∀b o,b∉ch->s.heap.get? b=some o->h'.get? b=some o) (hc:∀b∈ch,FpOk X pins H b):Inv X pins σ H { s with heap:=h',toks:=t' }:=by
 have nit:∀b u,H b=some u->b∉ch:=fun b u e z=>by rw[(hc b z).1] at e;cases e
 refine I.step (g':=s.gens) (d':=s.drawn) (ch:=ch) (fun b hb=>⟨(hc b hb).2.2.2.1,(hc b hb).2.1,(hc b hb).2.2.2.2.1,(hc b hb).2.2.2.2.2⟩) (fun b o _ _ hn e _=>k b o hn e) (fun b o _ _ hn e _=>⟨o.slots,k b o hn e⟩) (fun _ _ _ _ n=>n)
   (fun b o hn e=>⟨o,k b o hn e⟩) (fun _ _ e=>e) (fun _ _ _ e=>e) (fun b ps e=>⟨#[],by rw[e];simp⟩) (fun m hm=>?_) (fun b u e=>?_) I.bare
 . obtain⟨o,es,ep,ho,r⟩:=hm
   exact⟨o,es,ep,k _ o (fun z=>(hc _ z).2.1 rfl) ho,r⟩
 . refine (I.hok b u e).stay (fun c v hcv q=>k c v ?_ q) (fun _ q=>q) fun _ _ q=>q
   rcases hcv with z|z
   . rw[z];exact nit b u e
   . exact nit c _ z
end
noncomputable def cq (n:Addr):List Addr:=[n+4,n+2,n+3,n,n+1]
theorem nh {n l1 l2:Nat}(h1:l1∉cq n) (h2:l2∉cq n):ZipApart (n+4) (n+2) (n+3) n (n+1) l1 l2:=by
 unfold cq at h1 h2
 simp only[List.mem_cons,List.not_mem_nil,or_false,not_or] at h1 h2
 have nn:∀a b:Nat,a≠b->n+a≠n+b:=fun a b h=>by omega
 have n0:∀a:Nat,a≠0->n≠n+a:=fun a h=>by omega
 exact⟨nn 2 4 (by decide),nn 3 4 (by decide),n0 4 (by decide),nn 1 4 (by decide),nn 2 3 (by decide),(n0 2 (by decide)).symm,nn 2 1 (by decide),(n0 3 (by decide)).symm,nn 3 1 (by decide),n0 1 (by decide),h1.1,h1.2.2.1,h1.2.2.2.1,h1.2.2.2.2,h2.1,h2.2.2.1,h2.2.2.2.1,h2.2.2.2.2⟩
section
variable {X:Cx}
end
section
variable {X:Cx}
theorem a07 {elt iter:Expr}{x yv:Str}{px pos py pos2:Pos}{iy:Nat}{ifs:List Expr}{sc:Scope}{cl:List (Str×Addr)}{ix:List Nat}{wi:TI}{tc:TT}{te:TE}(N:List Str) (hNd:X.N.Nodup) (hiy:X.N[iy]? = some yv) (hyv:Loc X.env.scope yv) (hsw:swapsWith (.ListComp elt [⟨.Name x px,iter,ifs,0⟩] sc pos) (some (.Name yv py)) pos2.line X.env=pure true) (hfy:X.fn yv=true\/X.env.scope.names.lookup yv=some .local)
   (hc:X.calm=true) (hi:PI X (.Name x px) iter wi) (hif:∀s H C ex,PTs (blk X N s H sc cl C ex) ifs tc) (he:∀s H C ex,PE (blk X N s H sc cl C ex) elt te)
   (hkind:sc.kind=.function) (hN:N=x::ix.map fun j=>(X.N[j]?).getD "") (hnd:N.Nodup) (hx:sc.names.lookup x=some .local)
   (hcl:closureFor sc X.env=pure cl) (hcell:∀y∈sc.names,y.2≠.cell) (hnames:∀y∈sc.names,y.2=.local->sc.names.lookup y.1=some .local)
   (hsub:∀y c,cl.lookup y=some c->X.env.cells.lookup y=some c) (hhas:∀y,((relabel sc X.env).names.lookup y=some .cell\/(relabel sc X.env).names.lookup y=some .free)->∃c,cl.lookup y=some c)
   (hix:∀j∈ix,∃y,X.N[j]? = some y/\X.env.kindOf y=some .cell/\(relabel sc X.env).names.lookup y=some .cell)
   (hs:∀x,foldedSetIterable iter X.env x=pure x:=by intro _;rfl) :
   PS X (.Assign [.Name yv py] (.ListComp elt [⟨.Name x px,iter,ifs,0⟩] sc pos) pos2) (tAsg (kx ix wi tc te) (bi iy)):=by
 intro pins s σ H D0 I h
 rw[exec_Assign_Name_used _ _ _ _ hsw]
 refine wpAny_bind (wpAny_standAt (wpAny_bind ?_))
 show wpAny _ _ (comprehension _ _ _ _ _ _ _ _ >>= _) _ _ _
 refine wpAny_bind (wpAny_mono (Q:=fun _ s'=>SP X pins D0 .next s') (ud N hc hi hif he hkind hN hnd hx hcl hcell hnames hsub hhas hix hs (use:=some (assign (.Name yv py) X.env)) I h fun D C s6 H5 mm I7 hm hCn hCl hCc hsz hpin qn=>?_) (fun _ s' q=>wpAny_pure (wpAny_pure q)) fun _ _ y=>y)
 refine wpAny_assign_Name (uf I7 hNd hiy hyv (show RelV (V.ref D) (Value.ref D) from rfl) (fun s8 I8 hsb=>?_) hfy)
 obtain⟨a8,sb8,ha8⟩:=hsb
 have hna:C≠a8:=by
   rcases ha8 with z|z
   . rw[z];exact hCl
   . exact Ne.symm (hCc _ _ z)
 obtain⟨oC,esC,epC,hoC,rC⟩:=hm
 refine⟨mm,⟨oC,esC,epC,sb8.extBut _ _ hna hoC,rC⟩,fun h9 sb9=>?_⟩
 exact⟨_,H5,I8.turned (t':=s8.toks) (it:=C) (fun b o hb e=>sb9.extBut b o hb e) hCn hCl (.inr hsz) hCc hpin,qn⟩
end
section
variable {X:Cx}
theorem se {pos:Pos}:QE X (.Dict [] [] pos) a2r:=⟨a4n⟩
theorem cw {o i:Expr}{pos:Pos}{td ty:TE}(hu:X.A.units+1<cLine) (ho:QE X o td) (hi:QE X i ty) (hs:NoSl i):QE X (.Subscript o i pos) (a6h td ty):=⟨a8o hu ho.run hi.run hs⟩
theorem tz {o i:Expr}{pos:Pos}{td ty:TE}(hu:X.A.units+1<cLine) (hi:QE X i ty) (ho:QE X o td) (hm:behindInMarks .NotIn o=false:=by with_unfolding_all rfl):QT X (.Compare i [.NotIn] [o] pos) (tB (yk ty td)):=⟨a9x (a2j hu hi.run ho.run) hm⟩
theorem cg {o i value:Expr}{pos pos':Pos}{td ty tv:TE}(hu:X.A.units+1<cLine) (ho:QE X o td) (hi:QE X i ty) (hv:QE X value tv) (hs:swapsWith value (some (.Subscript o i pos')) pos.line X.env=pure false:=by rfl) :
   QS X (.Assign [.Subscript o i pos'] value pos) (a0q td ty tv):=⟨a7j hu ho.run hi.run hv.run hs⟩
theorem a63 {o e f:Expr}{apos cpos:Pos}{td ty tx:TE}(hu:X.A.units+1<cLine) (ho:QE X o td) (he:QE X e ty) (hf:QE X f tx) (m:M2 X o "get" apos e f cpos:=by exact⟨rfl,rfl,rfl,rfl⟩) :
   QE X (.Call (.Attribute o "get" apos) [e,f] [] cpos) (a1p td ty tx):=⟨a4q hu ho.run he.run hf.run m⟩
theorem dz:cf X (.type "dict") (fun xs H Q=>∃a kvs,xs=[V.ref a]/\H a=some (.dK kvs)/\∀p,H p=none->Q (.ref p) (upd H p (.dK kvs))):=by
 intro pins s σ H xs us Q I r h
 obtain⟨a,kvs,rfl,ha,q⟩:=h
 obtain⟨u,rfl,ru⟩:=ko r
 cases ru
 exact a54 I (.inl ha) fun p s' hp I'=>⟨.ref p,_,I',rfl,q p hp⟩
theorem xx {P:Program}{w:World}{k:Key}{v:Value}(h:(bw P w).is k v=true):RelV (kV k) v:=by
 rcases ci h with⟨i,t,rfl,rfl⟩|⟨x,t,rfl,rfl⟩
 . exact⟨t,rfl⟩
 . exact⟨t,rfl⟩
theorem xi:∀{ks:List V}{vs:List Value},vs.length=ks.length->(∀(j:Nat) (v:Value),vs[j]? = some v->∃y,ks[j]? = some y/\RelV y v)->Vals ks vs
 | [],[],_,_=>.nil
 | k::ks,v::vs,hl,h=>by
   obtain⟨y,e,r⟩:=h 0 v rfl
   cases e
   exact .cons r (xi (by simpa using hl) fun j u hu=>h (j+1) u (by simpa using hu))
theorem jn (hc:X.calm=true):cf X (.type "list") (fun xs H Q=>∃a kvs,xs=[V.ref a]/\H a=some (.dK kvs)/\∀p,H p=none->Q (.ref p) (upd H p (.lst (kvs.map fun kv=>kV kv.1)))):=by
 intro pins s σ H xs us Q I r h
 obtain⟨a,kvs,rfl,ha,q⟩:=h
 obtain⟨u,rfl,ru⟩:=ko r
 cases ru
 obtain⟨z,hd,vs,rel,dd⟩:=ge I.hok (.inl ha)
 have hl:=rel.length
 obtain⟨ep,da⟩:=dd.dictAt
 refine PySem.W.kdl_call (PySem.W.kdl_dict hd) (I.ok.hd hc) da (by rw[<- hl];exact z) fun h' tk acc c hk hD hacc=>?_
 refine⟨.ref s.heap.objs.size,_,I.laid (t':=tk) hk (Nat.le_refl _) (show ObjOk X.prog X.w _ h' _ (.lst (kvs.map fun kv=>kV kv.1)) from⟨by rw[List.length_map];exact z,acc.toList,c,?_,by simpa using hD⟩),rfl,q _ (I.hok.fresh (Nat.le_refl _))⟩
 refine xi (by rw[Array.length_toList,List.length_map,hl];exact hacc.1) fun j v hv=>?_
 obtain⟨k,x,e,ke⟩:=hacc.2 j v (by rw[<- Array.getElem?_toList];exact hv)
 have ek:=rel.keys
 have e2:(vs.map (·.1))[j]? = some k:=by rw[List.getElem?_map,e];rfl
 rw[<- ek,List.getElem?_map] at e2
 refine⟨kV k,?_,xx ke⟩
 rw[List.getElem?_map]
 cases hj:kvs[j]? with
 | none=>rw[hj] at e2;cases e2
 | some p=>rw[hj] at e2;rw[<- Option.some.inj e2];rfl
theorem oy:cf X (.builtin "sorted") (fun vs H Q=>∃(a:Addr) (ss:List Str),vs=[.ref a]/\SqL X.K H a (ss.map V.str)/\ss.length<64/\
   ∀p zs,H p=none->zs.Perm ss->sortedS zs=true->Q (.ref p) (upd H p (.lst (zs.map V.str)))):=by
 intro pins s σ H vs us Q I r h
 obtain⟨a,ss,rfl,hq,hz,q⟩:=h
 obtain⟨u,rfl,ru⟩:=r.one
 cases ru
 obtain⟨its,rv,p,_⟩:=I.list hq
 have hs:=ld rv
 have hl:its.length=ss.length:=hs.length
 refine sorted_strs p.isList hs (by omega) fun out zs a1 a2 a3=>?_
 obtain⟨e,he⟩:=sortedAll_at s.heap its out
 have fr:H (s.heap.objs.size+1)=none:=I.hok.fresh (Nat.le_succ _)
 have hzl:zs.length<64:=by rw[a2.length_eq];exact hz
 exact⟨.ref (s.heap.objs.size+1),upd H (s.heap.objs.size+1) (.lst (zs.map V.str)),I.laid (t':=s.toks) (fun b o hb=>sortedAll_old hb) (Nat.le_succ _) ⟨by rw[List.length_map];exact Nat.le_of_lt (dw (by omega)),out.toList,e,lp a1,by simpa [seqObj] using he⟩,rfl,q _ zs fr a2 a3⟩
end
theorem j8:∀{ks:List (Key×Value)}{k:Key}{v:Value},(ks.map (·.1)).Nodup->(k,v)∈ks->valueAt ks k=some v
 | [],_,_,_,hm=>by simp at hm
 | q::r,k,v,hnd,hm=>by
   rw[List.map_cons,List.nodup_cons] at hnd
   unfold valueAt
   by_cases hq:q.1=k
   . rcases List.mem_cons.mp hm with rfl|hm'
     . simp
     . exact absurd (List.mem_map.mpr ⟨(k,v),hm',hq.symm⟩) hnd.1
   . rcases List.mem_cons.mp hm with rfl|hm'
     . exact absurd rfl hq
     . have:=j8 hnd.2 hm'
       unfold valueAt at this
       simp only[List.find?_cons]
       simp[hq,this]
noncomputable def qw:V->Bool
 | .byt _=>false
 | .flt _=>false
 | _=>true
theorem p8 {A:Around}{s:Shared}{v:V}{u u':Value}(hv:qw v=true) (r:RelV v u) (r':RelV v u'):SeqAt.EqAt A s u u' true:=by
 cases v with
 | non=>cases r;cases r';exact SeqAt.EqAt.same _
 | bl b=>cases r;cases r';exact SeqAt.EqAt.same _
 | int i =>
   obtain⟨t,rfl⟩:=r
   obtain⟨t',rfl⟩:=r'
   have:=SeqAt.EqAt.int_int (A:=A) (s:=s) i t i t'
   simpa using this
 | str x =>
   obtain⟨t,rfl⟩:=r
   obtain⟨t',rfl⟩:=r'
   have:=SeqAt.EqAt.str_str (A:=A) (s:=s) x t x t'
   simpa using this
 | byt b=>cases hv
 | flt b=>cases hv
 | ref a=>cases r;cases r';exact SeqAt.EqAt.same _
 | ty n=>cases r;cases r';exact SeqAt.EqAt.same _
theorem oz {A:Around}{s:Shared}{kb:List (Key×Value)}:∀ls:List (Key×Value),(∀p∈ls,∃y,valueAt kb p.1=some y/\SeqAt.EqAt A s p.2 y true)->PySem.W.KeqHits A s kb ls true
 | [],_=>.nil
 | (k,v)::ls,h=>by
   obtain⟨y,e1,e2⟩:=h (k,v) (List.mem_cons_self ..)
   have:=PySem.W.KeqHits.hit (A:=A) (s:=s) (kb:=kb) e1 e2 (oz ls fun p hp=>h p (List.mem_cons_of_mem _ hp))
   simpa using this
section
variable {X:Cx}
theorem qe {P:Program}{w:World}{h:Heap}{a:Addr}{vs:List (Key×Value)}(d:h.DictOf (bw P w) a vs):(vs.map (·.1)).Nodup:=by
 obtain⟨_,_,_,_,_,_,_,_,hn⟩:=d
 exact hn
theorem a1b {s:Shared}{kvs:List (Key×V)}{ka kb:List (Key×Value)}{A:Around}(hs:∀p∈kvs,qw p.2=true) (ra:KV kvs ka) (rb:KV kvs kb) (na:(ka.map (·.1)).Nodup):PySem.W.KeqHits A s kb ka true:=by
 refine oz ka fun p hp=>?_
 have e1:=j8 (k:=p.1) (v:=p.2) na hp
 have r1:=ra.val p.1
 have r2:=rb.val p.1
 rw[e1] at r1
 cases hv:valV kvs p.1 with
 | none=>rw[hv] at r1;exact r1.elim
 | some v =>
   rw[hv] at r1 r2
   have hm:∃q∈kvs,q.2=v:=by
     unfold valV at hv
     cases hf:kvs.find? (fun kv=>decide (kv.1=p.1)) with
     | none=>rw[hf] at hv;cases hv
     | some q=>rw[hf] at hv;exact⟨q,List.mem_of_find?_eq_some hf,Option.some.inj hv⟩
   obtain⟨q,hq,rfl⟩:=hm
   cases hy:valueAt kb p.1 with
   | none=>rw[hy] at r2;exact r2.elim
   | some y =>
     rw[hy] at r2
     exact⟨y,rfl,p8 (hs q hq) r1 r2⟩
end
theorem wq {L:List (Str×NameKind)}{cl:List (Str×Addr)}{ks:List Str}(hkm:cl.map (·.1)=ks) (hkB:(L.all fun y=>(match y.2 with|.cell=>false|.free=>false|_=>true) || decide (y.1∈ks))=true) (z:Str) (h:L.lookup z=some .cell\/L.lookup z=some .free):∃c,cl.lookup z=some c:=by
 have hm:z∈cl.map (·.1):=by
   rw[hkm]
   rcases h with h|h
   . have:=List.all_eq_true.mp hkB _ (PySem.mem_of_lookup h)
     simpa using this
   . have:=List.all_eq_true.mp hkB _ (PySem.mem_of_lookup h)
     simpa using this
 clear hkm hkB
 induction cl with
 | nil=>simp at hm
 | cons p r ih =>
   rw[List.lookup_cons]
   cases hb:z == p.1 with
   | true=>exact⟨_,rfl⟩
   | false =>
     rw[List.map_cons,List.mem_cons] at hm
     rcases hm with h1|h1
     . rw[h1] at hb;simp at hb
     . exact ih h1
section
variable {X:Cx}
theorem lq:cf X (.builtin "isinstance") (fun xs H Q=>∃i,xs=[.int i,.ty "int"]/\Q (.bl true) H):=by
 intro pins s σ H xs us Q I r h
 obtain⟨z,rfl,q⟩:=h
 cases r with
 | cons r1 r =>
   cases r with
   | cons r2 r =>
     cases r
     obtain⟨t,rfl⟩:=r1
     cases r2
     exact IsiPair.int_int ⟨.bl true,H,I,rfl,q⟩
theorem j7:cf X (.builtin "isinstance") (fun xs H Q=>∃i,xs=[.int i,.ty "bool"]/\Q (.bl false) H):=by
 intro pins s σ H xs us Q I r h
 obtain⟨z,rfl,q⟩:=h
 cases r with
 | cons r1 r =>
   cases r with
   | cons r2 r =>
     cases r
     obtain⟨t,rfl⟩:=r1
     cases r2
     exact IsiPair.int_bool ⟨.bl false,H,I.tok _,rfl,q⟩
end
theorem wy {cl cells:List (Str×Addr)}(h:∀p∈cl,cells.lookup p.1=some p.2) (y:Str) (c:Addr) (e:cl.lookup y=some c):cells.lookup y=some c:=h (y,c) (PySem.mem_of_lookup e)
inductive ClIn (cells:List (Str×Addr)):List (Str×Addr)->Prop
 | nil:ClIn cells []
 | cons {x:Str} {a:Addr} {r:List (Str×Addr)}:cells.lookup x=some a->ClIn cells r->ClIn cells ((x,a)::r)
theorem ClIn.all {cells cl:List (Str×Addr)}(h:ClIn cells cl):∀p∈cl,cells.lookup p.1=some p.2:=by
 induction h with
 | nil=>intro p hp;cases hp
 | cons h _ ih =>
   intro p hp
   rcases List.mem_cons.mp hp with rfl|z
   . exact h
   . exact ih p z
inductive IxIn (X:Cx) (sc:Scope):List Nat->Prop
 | nil:IxIn X sc []
 | cons {j:Nat} {y:Str} {r:List Nat}:X.N[j]? = some y->X.env.kindOf y=some .cell->(relabel sc X.env).names.lookup y=some .cell->IxIn X sc r->IxIn X sc (j::r)
theorem IxIn.all {X:Cx}{sc:Scope}{ix:List Nat}(h:IxIn X sc ix):∀j∈ix,∃y,X.N[j]? = some y/\X.env.kindOf y=some .cell/\(relabel sc X.env).names.lookup y=some .cell:=by
 induction h with
 | nil=>intro p hp;cases hp
 | cons h1 h2 h3 _ ih =>
   intro p hp
   rcases List.mem_cons.mp hp with rfl|z
   . exact⟨_,h1,h2,h3⟩
   . exact ih p z
theorem a4j {X:Cx}{elt iter:Expr}{x:Str}{px pos:Pos}{ifs:List Expr}{sc:Scope}{cl:List (Str×Addr)}{wi:TI}{tc:TT}{te:TE}(N:List Str) (ix:List Nat) (hi:QI X (.Name x px) iter wi)
   (hif:∀s H C ex,QTs (blk X N s H sc cl C ex) ifs tc) (he:∀s H C ex,QE (blk X N s H sc cl C ex) elt te)
   (hcl:closureFor sc X.env=pure cl:=by rfl) (hcs:ClIn X.env.cells cl:=by repeat' first|with_unfolding_all rfl|constructor) (hN:N=x::ix.map (fun j=>(X.N[j]?).getD ""):=by rfl) (hnd:N.Nodup:=by decide +kernel)
   (hkm:cl.map (·.1)=N.tail:=by rfl) (hkB:((relabel sc X.env).names.all fun y=>(match y.2 with|.cell=>false|.free=>false|_=>true) || decide (y.1∈N.tail))=true:=by with_unfolding_all rfl)
   (hix:IxIn X sc ix:=by repeat' first|with_unfolding_all rfl|constructor)
   (hx:sc.names.lookup x=some .local:=by decide +kernel) (hcell:∀z∈sc.names,z.2≠.cell:=by decide +kernel)
   (hnames:∀z∈sc.names,z.2=.local->sc.names.lookup z.1=some .local:=by decide +kernel)
   (hc:X.calm=true:=by rfl) (hkind:sc.kind=.function:=by rfl) (hs:∀x,foldedSetIterable iter X.env x=pure x:=by intro _;rfl) :
   QE X (.ListComp elt [⟨.Name x px,iter,ifs,0⟩] sc pos) (kx ix wi tc te) :=
 ⟨yp N hc hi.run (fun s H C ex=>(hif s H C ex).run) (fun s H C ex=>(he s H C ex).run) hkind hN hnd hx hcl hcell hnames (wy hcs.all) (wq hkm hkB) hix.all hs⟩
theorem wx {X:Cx}{elt iter:Expr}{x yv:Str}{px pos py pos2:Pos}{i:Nat}{ifs:List Expr}{sc:Scope}{cl:List (Str×Addr)}{wi:TI}{tc:TT}{te:TE}(N:List Str) (ix:List Nat) (hNd:X.N.Nodup) (hiy:X.N[i]? = some yv) (hyv:Loc X.env.scope yv) (hi:QI X (.Name x px) iter wi)
   (hif:∀s H C ex,QTs (blk X N s H sc cl C ex) ifs tc) (he:∀s H C ex,QE (blk X N s H sc cl C ex) elt te)
   (hsw:swapsWith (.ListComp elt [⟨.Name x px,iter,ifs,0⟩] sc pos) (some (.Name yv py)) pos2.line X.env=pure true:=by rfl) (hfy:X.fn yv=true\/X.env.scope.names.lookup yv=some .local:=by first|exact .inl rfl|exact .inr rfl|assumption)
   (hcl:closureFor sc X.env=pure cl:=by rfl) (hcs:ClIn X.env.cells cl:=by repeat' first|with_unfolding_all rfl|constructor) (hN:N=x::ix.map (fun j=>(X.N[j]?).getD ""):=by rfl) (hnd:N.Nodup:=by decide +kernel)
   (hkm:cl.map (·.1)=N.tail:=by rfl) (hkB:((relabel sc X.env).names.all fun y=>(match y.2 with|.cell=>false|.free=>false|_=>true) || decide (y.1∈N.tail))=true:=by with_unfolding_all rfl)
   (hix:IxIn X sc ix:=by repeat' first|with_unfolding_all rfl|constructor)
   (hx:sc.names.lookup x=some .local:=by decide +kernel) (hcell:∀z∈sc.names,z.2≠.cell:=by decide +kernel)
   (hnames:∀z∈sc.names,z.2=.local->sc.names.lookup z.1=some .local:=by decide +kernel)
   (hc:X.calm=true:=by rfl) (hkind:sc.kind=.function:=by rfl) (hs:∀x,foldedSetIterable iter X.env x=pure x:=by intro _;rfl) :
   QS X (.Assign [.Name yv py] (.ListComp elt [⟨.Name x px,iter,ifs,0⟩] sc pos) pos2) (tAsg (kx ix wi tc te) (bi i)) :=
 ⟨a07 N hNd hiy hyv hsw hfy hc hi.run (fun s H C ex=>(hif s H C ex).run) (fun s H C ex=>(he s H C ex).run) hkind hN hnd hx hcl hcell hnames (wy hcs.all) (wq hkm hkB) hix.all hs⟩
section
variable {X:Cx}{CX:CXT}{k:Nat}{f C:Addr}{fd:FuncData}{ps:List Str}{ds:List Value}{dvs:List V}{sp:Sp}{E:XK}{x m fl:Str}{p pos pos' apos:Pos}{e o value:Expr}{es:List Expr}{ta tv:TE}{t:TA}
theorem a9p (he:QE X e ta) (hb:attributeBase e fl X.env (eval e X.env)=eval e X.env:=by rfl):QE X (.Attribute e fl pos) (tFld X.K ta fl):=⟨a96 he.run hb⟩
theorem aa8 (ha:QE X o ta) (hv:QE X value tv) (hs:swapsWith value (some (.Attribute o fl pos')) pos.line X.env=pure false:=by rfl):QS X (.Assign [.Attribute o fl pos'] value pos) (sFld X.K ta tv fl):=⟨a8x ha.run hv.run hs⟩
theorem df {pl:Sem Bool}(he:QE X o ta) (c:Cls X.K C) (hm:Meth X.K C m f) (F:FnOk X.prog X.w X.K X.mg X.base CX k f fd ps sp) (hr:Room k X.A) (hb:Binds X.K fd ps ds) (hd:Vals dvs ds) (hx:fj CX X E) (ha:QA X (e::es) t)
   (hst:starEach (e::es) X.env=(false,eval e X.env)::starEach es X.env:=by rfl) (hpl:(backTo pos (starEach es X.env)).any (·.1)=false:=by rfl)
   (ht:eval (.Call (.Attribute o m apos) (e::es) [] pos) X.env=(do
     let ov<-eval o X.env
     standAt apos.atName
     let (f,first)<-holding [ov] (getMethod ov m pl)
     callWith pos f first (backTo pos (starEach (e::es) X.env)) (backToKw pos (keywordEach [] X.env))):=by rfl) :
   QE X (.Call (.Attribute o m apos) (e::es) [] pos) (q8 C m sp dvs E ta t):=⟨a82 he.run c hm F hr hb hd hx ha.run hst hpl ht⟩
theorem cz {pl:Sem Bool}(he:QE X o ta) (c:Cls X.K C) (hm:Meth X.K C m f) (F:FnOk X.prog X.w X.K X.mg X.base CX k f fd ps sp) (hr:Room k X.A) (hb:Binds X.K fd ps ds) (hd:Vals dvs ds) (hx:fj CX X E)
   (ht:eval (.Call (.Attribute o m apos) [] [] pos) X.env=(do
     let ov<-eval o X.env
     standAt apos.atName
     let (f,first)<-holding [ov] (getMethod ov m pl)
     callWith pos f first (backTo pos (starEach [] X.env)) (backToKw pos (keywordEach [] X.env))):=by rfl) :
   QE X (.Call (.Attribute o m apos) [] [] pos) (q8 C m sp dvs E ta tNil):=⟨a5i he.run c hm F hr hb hd hx ht⟩
theorem zg (M:Mk X.K C f) (F:FnOk X.prog X.w X.K X.mg X.base CX k f fd ps sp) (hr:Room (k+1) X.A) (hg:Gl X x) (hm:X.mg x=some (.ref C)) (hb:Binds X.K fd ps ds) (hd:Vals dvs ds) (hx:fj CX X E)
   (ha:QA X (e::es) t) (hdb:(x == ("__debug__" : Str))=false:=by decide) (he:starEach (e::es) X.env=(false,eval e X.env)::starEach es X.env:=by rfl) (hpl:(backTo pos (starEach es X.env)).any (·.1)=false:=by rfl) :
   QE X (.Call (.Name x p) (e::es) [] pos) (a6r C sp dvs E t):=⟨a84 M F hr hg hm hb hd hx ha.run hdb he hpl⟩
end
section
variable {X:Cx}{pins:List (Addr×Obj)}{σ:St}{H:Hp}{s:Shared}{a:Addr}{y d:V}{u r:Value}{A:Around}{E:Value->Shared->Prop}
end
section
variable {X:Cx}{o e f:Expr}{apos cpos:Pos}{td ty tx:TE}
end
section
variable {prog:Program}{w:World}{A:Around}{E:Value->Shared->Prop}{s:Shared}{J d:Addr}{n ep:Nat}{es:Array DictEntry}{od:Obj}
theorem wm {Q:Option Value->Shared->Prop}(hj:s.heap.IsKeyIter J d n es.size ep) (h1:s.heap.get? d=some od) (h2:od.data=.dict es ep) (hh:A.handled=none)
   (q1:∀(hn:n<es.size) h',h'.IsKeyIter J d (n+1) es.size ep->Heap.SameBut J s.heap h'->Q (some es[n].key) { s with heap:=h' }) (q2:es.size<=n->∀h',Heap.ExtBut J s.heap h'->Q none { s with heap:=h' }) :
   wpAny (model prog w) A (pyNext (.ref J)) Q E s:=by
 obtain⟨oj,g1,g2,g3⟩:=id hj
 have ty:=hj.typeIs
 have no:Builtin.Dict_items.ownsTuple "dict_keyiterator" = false:=by decide
 have nn:¬ ((Value.ref d == Value.none)=true):=Bool.false_ne_true
 have pos:¬ ((n:Int)<0):=by omega
 unfold pyNext
 refine wpAny_bind (wpAny_attempt (wpAny_callSpecial?_slot (name:=Str.ofString "__next__") ty PySem.F.slot_dict_keyiterator_next (wpAny_call_entry PySem.F.slot_dict_keyiterator_next ty PySem.F.entry_dict_keyiterator_next ?_ (PySem.F.args_dict_keyiterator_next_1 _))))
 refine wpAny_bind (wpAny_pure (wpAny_bind (wpAny_bind ?_)))
 first|refine wpAny_bind (wpAny_typeNameOfWhole_keyiter ty (wpAny_pure (wpAny_bind (wpAny_fieldsOf g1 g3 ?_))))|refine wpAny_bind (wpAny_typeNameOf_keyiter ty (wpAny_pure (wpAny_bind (wpAny_fieldsOf g1 g3 ?_))))
 simp only[no,Bool.false_eq_true,if_false]
 show wpAny _ _ (if (Value.ref d == Value.none)=true then _ else _) _ _ s;rw[if_neg nn]
 refine wpAny_bind (wpAny_pure (wpAny_bind (wpAny_dictEntries h1 h2 ?_)));rw[if_neg (by simp)]
 refine wpAny_bind (wpAny_pure (wpAny_bind (wpAny_dictEpoch h1 h2 ?_)));rw[if_neg (by simp)];refine wpAny_pure ?_
 by_cases hn:n<es.size
 . simp only[pos,if_false,Int.toNat_natCast,Array.getElem?_eq_getElem hn]
   refine wpAny_bind ?_
   first|refine wpAny_bind (wpAny_typeNameOfWhole_keyiter ty (wpAny_pure (wpAny_bind (wpAny_isOneOf_keyiter ty ?_))))|refine wpAny_bind (wpAny_typeNameOf_keyiter ty (wpAny_pure (wpAny_bind (wpAny_isOneOf_keyiter ty ?_))))
   show wpAny _ _ (setField (.ref J) 1 (rawInt ((n:Int)+1)) >>= _) _ _ s;refine wpAny_bind (wpAny_setField g1 g3 (by simp) ?_)
   have hj':(s.heap.update J (Obj.mapFields (·.setIfInBounds 1 (rawInt ((n:Int)+1))))).IsKeyIter J d (n+1) es.size ep:=⟨_,Heap.get?_update_self _ g1 (Obj.isFreed_of_fields (Obj.data_mapFields g3 _)),(Obj.cls_mapFields ..).trans g2,(by rw[Obj.data_mapFields g3];simp[rawInt])⟩
   refine wpAny_bind (wpAny_holding (wpAny_bind (wpAny_isOneOf_keyiter (s:={ s with heap:=s.heap.update J (Obj.mapFields (·.setIfInBounds 1 (rawInt ((n:Int)+1)))) }) hj'.typeIs ?_)))
   exact wpAny_pure (wpAny_pure ⟨_,rfl,wpAny_pure (q1 hn _ hj' (Heap.SameBut.update ..))⟩)
 . simp only[pos,if_false,Int.toNat_natCast,Array.getElem?_eq_none (Nat.le_of_not_lt hn)]
   refine wpAny_bind ?_
   first|refine wpAny_bind (wpAny_typeNameOfWhole_keyiter ty (wpAny_pure ?_))|refine wpAny_bind (wpAny_typeNameOf_keyiter ty (wpAny_pure ?_))
   show wpAny _ _ (setField (.ref J) 0 .none >>= _) _ _ s;refine wpAny_bind (wpAny_setField g1 g3 (by simp) (wpAny_bind ?_))
   simp only[newExc,newTuple];refine wpAny_bind (wpAny_newObj_type ?_ (by size_fits))
   refine wpAny_bind (m:=firstArgMember _ _) (wpAny_of_eq (a:=Value.none) (by first|rfl|(simp only[firstArgMember];rfl)) (wpAny_newObj_type ?_ (by size_fits)))
   simp only[raiseNew];refine wpAny_bind (wpAny_handled ?_);rw[show A.in1.handled=none from hh]
   refine wpAny_bind (wpAny_pure (wpAny_throw ?_));have sub:=isSubtype_stop
   refine wpAny_bind (wpAny_isInstance (T := "StopIteration") (b:=true) ⟨_,Heap.get?_push_size _ rfl,rfl⟩ sub ?_)
   exact wpAny_pure (q2 (Nat.le_of_not_lt hn) _ (((Heap.SameBut.update ..).extBut.push _).push _))
theorem a58 {Q:Value->Shared->Prop}(hd:(d == sysModules)=false) (h1:s.heap.get? d=some od) (hc:od.ExactDict) (h2:od.data=.dict es ep)
   (q:Q (.ref s.heap.objs.size) { s with heap:=s.heap.push { cls:=.type "dict_keyiterator",data:=.fields #[.ref d,.int 0 0,.int es.size 0,.int ep 0] } }):wpAny (model prog w) A (pyIter (.ref d)) Q E s:=by
 have ty:s.TypeIs (.ref d) "dict" := ⟨od,h1,hc.1⟩
 refine wpAny_pyIter_slot ty PySem.F.slot_dict_iter (wpAny_call_entry PySem.F.slot_dict_iter ty PySem.F.entry_dict_iter ?_ (PySem.F.args_dict_iter_1 _))
 unfold Builtin.«dict.__iter__»;refine wpAny_bind ?_;unfold Builtin.Dict.dictSlotNone
 refine wpAny_bind (wpAny_notOrdered_dict ty (wpAny_pure ?_))
 show wpAny _ _ (Builtin.Dict.showsAll d >>= _) _ _ s;unfold Builtin.Dict.showsAll
 rw[if_neg (show ¬ (d == sysModules)=true by rw[hd];exact Bool.false_ne_true)]
 refine wpAny_bind (wpAny_pure (wpAny_bind (wpAny_dictEntries h1 h2 (wpAny_bind (wpAny_dictEpoch h1 h2 ?_)))))
 exact wpAny_bind (wpAny_newObj_type (wpAny_pure ⟨_,rfl,"dict_keyiterator",_,⟨_,Heap.get?_push_size _ rfl,rfl⟩,PySem.F.slot_dict_keyiterator_next.lookup,q⟩))
end
section
variable {X:Cx}
end
noncomputable def NF (X:Cx) (a:Addr):Prop:=∀o u,X.H₀ a≠some (.frz o u)
section
variable {X:Cx}{pins:List (Addr×Obj)}{σ:St}{H:Hp}{s:Shared}{a:Addr}{u:HO}{o:Obj}
theorem Inv.nf (I:Inv X pins σ H s) (e:H a=some u) (hu:∀o v,u≠.frz o v):NF X a:=fun o v z=>by
 have:=I.base.frzs a o v z
 rw[e] at this
 exact hu o v (Option.some.inj this)
theorem Inv.thaw (I:Inv X pins σ H s) (e:H a=some (.frz o u)) (nf:NF X a):Inv X pins σ (upd H a u) s:=by
 have k:∀b v,H b=some v->(∀o' u',v≠.frz o' u')->(upd H a u) b=some v:=fun b v q n=>by
   rw[ac fun z=>by rw[z,e] at q;exact n o u (Option.some.inj q).symm];exact q
 have k0:∀b,H b=none->(upd H a u) b=none:=fun b q=>by
   rw[ac fun z=>by rw[z,e] at q;cases q];exact q
 have hok:HOk X.prog X.w (upd H a u) s.heap:=fun b v q=>by
   have st:∀{c:Addr} {w':HO},ObjOk X.prog X.w H s.heap c w'->ObjOk X.prog X.w (upd H a u) s.heap c w':=fun x=>x.stay (fun _ _ _ z=>z) (fun c z=>k c _ z fun _ _ y=>by cases y) fun c xs z=>k c _ z fun _ _ y=>by cases y
   by_cases hb:b=a
   . subst hb
     rw[a0] at q
     cases q
     exact st (I.hok b _ e).2
   . rw[ac hb] at q
     exact st (I.hok b v q)
 have bs:=I.base
 refine⟨I.ok,I.os,I.bare,⟨bs.keep,bs.slot,fun b ob q n hx=>k0 b (bs.free b ob q n hx),bs.there,fun b xs q=>k b _ (bs.tups b xs q) (fun _ _ y=>nomatch y),fun b o' u' q=>?_,fun b ps q=>?_⟩,I.loc,I.cell,k0 _ I.free,fun x c z=>k0 _ (I.freeC x c z),fun p hp=>?_,hok,I.len⟩
 . have q2:=bs.frzs b o' u' q
   rw[ac fun z=>by rw[z] at q;exact nf o' u' q];exact q2
 . obtain⟨m,q2⟩:=bs.tbls b ps q
   exact⟨m,k b _ q2 fun _ _ y=>by cases y⟩
 . obtain⟨p1,p2,p3⟩:=I.pin p hp
   exact⟨p1,k0 _ p2,p3⟩
noncomputable def aah (X:Cx) (t:TE):TE:=fun σ H Q=>t σ H fun v H2=>∃a o u,H2 a=some (.frz o u)/\NF X a/\Q v (upd H2 a u)
theorem a7g {ex:Expr}{t:TE}(h:QE X ex t):QE X ex (aah X t):=⟨fun pins s σ H Q I q=>thn (h.run pins s σ H _ I q) fun w' s1 ⟨v,H1,I1,r,a,o,u,e,nf,q1⟩=>⟨v,_,I1.thaw e nf,r,q1⟩⟩
end
end L2
namespace HT
open PySem PySem.Spec PyProof.Rows L2
variable {prog:Program}{w:World}{A:Around}{E:Value->Shared->Prop}{s:Shared}
theorem getItem_tuple_whole {t sl:Addr}{items:Array Value}{vl vu:Value}{lo hi:Option Int}{Q:Value->Shared->Prop}(ht:IsTup s.heap t items) (hs:s.heap.IsSliceOf sl vl vu .none) (pl:IsPart vl lo) (pu:IsPart vu hi)
   (h1:sIx items.size 0 lo=0) (h2:sIx items.size items.size hi=items.size)
   (h:Q (.ref t) s):wpAny (model prog w) A (getItem (.ref t) (.ref sl)) Q E s:=by
 obtain⟨os,hos,hcs,hds⟩:=id hs
 have hTs:s.TypeIs (.ref sl) "slice" := ⟨os,hos,hcs⟩
 unfold getItem
 try with_reducible refine wpAny_holding ?_
 first|refine wpAny_bind (wpAny_pure ?_)|skip
 refine wpAny_bind (wpAny_sequenceKey ht.typeIs (by decide) ?_)
 refine wpAny_bind (wpAny_callSpecial?_slot (name:=Str.ofString "__getitem__") ht.typeIs PyProof.Rows.slot_tuple_getitem
   (wpAny_call_entry PyProof.Rows.slot_tuple_getitem ht.typeIs entry_tuple_getitem ?_ (args_tuple_getitem _ _)))
 show wpAny _ _ (Builtin.Tuple.tupleItemsOf (.ref t) >>= _) _ _ s
 refine wpAny_bind (tupleItemsOf_ ht ?_)
 refine wpAny_bind (wpAny_typeOf hTs ?_)
 rw[if_pos (by decide)]
 refine wpAny_bind (im hs pl pu ?_)
 have hyes:((((sIx items.size 0 lo:Nat):Int) == 0 && (1:Int) == 1 && (sIx items.size items.size hi - sIx items.size 0 lo) == items.size)=true):=by
   rw[h1,h2];simp
 show wpAny _ _ (if (((sIx items.size 0 lo:Nat):Int) == 0 && (1:Int) == 1 && (sIx items.size items.size hi - sIx items.size 0 lo) == items.size)=true then _ else _) _ _ s
 rw[if_pos hyes]
 unfold Builtin.Tuple.tupleIsExact
 refine wpAny_bind (wpAny_bind (wpAny_typeOf ht.typeIs (wpAny_pure ?_)))
 rw[if_pos (by decide)]
 refine wpAny_bind (wpAny_rule ?_)
 exact wpAny_pure ⟨_,rfl,wpAny_pure h⟩
theorem cat_tup0 {t b:Addr}{vs ws:List Value}{Q:Value->Shared->Prop}(ht:IsTup s.heap t vs.toArray) (hb:IsTup s.heap b ws.toArray) (hv:vs=[])
   (h1:Q (.ref b) s):wpAny (model prog w) A (binaryOp .Add (.ref t) (.ref b)) Q E s:=by
 obtain⟨⟨cls,dd,data,sl⟩,ho,hc,n,hd⟩:=id ht
 obtain⟨⟨cls2,dd2,data2,sl2⟩,ho2,hc2,n2,hd2⟩:=id hb
 simp only at hc hd hc2 hd2
 subst hc hd hc2 hd2
 exact concat_meets ⟨_,ho,rfl⟩ ⟨_,ho2,rfl⟩ noFill_tuple_add seq_tuple_add PySem.F.slot_tuple_add PySem.F.entry_tuple_add (PySem.F.args_tuple_add_2 _ _)
     (tuple_addW0 t b vs.toArray ws.toArray n n2 dd dd2 sl sl2 (by simp[hv])) ⟨ho,ho2,h1⟩
end HT
namespace L2
open PySem PySem.Spec PyProof.Rows
section
variable {X:Cx}
theorem zv {xs:List V}{lo hi:Option Int}(h1:HT.sIx xs.length 0 lo=0) (h2:HT.sIx xs.length xs.length hi=xs.length):cutV xs lo hi=xs:=by
 unfold cutV
 rw[h1,h2,List.drop_zero,Nat.sub_zero,List.take_length]
noncomputable def a1a (K:PySem.W.Frag):V->Option Int->Option Int->Hp->VK->Prop:=fun x lo hi H Q=>∃a xs,x=.ref a/\SqT K H a xs/\∀p H',Same H H'->SqT K H' p (cutV xs lo hi)->Q (.ref p) H'
theorem ig:SlR X (a1a X.K):=by
 intro pins s σ H x v vl vu lo hi sl Q I rx hs pl pu h
 obtain⟨a,xs,rfl,hx,q⟩:=h
 by_cases hw:HT.sIx xs.length 0 lo=0/\HT.sIx xs.length xs.length hi=xs.length
 . cases rx
   obtain⟨its,r,ht,hz⟩:=I.tuple hx
   have hlen:its.toArray.size=xs.length:=by rw[List.size_toArray];exact r.length.symm
   refine⟨"tuple",_,PyProof.Rows.slot_tuple_getitem.lookup,ht.typeIs,?_⟩
   refine HT.getItem_tuple_whole ht hs pl pu (by rw[hlen];exact hw.1) (by rw[hlen];exact hw.2) ?_
   refine⟨.ref a,H,I,rfl,q a H (Same.refl _) ?_⟩
   rw[zv hw.1 hw.2];exact hx
 . exact qj pins s σ H (.ref a) v vl vu lo hi sl Q I rx hs pl pu ⟨a,xs,rfl,hx,hw,fun p hp=>q p _ (ad hp _) (SqT.of a0)⟩
noncomputable def a9e (K:PySem.W.Frag):R2:=fun x y H Q=>∃a b xs ys,x=.ref a/\y=.ref b/\SqT K H a xs/\SqT K H b ys/\xs.length+ys.length<=sizeLine/\∀p H',Same H H'->SqT K H' p (xs++ys)->Q (.ref p) H'
theorem v5:OpR X (binaryOp .Add) (a9e X.K):=by
 intro pins s σ H x y v u Q I rx ry h
 obtain⟨a,b,xs,ys,rfl,rfl,ha,hb,hz,q⟩:=h
 by_cases hx:xs=[]
 . cases rx
   cases ry
   obtain⟨its,r1,p1,_⟩:=I.tuple ha
   obtain⟨its2,r2,p2,_⟩:=I.tuple hb
   refine HT.cat_tup0 p1 p2 (r1.nil_iff.mpr hx) ⟨.ref b,H,I,rfl,q b H (Same.refl _) ?_⟩
   rw[hx];exact hb
 . exact my pins s σ H (.ref a) (.ref b) v u Q I rx ry ⟨a,b,xs,ys,rfl,rfl,ha,hb,hx,hz,fun z=>q a H (Same.refl _) (by rw[z,List.append_nil];exact ha),fun _ p hp=>q p _ (ad hp _) (SqT.of a0)⟩
end
noncomputable def Itr2 (lo:Int) (n:Nat):It:=⟨fun i _=>i<n,fun i H x H'=>H'=H/\x=.int (lo+i*2),fun i _=>n<=i⟩
theorem xn {P:Program}{w:World}{K:PySem.W.Frag}{tg:Expr}(it:Addr) (lo:Int) (n:Nat):Turn P w K tg (Itr2 lo n) [it] it (fun i h=>IsRangeIter h it (lo+(i:Nat)*2) ((n:Int) - (i:Nat)) 2) where
 mem:=by simp
 obj:=fun i h st b hb=>by
   obtain rfl:b=it:=by simpa using hb
   exact⟨_,st,fun v z=>by
     have z':Data.fields _=Data.cell v:=z
     cases z'⟩
 keep:=fun i h h' st k=>k it (by simp) _ st
 item:=by
   intro X hP hw hK hc i pins s σ H E I hf st hg
   subst hP hw hK
   obtain⟨f0,f1,f2,f3,f4,f5⟩:=hf it (by simp)
   refine (Walks.range (prog:=X.prog) (w:=X.w) (I.ok.hd hc) it lo 2 n).item i s _ _ hg st fun v h' tk hv st' kk=>?_
   obtain⟨t,rfl⟩:=hv
   have I1:Inv X pins σ H { s with heap:=h',toks:=tk }:=I.turned (fun b o hb e=>kk b o (by simpa using hb) e) f0 f1 f3 f4 f5
   exact⟨_,rfl,qo (s:={ s with heap:=h',toks:=tk }) (n := "range_iterator") st' rfl rfl (by decide) ⟨.int (lo+i*2),H,I1,⟨t,rfl⟩,⟨rfl,rfl⟩,st',fun b hb=>(hf b hb).1⟩⟩
 done:=by
   intro X hP hw hK hc i pins s σ H E I hf st hg
   subst hP hw hK
   obtain⟨f0,f1,f2,f3,f4,f5⟩:=hf it (by simp)
   exact wpAny_pyNext_range_end (I.ok.hd hc) st (by have:n<=i:=hg;omega) fun h' eb=>⟨rfl,I.turned (t':=s.toks) (fun b o hb e=>eb b o hb e) f0 f1 f3 f4 f5⟩
 self:=fun _ _ _ _ _ st h=>wpAny_pyIter_rangeiter st h
section
variable {X:Cx}{tg:Expr}
theorem a3w {a b:Int}(h1 : -1000000<=a) (h2:a<1000000) (h3 : -1000000<=b) (h4:b<1000000):Builtin.Range.small a b 2=true:=by
 have fit:∀{x:Int},-10000000<=x->x<10000000->Builtin.Range.rangeFitsLong x=true:=fun {x} y z=>by
   unfold Builtin.Range.rangeFitsLong
   simp only[Bool.and_eq_true,decide_eq_true_eq]
   omega
 have sz:Builtin.Range.rangeSize a b 2=(((b - a+1) / 2).toNat:Int):=by
   unfold Builtin.Range.rangeSize
   rw[if_pos (by decide)]
   split<;>omega
 unfold Builtin.Range.small
 rw[sz,fit (by omega) (by omega),fit (by omega) (by omega),fit (by decide) (by decide),fit (by omega) (by omega),if_pos (by decide),fit (by omega) (by omega)]
 simp
theorem a8p {x:Int}:Builtin.divisionGoesByPylong x 2=false:=by
 unfold Builtin.divisionGoesByPylong
 have:decide ((if ((2:Int) == 0)=true then 0 else (2:Int).natAbs.log2 / 30+1)>300)=false:=by decide +kernel
 simp only[this,Bool.false_and]
theorem a64 {a b:Int}:Builtin.Range.rangeSize a b 2=(((b - a+1) / 2).toNat:Int):=by
 unfold Builtin.Range.rangeSize
 rw[if_pos (by decide)]
 split<;>omega
theorem a4g {pins:List (Addr×Obj)}{σ:St}{H:Hp}{s:Shared}{R:It->Hp->Prop}{E:Value->Shared->Prop}{lo hi:Int}{t u v:Tok}{tk:Nat}(I:Inv X pins σ H s) (h1 : -1000000<=lo) (h2:lo<1000000) (h3 : -1000000<=hi) (h4:hi<1000000)
   (q:R (Itr2 lo ((hi - lo+1) / 2).toNat) H):wpAny (model X.prog X.w) X.A (pyIter (.ref s.heap.objs.size)) (PIE X pins σ tg R) E { s with heap:=s.heap.push { cls:=.type "range",data:=.fields #[.int lo t,.int hi u,.int 2 v] },toks:=tk }:=by
 refine wpAny_pyIter_range (IsRange.new ..) (a3w h1 h2 h3 h4) ?_
 have I1:Inv X pins σ H { s with heap:=s.heap.push { cls:=.type "range",data:=.fields #[.int lo t,.int hi u,.int 2 v] },toks:=tk }:=I.kept fun b o e=>Heap.get?_push_of_some _ e
 refine⟨(s.heap.push { cls:=.type "range",data:=.fields #[.int lo t,.int hi u,.int 2 v] }).objs.size,[(s.heap.push { cls:=.type "range",data:=.fields #[.int lo t,.int hi u,.int 2 v] }).objs.size],_,_,H,rfl,
   I1.kept (t':=tk) fun b o e=>Heap.get?_push_of_some _ e,xn _ lo ((hi - lo+1) / 2).toNat,?_,fun b hb=>?_,q⟩
 . have e1:lo+((0:Nat):Int)*2=lo:=by simp
   have e2:((((hi - lo+1) / 2).toNat:Nat):Int) - ((0:Nat):Int)=Builtin.Range.rangeSize lo hi 2:=by rw[a64];omega
   show IsRangeIter _ _ (lo+((0:Nat):Int)*2) (((((hi - lo+1) / 2).toNat:Nat):Int) - ((0:Nat):Int)) 2
   rw[e1,e2]
   exact Heap.get?_push_size _ rfl
 . obtain rfl:b=(s.heap.push { cls:=.type "range",data:=.fields #[.int lo t,.int hi u,.int 2 v] }).objs.size:=by simpa using hb
   exact I1.fpOk (Nat.le_refl _) (I1.hok.fresh (Nat.le_refl _))
noncomputable def a70 (ta:TA):TI:=fun σ H R=>ta σ H fun vs H1=>∃i j:Int,vs=[.int i,.int j,.int 2]/\(-1000000<=i/\i<1000000 /\ -1000000<=j/\j<1000000)/\R (Itr2 i ((j - i+1) / 2).toNat) H1
theorem a3x {a b c:Expr}{ta:TA}{p pos:Pos}(hg:Gl X "range") (hm:X.mg "range" = none) (ha:PA X [a,b,c] ta) (hs:starEach [a,b,c] X.env=[(false,eval a X.env),(false,eval b X.env),(false,eval c X.env)]:=by rfl) (hs2:starEach [b,c] X.env=[(false,eval b X.env),(false,eval c X.env)]:=by rfl) :
   PI X tg (.Call (.Name "range" p) [a,b,c] [] pos) (a70 ta):=by
 intro pins s σ H R I h
 refine Call_ (i5 I hg hm boot_range (PyProof.Rows.callWith_type1 (thn (ha pos pins s σ H _ I h) fun us s1 ⟨vs,H1,I1,r1,q1⟩=>?_) (by rw[hs,hs2]) (by rw[hs2];rfl)))
 obtain⟨i,j,e,⟨q1,q2,q3,q4⟩,q⟩:=q1
 subst e
 cases r1 with
 | cons r rr =>
   cases rr with
   | cons r' rr =>
     cases rr with
     | cons r'' rr =>
       cases rr
       obtain⟨t,rfl⟩:=r
       obtain⟨t',rfl⟩:=r'
       obtain⟨t'',rfl⟩:=r''
       exact call_range_3 (by decide) (a4g I1 q1 q2 q3 q4 q) (.inl a8p)
theorem a2d {a b c:Expr}{ta:TA}{p pos:Pos}(hg:Gl X "range") (hm:X.mg "range" = none) (ha:QA X [a,b,c] ta) (hs:starEach [a,b,c] X.env=[(false,eval a X.env),(false,eval b X.env),(false,eval c X.env)]:=by rfl) (hs2:starEach [b,c] X.env=[(false,eval b X.env),(false,eval c X.env)]:=by rfl):QI X tg (.Call (.Name "range" p) [a,b,c] [] pos) (a70 ta):=⟨a3x hg hm ha.run hs hs2⟩
theorem zt {lo:Int}{n:Nat}{g:TG}{tb:TS}{D:Ends}{σ:St}{H:Hp}(Pv:Nat->St->Hp->Prop) (h0:Pv 0 σ H)
   (hs:∀i σ H,i<n->Pv i σ H->g (.int (lo+i*2)) σ H fun σ2 H2=>tb { D with nx:=Pv (i+1),ct:=Pv (i+1),bk:=D.nx } σ2 H2) (hd:∀σ H,Pv n σ H->D.nx σ H) :
   ∃W:Nat->Nat->St->Hp->Prop,(∃m,W 0 m σ H)/\∀i m σ H,W i m σ H->
     ((Itr2 lo n).stop i H/\D.nx σ H)\/((Itr2 lo n).go i H/\∃N:St->Hp->Prop,(∀σ' H',N σ' H'->∃m',m'<m/\W (i+1) m' σ' H')/\∀x H',(Itr2 lo n).yld i H x H'->g x σ H' fun σ2 H2=>tb { D with nx:=N,ct:=N,bk:=D.nx } σ2 H2):=by
 refine⟨fun i m σ H=>m=n - i/\i<=n/\Pv i σ H,⟨n,rfl,Nat.zero_le _,h0⟩,?_⟩
 rintro i m σ H ⟨rfl,hi,hp⟩
 by_cases c:i<n
 . refine .inr ⟨c,Pv (i+1),fun σ' H' z=>⟨n - (i+1),by omega,rfl,c,z⟩,fun x H' y=>?_⟩
   obtain⟨rfl,rfl⟩:=y
   exact hs i σ _ c hp
 . obtain rfl:i=n:=by omega
   exact .inl ⟨Nat.le_refl _,hd σ H hp⟩
end
noncomputable def Itk (a:Addr) (od:Obj) (kvs:List (Key×V)):It where
 go:=fun i H=>H a=some (.frz od (.dK kvs))/\i<kvs.length
 yld:=fun i H x H'=>H'=H/\(kvs.map fun kv=>kV kv.1)[i]? = some x
 stop:=fun i H=>H a=some (.frz od (.dK kvs))/\kvs.length<=i
noncomputable def a6p (od:Obj) (kvs:List (Key×V)) (es:Array DictEntry) (ep:Nat):Prop:=od.ExactDict/\od.data=.dict es ep/\Paired (fun (p:Key×V) (e:DictEntry)=>RelV (kV p.1) e.key) kvs es.toList
theorem a1n {P:Program}{w:World}{od:Obj}{es:Array DictEntry}{ep:Nat}:∀{kvs:List (Key×V)}{vs:List (Key×Value)}{l:List DictEntry},KV kvs vs->PySem.Pairs (bw P w) l vs->Paired (fun (p:Key×V) (e:DictEntry)=>RelV (kV p.1) e.key) kvs l
 | _,_,_,.nil,.nil=>.nil
 | _,_,_,.cons h t,.cons h1 h2 t2=>.cons (by rw[h.1];exact xx h1) (a1n (od:=od) (es:=es) (ep:=ep) t t2)
theorem Paired.nthK {α β:Type}{F:α->β->Prop}:∀{l₁:List α}{l₂:List β}{i:Nat}{a:α}{b:β},Paired F l₁ l₂->l₁[i]? = some a->l₂[i]? = some b->F a b
 | _,_,0,_,_,.cons h t,h1,h2=>by cases h1;cases h2;exact h
 | _,_,i+1,_,_,.cons h t,h1,h2=>Paired.nthK (i:=i) t (by simpa using h1) (by simpa using h2)
theorem a8h {P:Program}{w:World}{K:PySem.W.Frag}{tg:Expr}{a J:Addr}{od:Obj}{kvs:List (Key×V)}{es:Array DictEntry}{ep:Nat}(hd:a6p od kvs es ep) :
   Turn P w K tg (Itk a od kvs) [J] J (fun i h=>h.IsKeyIter J a i es.size ep) where
 mem:=by simp
 obj:=fun i h st b hb=>by
   have e:b=J:=by simpa using hb
   subst e
   obtain⟨o,h1,h2,h3⟩:=st
   exact⟨o,h1,fun v z=>by rw[h3] at z;cases z⟩
 keep:=fun i h h' st k=>by
   obtain⟨o,h1,h2⟩:=st
   exact⟨o,k J (by simp) o h1,h2⟩
 item:=by
   intro X hP hw hK hc i pins s σ H E I hf st hg
   subst hP hw hK
   obtain⟨f0,f1,f2,f3,f4,f5⟩:=hf J (by simp)
   obtain⟨g1,g2⟩:=I.hok a _ hg.1
   have hsz:es.size=kvs.length:=by
     have:=hd.2.2.length
     rw[Array.length_toList] at this;exact this.symm
   refine wm st g1 hd.2.1 (I.ok.hd hc) (fun hn h' st' sb=>?_) (fun hn=>absurd hg.2 (by omega))
   have I1:Inv X pins σ H { s with heap:=h',toks:=s.toks }:=I.turned (fun b o hb e=>(sb.2 b hb).trans e) f0 f1 f3 f4 f5
   have hk:RelV (kV (kvs[i]'hg.2).1) es[i].key:=Paired.nthK (F:=fun (p:Key×V) (e:DictEntry)=>RelV (kV p.1) e.key) hd.2.2 (i:=i) (a:=kvs[i]'hg.2) (b:=es[i]) (List.getElem?_eq_getElem hg.2) (by rw[Array.getElem?_toList];exact Array.getElem?_eq_getElem hn)
   refine⟨_,rfl,letGo_keyiter st' ⟨kV (kvs[i]'hg.2).1,H,I1,hk,⟨rfl,by rw[List.getElem?_map,List.getElem?_eq_getElem hg.2];rfl⟩,st',fun b hb=>(hf b hb).1⟩⟩
 done:=by
   intro X hP hw hK hc i pins s σ H E I hf st hg
   subst hP hw hK
   obtain⟨f0,f1,f2,f3,f4,f5⟩:=hf J (by simp)
   obtain⟨g1,g2⟩:=I.hok a _ hg.1
   have hsz:es.size=kvs.length:=by
     have:=hd.2.2.length
     rw[Array.length_toList] at this;exact this.symm
   exact wm st g1 hd.2.1 (I.ok.hd hc) (fun hn=>absurd hg.2 (by omega)) (fun _ h' eb=>⟨rfl,I.turned (t':=s.toks) (fun b o hb e=>eb b o hb e) f0 f1 f3 f4 f5⟩)
 self:=fun _ _ _ _ _ st h=>wpAny_pyIter_keyiter st h
noncomputable def a1i (X:Cx) (tl:TE):TI:=fun σ H R=>tl σ H fun x H1=>∃a kvs,x=.ref a/\H1 a=some (.dK kvs)/\∀od,NF X a->R (Itk a od kvs) (upd H1 a (.frz od (.dK kvs)))
theorem a56 {X:Cx}{tg l:Expr}{tl:TE}(hl:PE X l tl):PI X tg l (a1i X tl):=by
 intro pins s σ H R I h
 refine thn (hl pins s σ H _ I h) fun v s1 ⟨x,H1,I1,r1,a,kvs,ex,e,q⟩=>?_
 subst ex
 cases r1
 obtain⟨z,hd,vs,rel,od,es,ep,h1,hc,h2,h3,h4,h5⟩:=(show ObjOk X.prog X.w H1 s1.heap a (.dK kvs) from I1.hok a _ e)
 have I2:Inv X pins σ (upd H1 a (.frz od (.dK kvs))) s1:=I1.write (x:=a) (e:=a) (h':=s1.heap) (t':=s1.toks) (by rw[e];exact True.intro) (.inl rfl) (fun _ _ _ z=>z) ⟨od,h1⟩ ⟨h1,z,hd,vs,rel,od,es,ep,h1,hc,h2,h3,h4,h5⟩
 have ent:a6p od kvs es ep:=⟨hc,h2,a1n (od:=od) (es:=es) (ep:=ep) rel h4⟩
 refine a58 hd h1 hc h2 ?_
 refine⟨s1.heap.objs.size,[s1.heap.objs.size],_,_,upd H1 a (.frz od (.dK kvs)),rfl,I2.kept (t':=s1.toks) fun b o e=>Heap.get?_push_of_some _ e,a8h ent,⟨_,Heap.get?_push_size _ rfl,rfl,rfl⟩,fun b hb=>?_,q od (I1.nf e fun _ _ z=>nomatch z)⟩
 have e:b=s1.heap.objs.size:=by simpa using hb
 subst e
 exact I2.fpOk (Nat.le_refl _) (I2.hok.fresh (Nat.le_refl _))
theorem ph {X:Cx}{tg l:Expr}{tl:TE}(hl:QE X l tl):QI X tg l (a1i X tl):=⟨a56 hl.run⟩
noncomputable def wu (X:Cx) (t:TS):TS:=fun D σ H=>t { D with nx:=fun σ' H'=>∃a o u,H' a=some (.frz o u)/\NF X a/\D.nx σ' (upd H' a u) } σ H
theorem xz {X:Cx}{st:Stmt}{t:TS}(h:QS X st t):QS X st (wu X t):=⟨fun pins s σ H D I q=>thn (h.run pins s σ H _ I q) fun f s1 p=>by
 cases f with
 | next=>obtain⟨σ',H',I',a,o,u,e,nf,q'⟩:=p;exact⟨σ',_,I'.thaw e nf,q'⟩
 | brk=>exact p
 | cont=>exact p
 | ret u=>exact p⟩
theorem tw {a:Addr}{od:Obj}{kvs:List (Key×V)}{g:TG}{tb:TS}{D:Ends}{σ:St}{H:Hp}(Pv:Nat->St->Hp->Prop) (h0:Pv 0 σ H) (hl:∀i σ H,i<=kvs.length->Pv i σ H->H a=some (.frz od (.dK kvs)))
   (hs:∀i x σ H,(kvs.map fun kv=>kV kv.1)[i]? = some x->Pv i σ H->g x σ H fun σ2 H2=>tb { D with nx:=Pv (i+1),ct:=Pv (i+1),bk:=D.nx } σ2 H2) (hd:∀σ H,Pv kvs.length σ H->D.nx σ H) :
   ∃W:Nat->Nat->St->Hp->Prop,(∃m,W 0 m σ H)/\∀i m σ H,W i m σ H->
     ((Itk a od kvs).stop i H/\D.nx σ H)\/((Itk a od kvs).go i H/\∃N:St->Hp->Prop,(∀σ' H',N σ' H'->∃m',m'<m/\W (i+1) m' σ' H')/\∀x H',(Itk a od kvs).yld i H x H'->g x σ H' fun σ2 H2=>tb { D with nx:=N,ct:=N,bk:=D.nx } σ2 H2):=by
 refine⟨fun i m σ H=>m=kvs.length - i/\i<=kvs.length/\Pv i σ H,⟨kvs.length,by simp,Nat.zero_le _,h0⟩,?_⟩
 rintro i m σ H ⟨rfl,hi,p⟩
 have q:=hl i σ H hi p
 by_cases hlt:i<kvs.length
 . refine .inr ⟨⟨q,hlt⟩,Pv (i+1),fun σ' H' p'=>⟨kvs.length - (i+1),by omega,rfl,hlt,p'⟩,fun x H' y=>?_⟩
   obtain⟨e,y⟩:=y
   subst e
   exact hs i x σ _ y p
 . have e:i=kvs.length:=by omega
   subst e
   exact .inl ⟨⟨q,Nat.le_refl _⟩,hd σ H p⟩
open PySem.Builtin
section
variable {prog:Program}{w:World}{d:Addr}{es:Array DictEntry}{ep:Nat}{od:Obj}
end
section
variable {X:Cx}
end
section
variable {prog:Program}{w:World}{A:Around}{E:Value->Shared->Prop}{s:Shared}{d:Addr}{es:Array DictEntry}{ep:Nat}{od:Obj}
end
noncomputable def xy (K:PySem.W.Frag) (J:It) (H1:Hp) (σ:St) (ix:List Nat) (tc:TT) (te:TE) (Q:VK):Prop:=∀D,H1 D=none->
 ∃W:Nat->Nat->Hp->Prop,(∃m,W 0 m (upd H1 D (.lst [])))/\∀i m H,W i m H->
   (J.stop i H/\Q (.ref D) H)\/(J.go i H/\∀x H',J.yld i H x H'->∃p a b,x=.ref p/\SqT K H' p [a,b]/\tc (some a::some b::bo σ ix) H' fun c H2 =>
     if c=true then te (some a::some b::bo σ ix) H2 fun y H3=>∃ys,H3 D=some (.lst ys)/\ys.length<sizeLine/\∃m',m'<m/\W (i+1) m' (upd H3 D (.lst (ys++[y])))
     else ∃m',m'<m/\W (i+1) m' H2)
noncomputable def a2x (K:PySem.W.Frag) (ix:List Nat) (wi:TI) (tc:TT) (te:TE):TE:=fun σ H Q=>wi σ H fun J H1=>xy K J H1 σ ix tc te Q
section
variable {X:Cx}
end
section
variable {X:Cx}
theorem a4t {pins:List (Addr×Obj)}{σ:St}{H:Hp}{s:Shared}{N:List Str}{x x2:Str}{sc:Scope}{cl:List (Str×Addr)}{fp:List Addr}{ix:List Nat}{h1:Heap}{m:Str->Option Value}{tk:Nat}
   (I:Inv X pins σ H s) (hkind:sc.kind=.function) (hN:N=x::x2::ix.map fun j=>(X.N[j]?).getD "")
   (hsub:∀y c,cl.lookup y=some c->X.env.cells.lookup y=some c) (hhas:∀y,((relabel sc X.env).names.lookup y=some .cell\/(relabel sc X.env).names.lookup y=some .free)->∃c,cl.lookup y=some c)
   (hix:∀j∈ix,∃y,X.N[j]? = some y/\X.env.kindOf y=some .cell/\(relabel sc X.env).names.lookup y=some .cell)
   (hfp:∀b∈fp,FpOk X pins H b) (hlt:∀b∈fp,b<s.heap.objs.size)
   (hns:h1.Ns s.heap.objs.size m) (hk:∀b o,s.heap.get? b=some o->h1.get? b=some o) :
   Inv (blk X N s H sc cl s.heap.objs.size fp) [] (none::none::bo σ ix) H { s with heap:=h1,toks:=tk }:=by
 have fresh:H s.heap.objs.size=none:=I.hok.fresh (Nat.le_refl _)
 refine⟨⟨I.ok.mod,hkind,I.ok.glob,I.ok.blt,Nat.le_refl _,fun y z c h1 h2=>I.ok.inj y z c (hsub y c h1) (hsub z c h2),fun y hy=>hhas y hy,fun y c z _=>absurd (show false=true from z) (by decide),I.ok.hd,I.ok.frames,.inl rfl,
   fun b hb=>⟨Nat.ne_of_lt (hlt b hb),fun y c e=>(hfp b hb).2.2.2.2.1 y c (hsub y c e)⟩,I.bs,Nat.le_trans I.ok.bsz I.sz,fun b o e hb=>?_,fun b hb z=>?_,I.stack,I.stkFree⟩,
   rfl,I.bare,Un.kept hk,⟨m,hns,fun i y v e1 e2 e3=>?_⟩,fun y c e=>?_,fresh,fun y c e=>I.freeC y c (hsub y c e),fun p hp=>absurd (show p∈([]:List (Addr×Obj)) from hp) (by simp),I.hok.kept hk,?_⟩
 . rcases (hfp b hb).2.2.2.1 with z|z
   . exact I.ok.noex b o e z
   . exact absurd (Nat.lt_of_lt_of_le (Heap.lt_size e) (Nat.le_trans I.ok.bsz z)) (Nat.lt_irrefl _)
 . rcases List.mem_cons.mp (I.stkSub b z) with q|q
   . exact (hfp b hb).2.1 q
   . exact (hfp b hb).2.2.1 q
 . cases i with
   | zero =>
     have e2':(some none:Option (Option V))=some (some v):=e2
     cases e2'
   | succ i =>
     cases i with
     | zero =>
       have e2':(some none:Option (Option V))=some (some v):=e2
       cases e2'
     | succ i =>
       have e2':(bo σ ix)[i]? = some (some v):=by simpa using e2
       unfold bo at e2'
       rw[List.getElem?_map] at e2'
       cases q:ix[i]? with
       | none=>rw[q] at e2';cases e2'
       | some j =>
         rw[q] at e2'
         have e3':(σ[j]?).getD none=some v:=by simpa using e2'
         have e4:σ[j]? = some (some v):=by
           cases q2:σ[j]? with
           | none=>rw[q2] at e3';cases e3'
           | some w=>rw[q2] at e3';simpa using e3'
         obtain⟨y',hy,hc,hr⟩:=hix j (List.mem_of_getElem? q)
         have ey:y'=y:=by
           have e1':N[i+1+1]? = some y:=e1
           rw[hN,List.getElem?_cons_succ,List.getElem?_cons_succ,List.getElem?_map,q] at e1'
           have:=Option.some.inj e1'
           simpa [hy] using this
         subst ey
         obtain⟨m0,hn0,hl0⟩:=I.loc
         obtain⟨u,r,l⟩:=hl0 j y' v hy e4 (.inr (.inl hc))
         refine⟨u,r,.inr ⟨.inl hr,?_⟩⟩
         rcases l with⟨k,_⟩|⟨_,c,ec,ic⟩
         . rw[hc] at k;cases k
         . obtain⟨c',ec'⟩:=hhas y' (.inl hr)
           have:=hsub y' c' ec'
           rw[ec] at this;cases this
           obtain⟨o,ho,hd⟩:=ic
           exact⟨c,ec',o,hk c o ho,hd⟩
 . obtain⟨v,o,ho,hd⟩:=I.cell y c (hsub y c e)
   exact⟨v,o,hk c o ho,hd⟩
 . show (none::none::bo σ ix).length=N.length
   rw[hN]
   simp[bo]
theorem a5u {elt iter:Expr}{x x2:Str}{px px2 ptt pos:Pos}{kt:Nat}{ifs:List Expr}{sc:Scope}{cl:List (Str×Addr)}{ix:List Nat}{wi:TI}{tc:TT}{te:TE}(N:List Str)
   (hc:X.calm=true) (hi:PI X (.Tuple [.Name x px,.Name x2 px2] kt ptt) iter wi) (hif:∀s H C ex,PTs (blk X N s H sc cl C ex) ifs tc) (he:∀s H C ex,PE (blk X N s H sc cl C ex) elt te)
   (hkind:sc.kind=.function) (hN:N=x::x2::ix.map fun j=>(X.N[j]?).getD "") (hnd:N.Nodup) (hx:sc.names.lookup x=some .local) (hx2:sc.names.lookup x2=some .local)
   (hcl:closureFor sc X.env=pure cl) (hcell:∀y∈sc.names,y.2≠.cell) (hnames:∀y∈sc.names,y.2=.local->sc.names.lookup y.1=some .local)
   (hsub:∀y c,cl.lookup y=some c->X.env.cells.lookup y=some c) (hhas:∀y,((relabel sc X.env).names.lookup y=some .cell\/(relabel sc X.env).names.lookup y=some .free)->∃c,cl.lookup y=some c)
   (hix:∀j∈ix,∃y,X.N[j]? = some y/\X.env.kindOf y=some .cell/\(relabel sc X.env).names.lookup y=some .cell)
   (hs:∀x,foldedSetIterable iter X.env x=pure x:=by intro _;rfl) :
   PE X (.ListComp elt [⟨.Tuple [.Name x px,.Name x2 px2] kt ptt,iter,ifs,0⟩] sc pos) (a2x X.K ix wi tc te):=by
 intro pins s σ H Q I h
 rw[eval_ListComp]
 refine wpAny_comprehension_free (use:=none) rfl hs hcl hkind hnames (thn (hi pins s σ H _ I h) fun v s1 h1=>thn h1 fun itv s2 h2=>?_)
 obtain⟨it,fp,tn,J,H2,e,I2,T,st2,f2,q2⟩:=h2
 subst e
 have fr2:H2 s2.heap.objs.size=none:=I2.hok.fresh (Nat.le_refl _)
 obtain⟨W,⟨m0,w0⟩,turn⟩:=q2 s2.heap.objs.size fr2
 refine wpAny_newObj_type ?_
 have I3:Inv X pins σ (upd H2 s2.heap.objs.size (.lst [])) { s2 with heap:=s2.heap.push { cls:=.type "list",dict:=none,data:=.seq ([]:List Value).toArray } }:=by
   exact I2.lnew (its:=[]) (ys:=[]) (t':=s2.toks) .nil (Nat.zero_le _)
 have lt2:∀b∈fp,b<s2.heap.objs.size:=fun b hb=>by
   obtain⟨o,ho,_⟩:=T.obj _ _ st2 b hb
   exact Heap.lt_size ho
 have f3:∀b∈fp,FpOk X pins (upd H2 s2.heap.objs.size (.lst [])) b:=fun b hb=>⟨by rw[ac (Nat.ne_of_lt (lt2 b hb))];exact (f2 b hb).1,(f2 b hb).2⟩
 generalize hs3:({ s2 with heap:=s2.heap.push { cls:=.type "list",dict:=none,data:=.seq ([]:List Value).toArray } }:Shared)=s3 at I3
 have hsz3:s2.heap.objs.size<=s3.heap.objs.size:=by rw[<- hs3];show _<=(s2.heap.push _).objs.size;rw[Heap.size_push];exact Nat.le_succ _
 have tn3:tn 0 s3.heap:=T.keep _ _ _ st2 fun b _ o e=>by rw[<- hs3];exact Heap.get?_push_of_some _ e
 have lt3:∀b∈fp,b<s3.heap.objs.size:=fun b hb=>Nat.lt_of_lt_of_le (lt2 b hb) hsz3
 refine wpAny_newFunctionEnv hcell (by intro y hy;simp at hy) (fun h4 hns4 hsb4=>?_) hkind
 have old:∀b o,s3.heap.get? b=some o->h4.get? b=some o:=fun b o e=>hsb4.extBut b o (Nat.ne_of_lt (Heap.lt_size e)) (Heap.get?_push_of_some _ e)
 have I4:=a4t (m:=_) (tk:=s3.toks+([]:List (Str×Value)).length) (N:=N) I3 hkind hN hsub hhas hix f3 lt3 hns4 old
 have tn4:tn 0 h4:=T.keep _ _ _ tn3 fun b _ o e=>old b o e
 have fpB:∀{H':Hp},(∀b∈fp,H' b=none)->∀b∈fp,FpOk (blk X N s3 (upd H2 s2.heap.objs.size (.lst [])) sc cl s3.heap.objs.size fp) [] H' b:=fun {H'} hn b hb =>
   ⟨hn b hb,Nat.ne_of_lt (lt3 b hb),I4.ok.exfs b hb,.inl hb,fun y c e=>(I4.ok.exf b hb).2 y c e,fun p hp=>absurd (show p∈([]:List (Addr×Obj)) from hp) (by simp)⟩
 have loop:codeAny (model X.prog X.w) X.A (.compLoop (.ListComp elt [⟨.Tuple [.Name x px,.Name x2 px2] kt ptt,iter,ifs,0⟩] sc pos) 0 (.ref it) (.ref s2.heap.objs.size) (compEnvC sc cl s3.heap.objs.size X.env))
     (compPost (model X.prog X.w) X.A X.xe none (EP X pins σ Q) (.ref s2.heap.objs.size) s3.heap.objs.size) { s3 with heap:=h4,toks:=s3.toks+([]:List (Str×Value)).length }:=by
   refine ng (fun n s'=>∃i v0 v1 H',Inv (blk X N s3 (upd H2 s2.heap.objs.size (.lst [])) sc cl s3.heap.objs.size fp) [] (v0::v1::bo σ ix) H' s'/\tn i s'.heap/\(∀b∈fp,H' b=none)/\W i n H') ?_ m0
     ⟨0,none,none,_,I4,tn4,fun b hb=>(f3 b hb).1,w0⟩
   rintro n s5 ⟨i,v0,v1,H5,I5,st5,fr5,w5⟩
   rcases turn i n H5 w5 with⟨stop,qn⟩|⟨go,step⟩
   . refine thn (T.done (blk X N s3 (upd H2 s2.heap.objs.size (.lst [])) sc cl s3.heap.objs.size fp) rfl rfl rfl hc i [] s5 _ H5 _ I5 (fpB fr5) st5 stop) fun r s6 ⟨hr,I6⟩=>?_
     subst hr
     obtain⟨mm,hm,_⟩:=I6.loc
     refine⟨mm,hm,fun h7 sb7=>?_⟩
     have I7:Inv X pins σ H5 { s6 with heap:=h7 }:=by
       have hC:H5 s3.heap.objs.size=none:=I6.free
       have hc3:s3.heap.get? s3.heap.objs.size=none:=Heap.get?_none_of_le (Nat.le_refl _)
       have up:∀b o,b≠s3.heap.objs.size->s6.heap.get? b=some o->h7.get? b=some o:=fun b o hb e=>sb7.extBut b o hb e
       have neC:∀b o,s3.heap.get? b=some o->b≠s3.heap.objs.size:=fun b o e=>Nat.ne_of_lt (Heap.lt_size e)
       have u:=I6.base
       refine I3.call' (s':={ s6 with heap:=h7 }) (ch:=fp) I6.os ⟨fun b o e n hb hx=>?_,fun b o e n hb hx=>?_,fun b o e n hx=>u.free b o e n hx,fun b o e hx=>?_,u.tups,u.frzs,u.tbls⟩ (fun b o e=>?_) I6.bare fun b hb=>⟨(f3 b hb).2.2.2.1,(f3 b hb).2.1,(f3 b hb).2.2.2.2.1,(f3 b hb).2.2.2.2.2⟩
       . exact up b o (neC b o e) (u.keep b o e n hb hx)
       . obtain⟨sl,e1⟩:=u.slot b o e n hb hx
         exact⟨sl,up b _ (neC b o e) e1⟩
       . obtain⟨o',e1⟩:=u.there b o e hx
         exact⟨o',up b _ (neC b o e) e1⟩
       . refine (I6.hok b o e).stay (fun c v hc' q=>up c v ?_ q) (fun _ q=>q) fun _ _ q=>q
         rintro rfl
         rcases hc' with z|z
         . rw[<- z,hC] at e;cases e
         . rw[hC] at z;cases z
     exact⟨.ref s2.heap.objs.size,H5,I7,rfl,qn⟩
   . refine thn (T.item (blk X N s3 (upd H2 s2.heap.objs.size (.lst [])) sc cl s3.heap.objs.size fp) rfl rfl rfl hc i [] s5 _ H5 _ I5 (fpB fr5) st5 go) fun r s6 ⟨u,hr,h6⟩=>?_
     subst hr
     refine thn h6 fun _ s7 ⟨y,H7,I7,r7,y7,st7,fr7⟩=>?_
     have I7':=I7.pinned (fpB fr7) (T.obj _ _ st7)
     obtain⟨pp,ya,yb,rfl,hpp,step7⟩:=step y H7 y7
     have hPG:PG (blk X N s3 (upd H2 s2.heap.objs.size (.lst [])) sc cl s3.heap.objs.size fp) (.Tuple [.Name x px,.Name x2 px2] kt ptt) (gTup X.K 2 (qp (bi 0) (qp (bi 1) gNil))) :=
       a2w hc (l8 (mh (i:=0) hnd (by show N[0]? = some x;rw[hN];rfl) (.inl (lookup_relabel_local hx)) (.inr (lookup_relabel_local hx))) (l8 (mh (i:=1) hnd (by show N[1]? = some x2;rw[hN];rfl) (.inl (lookup_relabel_local hx2)) (.inr (lookup_relabel_local hx2))) zq))
     refine thn (hPG _ s7 _ H7 (.ref pp) _ (fun σ' H'=>σ'=some ya::some yb::bo σ ix/\H'=H7) I7' r7 ⟨pp,_,rfl,hpp,rfl,_,_,rfl,_,_,rfl,rfl,rfl,rfl⟩) fun _ s8 ⟨σ8,H8,I8,eσ,eH⟩=>?_
     subst eσ eH
     refine thn (hif _ _ _ _ _ s8 _ H8 _ I8 step7) fun ok s9 ⟨H9,I9,q9⟩=>?_
     have again:∀{H':Hp} {s':Shared} {m':Nat},Inv (blk X N s3 (upd H2 s2.heap.objs.size (.lst [])) sc cl s3.heap.objs.size fp) ([]++il fp s7.heap) (some ya::some yb::bo σ ix) H' s'->m'<n->W (i+1) m' H'->
         ∃m,m<n/\∃i v0 v1 H',Inv (blk X N s3 (upd H2 s2.heap.objs.size (.lst [])) sc cl s3.heap.objs.size fp) [] (v0::v1::bo σ ix) H' s'/\tn i s'.heap/\(∀b∈fp,H' b=none)/\W i m H':=fun {H' s' m'} Ia hm wa=>by
       refine⟨m',hm,i+1,some ya,some yb,H',Ia.unpinned,T.keep _ _ _ st7 fun b hb o e=>(Ia.pin (b,o) (List.mem_append_right _ (List.mem_append_right _ (fw hb e)))).1,fun b hb=>?_,wa⟩
       obtain⟨o,e,d⟩:=T.obj _ _ st7 b hb
       exact (Ia.pin (b,o) (List.mem_append_right _ (List.mem_append_right _ (fw hb e)))).2.1
     cases ok with
     | false =>
       rw[if_neg Bool.false_ne_true] at q9 |-
       obtain⟨m',hm,wa⟩:=q9
       exact again I9 hm wa
     | true =>
       rw[if_pos rfl] at q9 |-
       refine thn (he _ _ _ _ _ s9 _ H9 _ I9 q9) fun v10 s10 ⟨z,H10,I10,r10,ys,hD,hl,m',hm,wa⟩=>?_
       exact thn (i4 _ s10 _ H10 (.ref s2.heap.objs.size) [z] (.ref s2.heap.objs.size) [v10] (fun _ H'=>H'=upd H10 s2.heap.objs.size (.lst (ys++[z]))) I10 rfl (.cons r10 .nil) ⟨_,ys,z,rfl,rfl,hD,hl,rfl⟩)
         fun _ s11 ⟨_,H11,I11,_,e11⟩=>again I11 hm (by rw[e11];exact wa)
 subst hs3
 exact codeAny_compStart_list loop (T.self _ 0 _ _ _ tn4 loop)
theorem a3p {X:Cx}{elt iter:Expr}{x x2:Str}{px px2 ptt pos:Pos}{kt:Nat}{ifs:List Expr}{sc:Scope}{cl:List (Str×Addr)}{wi:TI}{tc:TT}{te:TE}{K:PySem.W.Frag}(hK:X.K=K) (N:List Str) (ix:List Nat) (hi:QI X (.Tuple [.Name x px,.Name x2 px2] kt ptt) iter wi)
   (hif:∀s H C ex,QTs (blk X N s H sc cl C ex) ifs tc) (he:∀s H C ex,QE (blk X N s H sc cl C ex) elt te)
   (hcl:closureFor sc X.env=pure cl:=by rfl) (hcs:ClIn X.env.cells cl:=by repeat' first|with_unfolding_all rfl|constructor) (hN:N=x::x2::ix.map (fun j=>(X.N[j]?).getD ""):=by rfl) (hnd:N.Nodup:=by decide +kernel)
   (hkm:cl.map (·.1)=N.tail.tail:=by rfl) (hkB:((relabel sc X.env).names.all fun y=>(match y.2 with|.cell=>false|.free=>false|_=>true) || decide (y.1∈N.tail.tail))=true:=by with_unfolding_all rfl)
   (hix:IxIn X sc ix:=by repeat' first|with_unfolding_all rfl|constructor)
   (hx:sc.names.lookup x=some .local:=by decide +kernel) (hx2:sc.names.lookup x2=some .local:=by decide +kernel) (hcell:∀z∈sc.names,z.2≠.cell:=by decide +kernel)
   (hnames:∀z∈sc.names,z.2=.local->sc.names.lookup z.1=some .local:=by decide +kernel)
   (hc:X.calm=true:=by rfl) (hkind:sc.kind=.function:=by rfl) (hs:∀x,foldedSetIterable iter X.env x=pure x:=by intro _;rfl) :
   QE X (.ListComp elt [⟨.Tuple [.Name x px,.Name x2 px2] kt ptt,iter,ifs,0⟩] sc pos) (a2x K ix wi tc te):=by
 subst hK
 exact⟨a5u N hc hi.run (fun s H C ex=>(hif s H C ex).run) (fun s H C ex=>(he s H C ex).run) hkind hN hnd hx hx2 hcl hcell hnames (wy hcs.all) (wq hkm hkB) hix.all hs⟩
end
end L2
namespace Ka
open PySem PyProof.Rows
theorem a8t:typeLookup (.type "list") "keys" = pure none:=by rw[typeLookup_type,builtinLookup_eq_fast];kernel_rfl
theorem aat:typeLookup (.type "list") "__getattr__" = pure none:=by rw[typeLookup_type,builtinLookup_eq_fast];kernel_rfl
theorem yj:isSubtype (.type "AttributeError") (.type "AttributeError")=pure true:=by rw[isSubtype_type];kernel_rfl
section
variable {prog:Program}{w:World}{A:Around}{E:Value->Shared->Prop}{h:Heap}{g:Array GenState}{d:Drawn}{t:Nat}{os:OsState}{a:Addr}{o:Obj}
set_option maxHeartbeats 16000000 in
theorem aar {tk:Tok}{Q:Fin->Shared->Prop}(hh:A.handled=none) {xs:Array Value}{n:Nat}{sl:Array (Option Value)}(hx:h.get? a=some { cls:=.type "list",dict:=none,data:=.seq xs n,slots:=sl })
   (hq:∀h' e t',(∀b u,h.get? b=some u->h'.get? b=some u)->(∃oe,h'.get? e=some oe/\oe.cls=.type "AttributeError")->h.objs.size<=h'.objs.size->E (.ref e) ⟨h',g,d,t',os⟩) :
   wpAny (model prog w) A (Builtin.«object.__getattribute__» ⟨[.ref a,.str "keys" tk],[]⟩) Q E ⟨h,g,d,t,os⟩:=by
 have hT:(⟨h,g,d,t,os⟩:Shared).TypeIs (.ref a) "list" := ⟨_,hx,rfl⟩
 have f4:=a8t
 repeat (any_goals (first|assumption|wp_step))
 have hm:(Str.ofString (toString "'" ++ toString ((Manifest.find? "list").elim "list" fun x=>x.tpName)++toString "' object has no attribute '")++Str.ofString "keys" ++ Str.ofString "'").length<=sizeLine:=by decide +kernel
 generalize (Str.ofString (toString "'" ++ toString ((Manifest.find? "list").elim "list" fun x=>x.tpName)++toString "' object has no attribute '")++Str.ofString "keys" ++ Str.ofString "'")=msg at hm |-
 unfold raiseAttrError
 repeat (any_goals (first|assumption|wp_step))
 have f5:isSubtype (.type "AttributeError") (.type "AttributeError")=pure true:=yj
 dsimp only
 repeat (any_goals (first|assumption|wp_step))
 generalize hO:({ cls:=Value.type "AttributeError",data:=_ }:Obj)=oe
 generalize hT2:({ cls:=Value.type "tuple",data:=Data.seq #[Value.str msg t] }:Obj)=ot
 have hoc:oe.cls=.type "AttributeError" := by rw[<- hO]
 have hof:∃vs,oe.data=.fields vs:=⟨_,by rw[<- hO]⟩
 obtain⟨vs,hvs⟩:=hof
 have e1:((h.push ot).push oe).get? (h.push ot).objs.size=some oe:=Heap.get?_push_size _ (by rw[<- hO];rfl)
 refine wpAny_raiseNew_none hh (hq _ _ _ (fun b u hb=>?_) ⟨_,Heap.get?_update_self _ e1 (Obj.isFreed_of_fields (Obj.data_mapFields hvs _)),(Obj.cls_mapFields ..).trans hoc⟩ ?_)
 . have hlt:=Heap.lt_size (Heap.get?_push_of_some ot hb)
   rw[Heap.get?_update_ne _ _ _ _ (Nat.ne_of_lt hlt)]
   exact Heap.get?_push_of_some _ (Heap.get?_push_of_some _ hb)
 . rw[Heap.size_update,size_push',size_push'];omega
set_option maxHeartbeats 16000000 in
theorem attr {Q:Option Value->Shared->Prop}(hh:A.handled=none) {xs:Array Value}{n:Nat}{sl:Array (Option Value)}(hx:h.get? a=some { cls:=.type "list",dict:=none,data:=.seq xs n,slots:=sl })
   (hq:∀h' t',(∀b u,h.get? b=some u->h'.get? b=some u)->h.objs.size<=h'.objs.size->Q none ⟨h',g,d,t',os⟩):wpAny (model prog w) A (getAttr? (.ref a) "keys") Q E ⟨h,g,d,t,os⟩:=by
 have hT:(⟨h,g,d,t,os⟩:Shared).TypeIs (.ref a) "list" := ⟨_,hx,rfl⟩
 have hT1:(⟨h,g,d,t+1,os⟩:Shared).TypeIs (.ref a) "list" := ⟨_,hx,rfl⟩
 have f2:=F.slot_list_getattribute.lookup
 have f3:=F.slot_list_getattribute.bind (.ref a)
 have f5:isSubtype (.type "AttributeError") (.type "AttributeError")=pure true:=yj
 unfold getAttr? getAttrBy?
 repeat (any_goals (first|assumption|wp_step))
 refine codeAny_call_builtin F.slot_list_getattribute.plain F.entry_list_ga (F.slot_list_getattribute.check _ _ _ _ _ _ _ _ hT1 (F.args_list_getattribute_2 _ _) (aar ?_ hx fun h' e t' k he hs=>?_))
 . exact hh
 obtain⟨oe,he1,he2⟩:=he
 have hTe:(⟨h',g,d,t',os⟩:Shared).TypeIs (.ref e) "AttributeError" := ⟨_,he1,he2⟩
 have f6:=aat
 have hfin:=hq h' t' k hs
 show wpAny (model prog w) A (getattributeRaised (Value.ref a) (Value.str (Str.ofString "keys") t) (Value.type "list") (.ref e) none false false) _ _ _
 repeat (any_goals (first|assumption|wp_step))
end
end Ka
namespace Ka
open PySem
theorem plain_loop:plainId "dict.update.loop" = true:=by decide +kernel
theorem entry_loop:entryFor table "dict.update.loop" = some Builtin.«dict.update.loop» := entryFor_of_fast (by kernel_rfl)
end Ka
namespace L2
open PySem PySem.Spec PyProof.Rows
noncomputable def kk (kv:Str×V):Key×V:=(Sum.inr kv.1,kv.2)
section
variable {X:Cx}{pins:List (Addr×Obj)}{σ:St}{H:Hp}{a p it:Addr}{ts:List Addr}{kvs:List (Str×V)}
noncomputable def Hd (H:Hp) (p:Addr) (kvs:List (Str×V)) (i:Nat):Hp:=upd H p (.dK ((kvs.take i).map kk))
theorem zi:∀{kvs:List (Str×V)}{x:Str},¬ x∈kvs.map (·.1)->valV (kvs.map kk) (Sum.inr x)=none
 | [],_,_=>rfl
 | kv::kvs,x,h=>by
   rw[List.map_cons,jy (fun e=>h (by rw[List.map_cons];exact List.mem_cons.mpr (.inl (Sum.inr.inj e).symm)))]
   exact zi fun z=>h (List.mem_cons_of_mem _ z)
theorem a95 (hn:(kvs.map (·.1)).Nodup) {i:Nat}{kv:Str×V}(hi:kvs[i]? = some kv):putK ((kvs.take i).map kk) (Sum.inr kv.1) kv.2=(kvs.take (i+1)).map kk:=by
 rw[List.take_add_one,hi,List.map_append,a5d]
 . rfl
 . refine zi fun z=>?_
   obtain⟨hlt,rfl⟩:=List.getElem?_eq_some_iff.mp hi
   rw[List.map_take] at z
   obtain⟨j,hj⟩:=List.getElem?_of_mem z
   have hj':=(List.getElem?_eq_some_iff.mp hj).1
   rw[List.length_take,List.length_map] at hj'
   rw[List.getElem?_take_of_lt (by omega)] at hj
   have e:(kvs.map (·.1))[i]? = some kvs[i].1:=by rw[List.getElem?_map,hi];rfl
   have:=(List.getElem?_inj (by rw[List.length_map];omega) hn).mp (hj.trans e.symm)
   omega
theorem ny {K:PySem.W.Frag}{H H':Hp}{l:Addr}{xs:List V}(e:Same H H') (h:SqL K H l xs):SqL K H' l xs:=by
 rcases h with (h|⟨o,h⟩)|h
 . exact .inl (.inl (e _ _ h))
 . exact .inl (.inr ⟨o,e _ _ h⟩)
 . exact .inr h
theorem a6z {α β:Type}{F:α->β->Prop}:∀{l₁:List α}{l₂:List β}{i:Nat}{a:α}{b:β},Paired F l₁ l₂->l₁[i]? = some a->l₂[i]? = some b->F a b
 | _,_,0,_,_,.cons h r,e1,e2=>by cases e1;cases e2;exact h
 | _,_,i+1,_,_,.cons h r,e1,e2=>a6z (i:=i) r (by simpa using e1) (by simpa using e2)
theorem a49 {A:Around}{R:Result->Shared->Prop}(hh:A.handled=none) (hp:H p=none) (hl:SqL X.K H a (ts.map V.ref)) (hts:Paired (fun t (kv:Str×V)=>SqT X.K H t [.str kv.1,kv.2]) ts kvs) (hn:(kvs.map (·.1)).Nodup) (hz:ts.length<=1000) (hip:it≠p) :
   ∀(k i:Nat) (s:Shared),kvs.length - i=k->i<=kvs.length->Inv X pins σ (Hd H p kvs i) s->s.heap.IsListIter it a i->(∀b∈[it],FpOk X pins (Hd H p kvs i) b)->
     (∀s',Inv X pins σ (Hd H p kvs kvs.length) s'->R (.ok (.ret .none)) s')->codeAny (model X.prog X.w) A (.builtin "dict.update.loop" ⟨[.ref p,.ref it,.int i 0,.none],[]⟩) R s:=by
 have hSame:∀i,Same H (Hd H p kvs i):=fun i=>ad hp _
 have hlen:=Paired.length hts
 intro k
 induction k with
 | zero =>
   intro i s hk hi I hit hf q
   have e:i=kvs.length:=by omega
   obtain⟨its,rv,pl,_⟩:=I.list (ny (hSame i) hl)
   have hil:=rv.length
   rw[List.length_map] at hil
   refine codeAny_builtin Ka.entry_loop ?_
   rw[Around.under_plainId Ka.plain_loop _]
   show wpAny _ A.in1 (pyNext (.ref it) >>= _) _ _ s
   refine wpAny_bind (wpAny_pyNext_list_end hh hit pl.isList (by rw[List.getElem?_toArray,List.getElem?_eq_none (by omega)]) fun h' hk'=>?_)
   have I':Inv X pins σ (Hd H p kvs i) { s with heap:=h' }:=I.turnedL (ch:=[it]) (t':=s.toks) (fun b o hb e=>hk' b o (by simpa using hb) e) hf
   refine wpAny_bind (wpAny_pure (wpAny_pure (q _ ?_)))
   rw[<- e];exact I'
 | succ k ih =>
   intro i s hk hi I hit hf q
   have hlt:i<kvs.length:=by omega
   have hkv:kvs[i]? = some kvs[i]:=List.getElem?_eq_getElem hlt
   have ht:ts[i]? = some (ts[i]'(by omega)):=List.getElem?_eq_getElem _
   generalize ts[i]'(by omega)=t at ht
   generalize hg:kvs[i]=kv at hkv
   have hsq:=a6z hts ht hkv
   obtain⟨its,rv,pl,_⟩:=I.list (ny (hSame i) hl)
   have hx:its[i]? = some (.ref t):=by
     obtain⟨u,hu,ru⟩:=rv.get (x:=.ref t) (i:=i) (by rw[List.getElem?_map,ht];rfl)
     cases ru;exact hu
   refine codeAny_builtin Ka.entry_loop ?_
   rw[Around.under_plainId Ka.plain_loop _]
   show wpAny _ A.in1 (pyNext (.ref it) >>= _) _ _ s
   refine wpAny_bind (wpAny_pyNext_list_item hit pl.isList (by rw[List.getElem?_toArray];exact hx) fun h' hit' hs'=>?_)
   have I':Inv X pins σ (Hd H p kvs i) { s with heap:=h' }:=I.turnedL (ch:=[it]) (t':=s.toks) (fun b o hb e=>(hs'.2 b (by simpa using hb)).trans e) hf
   obtain⟨jts,rj,tp,_⟩:=I'.tuple ((hSame i).seqT hsq)
   obtain⟨u1,u2,rfl,r1,r2⟩:∃u1 u2,jts=[u1,u2]/\RelV (.str kv.1) u1/\RelV kv.2 u2:=by
     cases rj with
     | cons a1 b1=>cases b1 with
       | cons a2 b2=>cases b2;exact⟨_,_,rfl,a1,a2⟩
   obtain⟨⟨c3,d3,dt3,sl3⟩,ho3,hc3,n3,hd3⟩:=id tp
   dsimp only at hc3 hd3
   subst hc3 hd3
   dsimp only
   refine wpAny_bind (wpAny_holding ?_)
   refine wpAny_bind (wpAny_tryCatch ?_)
   unfold Builtin.Dict.pairItems
   refine wpAny_bind (wpAny_typeOf (T := "tuple") ⟨_,ho3,rfl⟩ ?_)
   rw[if_pos (by decide)]
   refine wpAny_bind (wpAny_seqItems ho3 rfl (wpAny_pure ?_))
   refine wpAny_holding ?_
   obtain⟨z,hd,vs,rel,dd⟩:=ut I'.hok (show (Hd H p kvs i) p=some (.dK ((kvs.take i).map kk)) from a0)
   have hvz:vs.length<=sizeLine:=by rw[<- rel.length];exact z
   refine wpAny_dictSet_pairs (s:={ s with heap:=h' }) (hsz:=hvz) (kj (k:=Sum.inr kv.1) r1) dd fun h2 dd2 hs2=>?_
   have hmu:Mut ((Hd H p kvs i) p):=by rw[show (Hd H p kvs i) p=some (.dK ((kvs.take i).map kk)) from a0];exact True.intro
   have he:∃q,h2.get? p=some q:=let ⟨q,_,_,hq,_⟩:=dd2;⟨q,hq⟩
   have hpl:(putK ((kvs.take i).map kk) (Sum.inr kv.1) kv.2).length<=sizeLine:=by
     have:=j5 ((kvs.take i).map kk) (Sum.inr kv.1) kv.2
     rw[List.length_map,List.length_take] at this
     exact Nat.le_of_lt (dw (by omega))
   have I2:Inv X pins σ (Hd H p kvs (i+1)) { s with heap:=h2,toks:=s.toks+1 }:=by
     have:=mv (t':=s.toks+1) (ob:=.dK (putK ((kvs.take i).map kk) (Sum.inr kv.1) kv.2)) I' hmu hs2 he (qx hpl hd (rel.put (Sum.inr kv.1) r2) dd2)
     rw[a95 hn hkv] at this
     have e:upd (Hd H p kvs i) p (.dK ((kvs.take (i+1)).map kk))=Hd H p kvs (i+1):=by
       funext b;unfold Hd
       by_cases c:b=p
       . rw[c,a0,a0]
       . rw[ac c,ac c,ac c]
     rw[e] at this;exact this
   refine wpAny_pure ⟨plainId_quiet Ka.plain_loop _,ih (i+1) _ (by omega) hlt I2 ?_ (fun b hb=>?_) q⟩
   . obtain⟨o,g1,g2⟩:=hit'
     exact⟨o,(hs2.2 it hip).trans g1,g2⟩
   . have hb':b=it:=by simpa using hb
     subst hb'
     have f0:=hf b hb
     refine⟨?_,f0.2⟩
     have:=f0.1
     unfold Hd at this |-
     rw[ac hip] at this |-
     exact this
noncomputable def a9u (K:PySem.W.Frag):List V->Hp->VK->Prop:=fun xs H Q=>∃(a:Addr) (ts:List Addr) (kvs:List (Str×V)),xs=[V.ref a]/\SqL K H a (ts.map V.ref)/\Paired (fun t (kv:Str×V)=>SqT K H t [.str kv.1,kv.2]) ts kvs/\(kvs.map (·.1)).Nodup/\ts.length<=1000/\∀p,H p=none->Q (.ref p) (upd H p (.dK (kvs.map kk)))
theorem qy {K:PySem.W.Frag}(hK:X.K=K) (hc:X.calm=true):cf X (.type "dict") (a9u K):=by
 subst hK
 intro pins s σ H xs us Q I r h
 obtain⟨a,ts,kvs,rfl,hl,hts,hn,hz,q⟩:=h
 obtain⟨u,rfl,ru⟩:=ko r
 cases ru
 have hlen:=Paired.length hts
 refine callType_codes (Q₁:=fun obj s₁=>obj=.ref s.heap.objs.size/\s₁={ s with heap:=s.heap.push { cls:=.type "dict",data:=.dict #[] } }) F.kt_called_dict (F.kt_typeCall_dict_1 _) F.entry_dict_init (kt_code_dict_new _ ⟨rfl,rfl⟩) ?_
 rintro obj s₁ ⟨rfl,rfl⟩
 have fr:H s.heap.objs.size=none:=I.hok.fresh (Nat.le_refl _)
 have I1:Inv X pins σ (upd H s.heap.objs.size (.dK [])) { s with heap:=s.heap.push { cls:=.type "dict",data:=.dict #[] } }:=I.laid (t':=s.toks) (fun b o e=>Heap.get?_push_of_some _ e) (Nat.le_refl _) (wc _ I.big)
 have hnew:(s.heap.push { cls:=.type "dict",data:=.dict #[] }).get? s.heap.objs.size=some { cls:=.type "dict",data:=.dict #[] }:=Heap.get?_push_size _ rfl
 refine⟨⟨_,hnew,rfl⟩,F.args_dict_init_2 _ _,?_⟩
 unfold Builtin.«dict.__init__»
 refine wpAny_bind ?_
 unfold Builtin.Dict.selfAndRest
 refine wpAny_bind (wpAny_notOrdered_dict ⟨_,hnew,rfl⟩ ?_)
 show wpAny _ _ (pure (s.heap.objs.size,[Value.ref a])) _ _ _
 refine wpAny_pure ?_
 show wpAny _ _ (Builtin.Dict.updateFrom "dict.__init__" s.heap.objs.size (.ref a) [] .none) _ _ _
 obtain⟨its,rv,⟨⟨oc,od,odt,osl⟩,n,e1,e2,e3,e4⟩,_⟩:=I1.list (ny (ad fr _) hl)
 dsimp only at e2 e3 e4
 subst e2 e3 e4
 unfold Builtin.Dict.updateFrom
 refine wpAny_bind (wpAny_typeOf (T := "list") ⟨_,e1,rfl⟩ ?_)
 rw[if_pos (by decide)]
 refine wpAny_bind (Ka.attr (A:=X.A.in1.in1) (show X.A.in1.in1.handled=none from I1.ok.hd hc) e1 fun h2 t2 k2 z2=>?_)
 rw[if_pos (show (none:Option Value).isNone=true from rfl)]
 refine wpAny_bind (wpAny_rule ?_)
 have e1':=k2 _ _ e1
 have I2:Inv X pins σ (upd H s.heap.objs.size (.dK [])) { s with heap:=h2,toks:=t2 }:=I1.kept (t':=t2) fun b o e=>k2 b o e
 refine wpAny_bind (wpAny_pyIter_list (s:={ s with heap:=h2,toks:=t2 }) (items:=its.toArray) ⟨_,e1',rfl,_,rfl⟩ ?_)
 have hge:s.heap.objs.size<h2.objs.size:=Heap.lt_size (k2 _ _ hnew)
 have I3:Inv X pins σ (upd H s.heap.objs.size (.dK [])) { s with heap:=h2.push { cls:=.type "list_iterator",data:=.fields #[.ref a,.int 0 0] },toks:=t2 }:=I2.kept (t':=t2) fun b o e=>Heap.get?_push_of_some _ e
 have hit:(h2.push { cls:=.type "list_iterator",data:=.fields #[.ref a,.int 0 0] }).IsListIter h2.objs.size a 0:=⟨_,Heap.get?_push_size _ rfl,rfl,rfl⟩
 refine wpAny_pure ⟨plainId_quiet Ka.plain_loop _,a49 (kvs:=kvs) (show X.A.in1.handled=none from I1.ok.hd hc) fr hl hts hn hz (Nat.ne_of_gt hge) kvs.length 0 _ rfl (Nat.zero_le _) I3 hit (fun b hb=>?_) fun s' I'=>?_⟩
 . have hb':b=h2.objs.size:=by simpa using hb
   subst hb'
   exact I2.fpOk (Nat.le_refl _) (by show (upd H s.heap.objs.size (.dK [])) h2.objs.size=none;rw[ac (Nat.ne_of_gt hge)];exact I2.hok.fresh (Nat.le_refl _) |> fun z=>by rw[ac (Nat.ne_of_gt hge)] at z;exact z)
 . refine⟨rfl,.ref s.heap.objs.size,_,I',rfl,?_⟩
   have:=q s.heap.objs.size fr
   unfold Hd
   rw[List.take_length]
   exact this
end
end L2
namespace TS
open PySem PySem.W PyProof.Rows
section
variable {α β:Type}{N:Nat}{lt:Nat->Nat->Bool}{p:Array Nat}
structure Ord (N:Nat) (lt:Nat->Nat->Bool):Prop where
 tr:∀i j k,lt i j=true->lt j k=true->lt i k=true
 tot:∀i j,i<N->j<N->i≠j->lt i j=false->lt j i=true
abbrev gt (p:Array Nat) (i:Nat):Nat:=p.getD i 0
end
section
open L2 HT
variable {prog:Program}{w:World}{A:Around}{E:Value->Shared->Prop}{s:Shared}
end
end TS
namespace L2
open PySem PySem.Spec PyProof.Rows TS
section
variable {X:Cx}
end
theorem qm {J:It}{H1:Hp}{σ:St}{ix:List Nat}{tc:TT}{te:TE}{Q:VK}{I0:Hp->Prop}(ws:List Str) (p:Str->Bool) (hJ:JSeq J I0 (ws.map V.str)) (h0:I0 H1) (hz:ws.length<=1000)
   (hc:∀n∈ws,∀H2,Same H1 H2->∀Q':Bool->Hp->Prop,(∀H3,Same H2 H3->Q' (p n) H3)->tc (some (.str n)::bo σ ix) H2 Q')
   (he:∀(n:Str) H2 (Q':VK),Q' (.str n) H2->te (some (.str n)::bo σ ix) H2 Q')
   (hQ:∀D H',H1 D=none->Same H1 H'->H' D=some (.lst ((ws.filter p).map V.str))->Q (.ref D) H'):js J H1 σ ix tc te Q:=by
 have pv:∀n:Str,(fun v:V=>match v with|.str i=>p i|_=>false) (V.str n)=p n:=fun n=>rfl
 refine kg (ws.map V.str) (fun v=>match v with|.str i=>p i|_=>false) id hJ h0 (by rw[List.length_map];exact Nat.le_trans hz (by decide)) ?_ ?_ ?_
 . intro x hx H2 e2 Q' q'
   obtain⟨n,hn,rfl⟩:=List.mem_map.mp hx
   exact hc n hn H2 e2 Q' fun H3 e3=>q' H3 e3
 . intro x hx _ H2 e2 Q' q'
   obtain⟨n,hn,rfl⟩:=List.mem_map.mp hx
   exact he n H2 Q' (q' H2 (Same.refl _))
 . intro D H' hD e hd
   refine hQ D H' hD e ?_
   rw[hd,List.map_id,List.filter_map]
   rfl
theorem au {a b:TS}{D:Ends}{σ:St}{H:Hp}(h:∀D':Ends,(∀σ H,b D σ H->D'.nx σ H)->(∀v H,D.rt v H->D'.rt v H)->(∀σ H,D.ct σ H->D'.ct σ H)->a D' σ H):tSeq a b D σ H:=h { D with nx:=b D } (fun _ _ z=>z) (fun _ _ z=>z) (fun _ _ z=>z)
open PySem.SeqAt
open AutoSeq1 (wpAny_loadPart')
open MeetsSeq MeetsSeq2 MeetsSeq3
noncomputable def EqP (prog:Program) (w:World) (A:Around) (s:Shared) (y x:Value):Prop:=∀(E:Value->Shared->Prop) (Q:Bool->Shared->Prop),Q true s->wpAny (model prog w) A (eqBool y x) Q E s
section
variable {prog:Program}{w:World}
end
noncomputable def AlikeV (K:PySem.W.Frag) (H:Hp) (v v':V):Prop:=(v=v'/\qw v=true)\/(∃p q kvs,v=.ref p/\v'=.ref q/\p≠q/\H p=some (.dK kvs)/\H q=some (.dK kvs)/\∀z∈kvs,qw z.2=true)\/∃d,Dp K H v d/\Dp K H v' d/\EqOk d
section
variable {X:Cx}
theorem AlikeV.eqP {pins:List (Addr×Obj)}{σ:St}{H:Hp}{s:Shared}{v v':V}{u u':Value}{A:Around}(I:Inv X pins σ H s) (h:AlikeV X.K H v v') (r:RelV v u) (r':RelV v' u') (hu:A.units+30<cLine):EqP X.prog X.w A s u u':=by
 rcases h with⟨rfl,hs⟩|⟨p,q,kvs,rfl,rfl,hne,hp,hq,hs⟩|⟨d,h1,h2,ok⟩
 . exact fun E Q k=>p8 hs r r' X.prog X.w E Q k
 . cases r
   cases r'
   intro E Q k
   unfold eqBool
   refine wpAny_holding (wpAny_ite_split (fun z=>?_) (fun _=>wpAny_bind ?_))
   . have zz:=eq_of_beq z
     cases zz
     exact absurd rfl hne
   . obtain⟨z,da,va,ra,dda⟩:=ge I.hok (.inl hp)
     obtain⟨_,db,vb,rb,ddb⟩:=ge I.hok (.inl hq)
     have hl:va.length=vb.length:=by rw[<- ra.length,<- rb.length]
     refine PySem.W.keq_eq (r:=true) da db dda ddb (by omega) (fun _=>a1b hs ra rb (qe dda)) ?_
     rw[hl]
     simp only[beq_self_eq_true,Bool.and_true]
     exact wpAny_truthy_bool k
 . obtain⟨as,ra⟩:=Dp.reads I h1 r
   obtain⟨bs,rb⟩:=Dp.reads I h2 r'
   have:=SeqAt.eqAt_reads d d A s u u' as bs ra rb (ok.1) (ok.1) (by have:=ok.2;rw[Nat.min_self];omega)
   rw[SeqAt.eqv_refl d ok.1] at this
   exact fun E Q k=>this X.prog X.w E Q k
end
section
variable {X:Cx}
theorem uj (hc:X.calm=true):cf X (.builtin "max") (fun vs H Q=>∃(a:Addr) (ns:List Int),vs=[.ref a]/\SqL X.K H a (ns.map V.int)/\ns≠[]/\∀M∈ns,(∀n∈ns,n<=M)->Q (.int M) H):=by
 intro pins s σ H vs us Q I r h
 obtain⟨a,ns,rfl,hq,hne,q⟩:=h
 obtain⟨u,rfl,ru⟩:=r.one
 cases ru
 obtain⟨its,rv,p,_⟩:=I.list hq
 have hl:its.length=ns.length:=by have:=rv.length;rw[List.length_map] at this;omega
 have hn:0<ns.length:=List.length_pos_iff.mpr hne
 have hat:∀(i:Nat) (v:Value),its.toArray[i]? = some v->∃t,v=.int (ns.getD i 0) t:=fun i v hv=>by
   have hv':its[i]? = some v:=by simpa using hv
   have hi:i<ns.length:=by rw[<- hl];exact (List.getElem?_eq_some_iff.mp hv').1
   obtain⟨w',hw,rw'⟩:=rv.get (show (ns.map V.int)[i]? = some (.int ns[i]) by rw[List.getElem?_map,List.getElem?_eq_getElem hi];rfl)
   rw[hv'] at hw
   cases hw
   obtain⟨t,rfl⟩:=rw'
   exact⟨t,by rw[List.getD_eq_getElem?_getD,List.getElem?_eq_getElem hi];rfl⟩
 have hax:a<s.heap.objs.size:=by obtain⟨o,ho,_⟩:=p.isList;exact Heap.lt_size ho
 refine call_max_walk (wpAny_pyIter_list p.isList ⟨s.heap.objs.size,_,_,_,_,_,fun i j=>decide (ns.getD i 0>ns.getD j 0),rfl,Walks.list (show X.A.in1.handled=none from I.ok.hd hc) s.heap.objs.size a (Nat.ne_of_lt hax) its.toArray,⟨?_,?_⟩,fun b hb=>?_,by rw[List.size_toArray];omega,CmpOf.ints_gt (fun i=>ns.getD i 0) hat,fun v h' tk hv hk=>?_⟩)
 . exact⟨_,Heap.get?_push_size _ rfl,rfl,rfl⟩
 . exact p.isList.push _
 . rw[Heap.size_push]
   simp only[List.mem_cons,List.not_mem_nil,or_false] at hb
   rcases hb with rfl|rfl
   . exact Nat.lt_succ_self _
   . exact Nat.lt_succ_of_lt hax
 . obtain⟨t,rfl⟩:=hat _ _ hv
   have hb:=argBest_gt (fun i=>ns.getD i 0) (its.toArray.size - 1)
   rw[List.size_toArray] at hb hv
   have hi:argBest (fun i j=>decide (ns.getD i 0>ns.getD j 0)) (its.length - 1)<ns.length:=by have:=hb.1;omega
   refine⟨.int _,H,I.kept (t':=tk) fun b o hbo=>hk b o (by simp only[List.mem_cons,List.not_mem_nil,or_false];exact Nat.ne_of_lt (Heap.lt_size hbo)) (Heap.get?_push_of_some _ hbo),⟨t,rfl⟩,q _ ?_ fun n hn'=>?_⟩
   . rw[List.size_toArray,List.getD_eq_getElem?_getD,List.getElem?_eq_getElem hi];exact List.getElem_mem hi
   . obtain⟨j,hj,rfl⟩:=List.getElem_of_mem hn'
     have:=hb.2 j (by omega)
     rw[List.getD_eq_getElem?_getD,List.getElem?_eq_getElem hj] at this
     rw[List.size_toArray]
     exact this
noncomputable def aax (_ j:Int):Prop:=0<j/\j<=10 ^ 60
theorem a4k:OpR X (binaryOp .FloorDiv) (rI aax fun i j=>.int (i / j)):=opI fun i j _ _ _ _ _ hc q=>by
 have h1:(0:Int)<j:=hc.1
 have h2:j<=10 ^ 60:=hc.2
 refine floordiv_int (by omega) (by rw[Int.fdiv_eq_ediv_of_nonneg i (by omega)];exact q) (.inl (PyProof.noPylong_of_log2 ?_))
 have h3:j.natAbs<2 ^ 200:=by
   have:(10:Int) ^ 60<2 ^ 200:=by decide +kernel
   omega
 have h4:j.natAbs.log2<200:=(Nat.log2_lt (by omega)).mpr h3
 omega
set_option autoImplicit true
set_option relaxedAutoImplicit true
theorem wf (ho:QE X o td) (he:QE X e ty) (m:M1 X o "pop" apos e cpos:=by exact⟨rfl,rfl,rfl,rfl⟩):QE X (.Call (.Attribute o "pop" apos) [e] [] cpos) (a3b td ty):=⟨a5l ho.run he.run m⟩
end
section
variable {X:Cx}{pins:List (Addr×Obj)}{σ:St}{H:Hp}{s:Shared}{a b:Addr}{A:Around}{E:Value->Shared->Prop}
end
section
variable {X:Cx}{o e f:Expr}{apos cpos:Pos}{td ty tx:TE}
end
end L2
namespace Mir
open PySem L2
noncomputable def letters:Str := "abcdefghijklmnopqrstuvwxyz"
noncomputable def figures:Str := "0123456789"
noncomputable def noNames:List Str:=["nil","any","is","not","cell","stretch","tree","nothing","then","with"]
noncomputable def d0 (c:Nat):Bool:=decide (c∈letters.cps.toList) || decide (c∈figures.cps.toList)
noncomputable def ip:List Nat->Bool
 | []=>false
 | c::_=>decide (c∈letters.cps.toList)
noncomputable def bm (x:Str):Bool:=if x = "" \/ 8<x.length\/x∈noNames then false else ip x.cps.toList && x.cps.toList.all d0
theorem yi (a b:Str):eqV (.str a) (.str b)=decide (a=b):=by
 show (a == b)=decide (a=b)
 by_cases h:a=b
 . subst h;simp
 . rw[decide_eq_false h];exact beq_eq_false_iff_ne.mpr h
theorem gx (x:Str) (l:List Str):inV (.str x) (l.map V.str)=decide (x∈l):=by
 unfold inV
 rw[Bool.eq_iff_iff,List.any_eq_true,decide_eq_true_eq]
 constructor
 . rintro⟨y,hy,e⟩
   obtain⟨z,hz,rfl⟩:=List.mem_map.mp hy
   rw[yi,decide_eq_true_eq] at e
   exact e ▸ hz
 . intro h
   exact⟨.str x,List.mem_map.mpr ⟨x,h,rfl⟩,by rw[yi];simp⟩
theorem i9 (l:List Str):(l.map V.str).all ie=true:=by
 rw[List.all_eq_true]
 intro v hv
 obtain⟨z,_,rfl⟩:=List.mem_map.mp hv
 rfl
end Mir
namespace K50
open PySem PySem.Spec L2 Mir
variable {P:Program}{w:World}{K:PySem.W.Frag}{mg:Str->Option Value}{base:Heap}{f g gS gN gA gW gI gL gF gO gT gB C fI CM CF fJ gD gE gC gM gK gH gR gU gV gP gX:Addr}{fd gd dS dN dA dW dI dL dF dO dT dB dD dE dC dM dK dH dR dU dV dP dX:FuncData}
noncomputable def top (i:Nat):Stmt:=PySem.Challenge.pw_apart_k50_plain_deeds.main.body.getD i (.Pass ⟨0,0,0,0⟩)
noncomputable def forms:List (Str×List Str):=[("set",["name","value"]),("read",["name","name","field"]),("write",["name","field","value"]),("new",["name","value","value"]),("free",["name"])]
structure Con (K:PySem.W.Frag) (mg:Str->Option Value) (w:World):Prop where
 len:mg "len" = none
 all:mg "all" = none
 any:mg "any" = none
 isi:mg "isinstance" = none
 list:mg "list" = none
 int:mg "int" = none
 bool:mg "bool" = none
 str:mg "str" = none
 dict:mg "dict" = none
 sorted:mg "sorted" = none
 set:mg "set" = none
 sum:mg "sum" = none
 range:mg "range" = none
 tuple:mg "tuple" = none
 max:mg "max" = none
 zip:mg "zip" = none
 min:mg "min" = none
 enumerate:mg "enumerate" = none
 letters:Glob mg "LETTERS" (.str Mir.letters)
 figures:Glob mg "FIGURES" (.str Mir.figures)
 noNames:∃a,Glob mg "NO_NAMES" (.ref a)/\∀H,SqT K H a (Mir.noNames.map V.str)
 mostSigns:Glob mg "MOST_SIGNS" (.int 8)
 forms:∃(a:Addr) (ts:List (Str×Addr)),Glob mg "PLAIN_FORMS" (.ref a)/\um K w a (ts.map fun x=>(x.1,V.ref x.2))/\ts.map (·.1)=forms.map (·.1)/\∀w t r,(w,t)∈ts->(w,r)∈forms->∀H,SqT K H t (r.map V.str)
 fields:∃a,Glob mg "FIELDS" (.ref a)/\(∀H,SqT K H a (([("first" : Str),"second"]:List Str).map V.str))/\∃o,K.lookup a=some o/\o.cls=.type "tuple" /\ o.dict=none
 places:∃a,Glob mg "CELL_PLACES" (.ref a)/\um K w a [("read",.int 2),("write",.int 1),("free",.int 1)]
theorem iteB {b:Bool}{A B:Prop}(h1:b=true->A) (h2:b=false->B):if b=true then A else B:=by
 cases b with
 | true=>rw[if_pos rfl];exact h1 rfl
 | false=>rw[if_neg Bool.false_ne_true];exact h2 rfl
noncomputable def Short (x:Str):Prop:=x.length<=1000
theorem Short.line {x:Str}(h:Short x):x.length<=sizeLine:=Nat.le_of_lt (dw h)
noncomputable def spB1 (f:Str->Bool):Sp:=fun vs H Q _=>∃x,vs=[.str x]/\Short x/\∀H',Same H H'->Q (.bl (f x)) H'
theorem jq {r:List Str}{k:Nat}:cutV (r.map V.str) (some (k:Int)) none=(r.drop k).map V.str:=by
 unfold cutV
 rw[HT.sIx_nat,HT.sIx_none,List.length_map]
 rw[List.map_drop.symm]
 by_cases h:k<=r.length
 . rw[Nat.min_eq_left h,List.take_of_length_le (by simp)]
 . rw[Nat.min_eq_right (by omega),Nat.sub_self,List.take_zero,List.drop_eq_nil_of_le (by omega)];rfl
noncomputable def j0 (rs:List (List Str)):Prop:=rs.length<=200/\∀r∈rs,r.length<=5/\∀x∈r,Short x
theorem Paired.nth {α β:Type}{F:α->β->Prop}:∀{l₁:List α}{l₂:List β}{i:Nat}{a:α},Paired F l₁ l₂->l₁[i]? = some a->∃b,l₂[i]? = some b/\F a b
 | _,_,_,_,.nil,e=>by simp at e
 | _,_,0,_,.cons h _,e=>by simp at e;subst e;exact⟨_,rfl,h⟩
 | _,_,i+1,_,.cons _ t,e=>by
   obtain⟨b,e1,e2⟩:=Paired.nth (i:=i) t (by simpa using e)
   exact⟨b,by simpa using e1,e2⟩
theorem gty {X:Cx}{x:Str}{n:String}{pos:Pos}(hm:X.mg x=none) (hv:bootBuiltins x=some (.type n)) (hg:Gl X x:=by rfl) (hn:x ≠ "__name__" := by decide) (hdb:(x == ("__debug__" : Str))=false:=by decide):PE X (.Name x pos) (tC (.ty n)):=a7v hg hm hv rfl hn hdb
structure Cal (K:PySem.W.Frag) (mg:Str->Option Value) (x:Str) (f:Addr) (fd:FuncData) (ps:List Str):Prop where
 name:mg x=some (.ref f)
 keep:PySem.W.keepIn K (.ref f)=true
 bind:Binds K fd ps []
theorem Paired.at2 {α β:Type}{F:α->β->Prop}{l₁:List α}{l₂:List β}{i:Nat}{a:α}{b:β}(h:Paired F l₁ l₂) (h1:l₁[i]? = some a) (h2:l₂[i]? = some b):F a b:=by
 obtain⟨b',e1,e2⟩:=Paired.nth h h1
 rw[h2] at e1
 cases e1
 exact e2
noncomputable def en (r:List Str):List Str:=(r.drop 1).filter fun x => !decide (x∈Mir.noNames)
noncomputable def words (rs:List (List Str)):List Str:=(rs.map en).flatten
theorem a3g (a b:List (List Str)):words (a++b)=words a++words b:=by unfold words;rw[List.map_append,List.flatten_append]
theorem a0v (a:List (List Str)) (r:List Str):words (a++[r])=words a++en r:=by rw[a3g];unfold words;simp
theorem iu:∀{rs:List (List Str)}{m:Nat},(∀r∈rs,r.length<=m)->(words rs).length<=rs.length*m
 | [],m,_=>by simp[words]
 | r::rs,m,h=>by
   have h1:=iu (rs:=rs) (m:=m) (fun x hx=>h x (List.mem_cons_of_mem _ hx))
   have h2:(en r).length<=m:=by
     unfold en
     have:=List.length_filter_le (fun x => !decide (x∈Mir.noNames)) (r.drop 1)
     have:=h r (List.mem_cons_self ..)
     have e:=List.length_drop (i:=1) (l:=r)
     omega
   have e:words (r::rs)=en r++words rs:=by simp[words]
   rw[e,List.length_append,List.length_cons,Nat.succ_mul]
   omega
theorem Paired.app {α β:Type}{F:α->β->Prop}:∀{l₁:List α}{l₂:List β}{m₁:List α}{m₂:List β},Paired F l₁ l₂->Paired F m₁ m₂->Paired F (l₁++m₁) (l₂++m₂)
 | _,_,_,_,.nil,h=>h
 | _,_,_,_,.cons h t,h2=>.cons h (Paired.app t h2)
noncomputable def rq (K:PySem.W.Frag):Sp:=fun vs H Q _=>∃a fs ps,vs=[.ref a]/\a9j K H a [fs,ps]/\j0 fs/\j0 ps/\(∀r∈fs++ps,r≠[])/\(∀ss:List Str,ss.Nodup->(∀y∈ss,y∈words (fs++ps))->ss.length<64)/\
 ∀(p:Addr) (zs:List Str) (H':Hp),H p=none->Same H H'->H' p=some (.lst (zs.map V.str))->zs.Nodup->(∀y,y∈zs↔y∈words (fs++ps))->PyProof.Rows.sortedS zs=true->Q (.ref p) H'
noncomputable abbrev sq:Stmt:=top 6
noncomputable abbrev pi:Stmt:=top 7
theorem a4s:FnScope ["text"] ["text"] (ao sq):=⟨rfl,rfl,rfl,by decide +kernel,rfl,by decide +kernel,by decide +kernel⟩
theorem a1h (C:Con K mg w) (F:Fun K "is_name" "is_name" sq f fd):FnOk P w K mg base CX0 1 f fd ["text"] (spB1 bm):=by
 refine F.ok a4s (fun vs H Q E h=>?_) (fun cdv A outer s H vs Q E hr h=>?_)
 . obtain⟨x,rfl,_⟩:=h;rfl
 obtain⟨x,rfl,hx,q⟩:=h
 obtain⟨aN,gN,tN⟩:=C.noNames
 refine⟨_,jw (a6o (PW.pt (a01 (jr be (pv 0) vm (ax _)) (a01 (jr uq (jt le rfl C.len PySem.boot_len (cj (pv 0) i8)) (pe_g C.mostSigns) (ax _))
     (a1m (jr ir (pv 0) (pe_g gN) (by with_unfolding_all rfl)))))) (jb (qq a0z)) zj)
   (jb (qq (a2f (md ju (uy gn (pv 0) ji (fun _ _=>rfl)) (pe_g C.letters) (by with_unfolding_all rfl))
     (wb (jt (a4v rfl) rfl C.all PyProof.Rows.boot_all (cj (pj (a90 (pv 0)) (fun _ _ _ _=>yq)
       (fun _ _ _ _=>aai (md ju (pv 0) (pe_g C.letters) (by with_unfolding_all rfl)) (wb (md ju (pv 0) (pe_g C.figures) (by with_unfolding_all rfl))))) i8)))))),?_⟩
 have hf:(x = "" \/ 8<x.length\/x∈Mir.noNames)->Q (.bl false) H:=fun h=>by
   have e:bm x=false:=by unfold bm;rw[if_pos h]
   rw[<- e];exact q H (Same.refl H)
 refine⟨_,rfl,rfl,_,rfl,iteB (fun c=>hf (.inl (by simpa using c))) fun c=>?_⟩
 refine⟨_,rfl,x,rfl,hx.line,_,_,rfl,rfl,_,rfl,iteB (fun c2=>hf (.inr (.inl (by have:=of_decide_eq_true c2;omega)))) fun c2=>?_⟩
 refine⟨_,rfl,aN,_,rfl,.inr (tN _),rfl,i9 _,_,rfl,iteB (fun c3=>hf (.inr (.inr (by
   have c3':inV (.str x) (Mir.noNames.map V.str)=true:=c3
   rw[gx] at c3';exact of_decide_eq_true c3')))) fun c3=>?_⟩
 have c1':¬ x = "" := by simpa using c
 have c2':¬ 8<x.length:=by have:=of_decide_eq_false c2;omega
 have c3':¬ x∈Mir.noNames:=by
   have c3':inV (.str x) (Mir.noNames.map V.str)=false:=c3
   rw[gx] at c3';exact of_decide_eq_false c3'
 have e:bm x=(ip x.cps.toList && x.cps.toList.all d0):=by unfold bm;rw[if_neg (fun h=>h.elim c1' (fun h=>h.elim c2' c3'))]
 rw[e] at q
 cases hl:x.cps.toList with
 | nil =>
   exfalso
   apply c1'
   obtain⟨a⟩:=x
   have:a = #[]:=by simpa using hl
   rw[this];rfl
 | cons c0 r =>
   refine⟨_,rfl,x,0,c0,rfl,rfl,hx.line,(ca (j:=0) (by rw[hl];rfl)),c0,_,rfl,rfl,_,rfl,?_⟩
   have eh:ip x.cps.toList=decide (c0∈Mir.letters.cps.toList):=by rw[hl];rfl
   refine iteB (fun ch=>?_) (fun ch=>?_)
   . rw[eh,ch,Bool.true_and] at q
     refine⟨_,rfl,x,rfl,?_⟩
     refine kg (jv x) (fun _=>true) (fun v=>match v with|.str z=>.bl (d0 (z.cps.toList.headD 0))|_=>.bl false) a5t trivial ?_ ?_ ?_ ?_
     . unfold jv;rw[List.length_map,Array.length_toList];exact hx.line
     . intro v hv H2 e2 Q' q'
       exact q' H2 (Same.refl _)
     . intro v hv _ H2 e2 Q' q'
       obtain⟨cc,hcc,rfl⟩:=List.mem_map.mp hv
       have q'':=q' H2 (Same.refl _)
       refine⟨_,rfl,cc,_,rfl,rfl,_,rfl,iteB (fun z=>?_) (fun z=>?_)⟩
       . have:d0 cc=true:=by unfold d0;rw[show decide (cc∈Mir.letters.cps.toList)=true from z];rfl
         have q3:Q' (.bl (d0 cc)) H2:=q''
         rw[this] at q3;exact q3
       . refine⟨_,rfl,cc,_,rfl,rfl,?_⟩
         have:d0 cc=decide (cc∈Mir.figures.cps.toList):=by unfold d0;rw[show decide (cc∈Mir.letters.cps.toList)=false from z];rfl
         have q3:Q' (.bl (d0 cc)) H2:=q''
         rw[this] at q3;exact q3
     . intro D H' hD e' hd
       refine⟨D,x.cps.toList.map d0,rfl,SqL.of ?_,?_⟩
       . rw[hd]
         congr 1
         congr 1
         unfold jv
         rw[List.filter_eq_self.mpr (fun _ _=>rfl),List.map_map,List.map_map]
         rfl
       . have e3:(x.cps.toList.map d0).all id=x.cps.toList.all d0:=by rw[List.all_map];rfl
         rw[e3]
         exact q H' e'
   . rw[eh,ch] at q
     exact q H (Same.refl _)
theorem scNamesOf:FnScope ["telling","names","row"] ["telling"] (ao pi):=⟨rfl,rfl,rfl,by decide +kernel,rfl,by decide +kernel,by decide +kernel⟩
theorem zy (C:Con K mg w) (F:Fun K "names_of" "names_of" pi f fd):FnOk P w K mg base CX0 1 f fd ["telling"] (rq K):=by
 refine F.ok scNamesOf (fun vs H Q E h=>?_) (fun cdv A outer s H vs Q E hr h=>?_)
 . obtain⟨a,fs,ps,rfl,_⟩:=h;rfl
 obtain⟨a,fs,ps,rfl,ht,hf,hp,hne,h64,q⟩:=h
 obtain⟨aN,gN,tN⟩:=C.noNames
 obtain⟨as,t1,t2⟩:=ht
 cases t2 with
 | @cons fa _ _ _ t3 t4 =>
 cases t4 with
 | @cons pa _ _ _ t5 t6 =>
 cases t6
 obtain⟨fas,f1,f2⟩:=t3
 obtain⟨pas,p1,p2⟩:=t5
 refine⟨_,jw (a4b scNamesOf.nd (i:=1) rfl (Or.inl rfl) (v9 i8))
   (jw (a2z PassesOwn.never rfl (yx (a6e g6 (uy ay (pv 0) ji (fun _ _=>rfl)) (uy ay (pv 0) ji (fun _ _=>rfl)))) (mh (i:=2) scNamesOf.nd rfl (Or.inl rfl))
     (jb (y0 (a6x PySem.F.plainAttrs_list PySem.F.slot_list_extend PySem.F.type_list_extend lg (pv 1)
       (cj (pj (a4h (vk qj (pv 2) (yu ji) yd)) (fun _ _ _ _=>zc (jr (show OpR _ _ (rIn K true) from wn) (pv 0) (pe_g gN) (by with_unfolding_all rfl))) (fun _ _ _ _=>pv 0)) i8)))))
     (jb (qq (jt (j3 rfl) rfl C.sorted PyProof.Rows.boot_sorted (cj (u6 (w8 rfl) rfl C.set PyProof.Rows.boot_set (cj (pv 1) i8)) i8))))),?_⟩
 refine⟨Nat.zero_le _,fun n hn=>?_⟩
 have s1:Same H (upd H n (.lst [])):=ad hn _
 have fl:fas.length=fs.length:=Paired.length f2
 have pl:pas.length=ps.length:=Paired.length p2
 have b1:=hf.1
 have b2:=hp.1
 refine⟨_,rfl,a,_,0,.ref fa,rfl,rfl,s1.seqT t1,rfl,_,rfl,a,_,1,.ref pa,rfl,rfl,s1.seqT t1,rfl,?_⟩
 refine⟨fa,pa,_,_,rfl,rfl,s1 _ _ f1,s1 _ _ p1,?_,fun c hc=>?_⟩
 . rw[List.length_map,List.length_map];exact Nat.le_of_lt (dw (by omega))
 have hcn:c≠n:=fun e=>by rw[e,a0] at hc;cases hc
 rw[<- List.map_append]
 have s2:=ad hc (.lst ((fas++pas).map V.ref))
 refine⟨c,rfl,⟨_,SqL.of a0⟩,?_⟩
 have pr:Paired (fun b r=>RowAt K H b r) (fas++pas) (fs++ps):=Paired.app f2 p2
 have pl2:(fas++pas).length=(fs++ps).length:=Paired.length pr
 have hall:∀r∈fs++ps,r.length<=5:=fun r hr=>by
   rcases List.mem_append.mp hr with h|h
   . exact (hf.2 r h).1
   . exact (hp.2 r h).1
 refine gv (xs:=(fas++pas).map V.ref) (fun i σ H'=>Same H H'/\H' c=some (.lst ((fas++pas).map V.ref))/\H' n=some (.lst ((words ((fs++ps).take i)).map V.str))/\∃z,σ=[some (.ref a),some (.ref n),z]) ⟨s1.trans s2,a0,?_,_,rfl⟩ (fun i σ H' _ p=>SqL.of p.2.1) ?_ ?_
 . rw[ac (Ne.symm hcn),a0];rfl
 . rintro i v σ H' hi ⟨e,hc',hn',z,rfl⟩
   rw[List.getElem?_map] at hi
   cases hb:(fas++pas)[i]? with
   | none=>rw[hb] at hi;cases hi
   | some b =>
     rw[hb] at hi
     have hv:v=.ref b:=(Option.some.inj hi).symm
     subst hv
     obtain⟨r,hr1,hr2⟩:=Paired.nth pr hb
     have hrm:r∈fs++ps:=List.mem_of_getElem? hr1
     have hrow:RowAt K H' b r:=hr2.same e
     have hr5:=hall r hrm
     have hr0:r.length≠0:=fun h=>hne r hrm (List.length_eq_zero_iff.mp h)
     refine⟨_,rfl,.inl ⟨rfl,_,SqL.of hn'⟩,_,rfl,_,rfl,b,_,rfl,hrow,?_,fun t hT=>?_⟩
     . rw[List.length_map,show (some (1:Int))=some ((1:Nat):Int) from rfl,HT.sIx_nat];omega
     have e1:cutV (r.map V.str) (some 1) none=(r.drop 1).map V.str:=jq (k:=1)
     rw[e1]
     have s3:Same H' (upd H' t (.tup ((r.drop 1).map V.str))):=ad hT _
     refine⟨t,rfl,⟨_,SqT.of a0⟩,?_⟩
     refine kg ((r.drop 1).map V.str) (fun v => !inV v (Mir.noNames.map V.str)) id wo (SqT.of a0) ?_ ?_ ?_ ?_
     . rw[List.length_map,List.length_drop];exact Nat.le_of_lt (dw (by omega))
     . intro v hv H2 e2 Q' q'
       obtain⟨y,hy,rfl⟩:=List.mem_map.mp hv
       exact⟨_,rfl,aN,_,rfl,.inr (tN _),rfl,i9 _,_,rfl,q' H2 (Same.refl _)⟩
     . intro v hv hpv H2 e2 Q' q'
       obtain⟨y,hy,rfl⟩:=List.mem_map.mp hv
       exact⟨_,rfl,q' H2 (Same.refl _)⟩
     . intro D H2 hD e' hd
       have hw:(((r.drop 1).map V.str).filter (fun v => !inV v (Mir.noNames.map V.str))).map id=(en r).map V.str:=by
         rw[List.map_id,List.filter_map]
         unfold en
         congr 1
         apply List.filter_congr
         intro x _
         show (!inV (.str x) (Mir.noNames.map V.str))=_
         rw[gx]
       rw[hw] at hd
       have s4:Same H H2:=(e.trans s3).trans e'
       have ht1:(fs++ps).take (i+1)=(fs++ps).take i++[r]:=by rw[List.take_add_one,hr1];rfl
       have wl:=iu hall
       have wl2:(words ((fs++ps).take i)).length<=200*5+200*5:=by
         have h1:=iu (rs:=(fs++ps).take i) (m:=5) (fun r hr=>hall r (List.mem_of_mem_take hr))
         have h2:=List.length_take_le' i (fs++ps)
         rw[List.length_append] at h2
         omega
       have wl3:(en r).length<=5:=by
         unfold en
         have h1:=List.length_filter_le (fun x => !decide (x∈Mir.noNames)) (r.drop 1)
         have h2:=List.length_drop (i:=1) (l:=r)
         omega
       refine⟨n,D,_,_,rfl,rfl,e' _ _ (s3 _ _ hn'),hd,?_,?_⟩
       . rw[List.length_map,List.length_map]
         exact Nat.le_trans (by omega) (show (2005:Nat)<=sizeLine by decide)
       refine⟨fun b' u q'=>?_,?_,?_,_,rfl⟩
       . rw[ac (ai q' hn)];exact s4 _ _ q'
       . rw[ac hcn];exact e' _ _ (s3 _ _ hc')
       . rw[a0,ht1,a0v,List.map_append]
 . rintro σ H' ⟨e,hc',hn',z,rfl⟩
   rw[List.length_map,pl2,List.take_length] at hn'
   refine⟨_,rfl,n,_,rfl,SqL.of hn',?_,fun S ss hS hd=>?_⟩
   . have wl:=iu hall
     rw[List.length_append] at wl
     show _<4096
     omega
   have s5:=ad hS (SetO P w S ss)
   refine⟨S,ss,rfl,a0,h64 ss hd.nodup (fun y hy=>(hd.mem y).mp hy),fun p zs hp' hzs hso=>?_⟩
   have s6:=ad hp' (.lst (zs.map V.str))
   refine q p zs _ ?_ (e.trans (s5.trans s6)) a0 (hzs.nodup_iff.mpr hd.nodup) (fun y=>(hzs.mem_iff).trans (hd.mem y)) hso
   cases hH:H p with
   | none=>rfl
   | some u=>exact nomatch (s5 _ _ (e _ _ hH)).symm.trans hp'
section
variable {K:PySem.W.Frag}
end
noncomputable def gb (ns:List Int) (k:Nat):Int:=(ns[k]?).getD 0
noncomputable def qh (K:PySem.W.Frag):Sp:=fun vs H Q _=>∃(a:Addr) (ns:List Int) (k:Nat),vs=[.ref a,.int (k:Int)]/\SqL K H a (ns.map V.int)/\Q (.int (gb ns k)) H
theorem jf {α:Type}{xs:List α}{m:Int}{i:Int}(hl:(xs.length:Int)=m) (hm:0<m):∃v,atI xs (i % m)=some v/\v∈xs:=by
 have h0:=Int.emod_nonneg i (Int.ne_of_gt hm)
 have h1:=Int.emod_lt_of_pos i hm
 generalize i % m=j at h0 h1
 obtain⟨k,rfl⟩:=Int.eq_ofNat_of_zero_le h0
 have hk:k<xs.length:=by omega
 exact⟨xs[k],ca (List.getElem?_eq_getElem hk),List.getElem_mem hk⟩
noncomputable abbrev a0k:Stmt:=top 32
theorem a8v:FnScope ["_law_script","_law_k"] ["_law_script","_law_k"] (ao a0k):=⟨rfl,rfl,rfl,by decide +kernel,rfl,by decide +kernel,by decide +kernel⟩
theorem a3n (C:Con K mg w) (F:Fun K "_law_cell_at" "_law_cell_at" a0k f fd):FnOk P w K mg base CX0 1 f fd ["_law_script","_law_k"] (qh K):=by
 refine F.okQ a8v (fun vs H Q E h=>?_) (fun cdv A outer s H vs Q E hr h=>?_)
 . obtain⟨a,ns,k,rfl,_⟩:=h;rfl
 obtain⟨a,ns,k,rfl,hS,q⟩:=h
 refine⟨_,ae (b6 (ar a0n (qv 1) (ba dk rfl C.len PySem.boot_len (af (qv 0) aa)) (ax _)) (ag (av (ah dq (qv 0) (qv 1) (fun _ _=>rfl)))) b9)
   (ag (av ab)),?_⟩
 have hl:(ns.map V.int).length=ns.length:=List.length_map _
 refine⟨_,rfl,_,rfl,a,_,rfl,.inl hS,_,_,rfl,rfl,_,rfl,iteB (fun c=>?_) (fun c=>?_)⟩
 . have c':=of_decide_eq_true c
   rw[hl] at c'
   have hk:k<ns.length:=by omega
   have e:gb ns k=ns[k]:=by unfold gb;rw[List.getElem?_eq_getElem hk];rfl
   rw[e] at q
   exact⟨_,rfl,_,rfl,a,_,_,_,rfl,rfl,hS,ca (by rw[List.getElem?_map,List.getElem?_eq_getElem hk];rfl),q⟩
 . have c':=of_decide_eq_false c
   rw[hl] at c'
   have hk:ns.length<=k:=by omega
   have e:gb ns k=0:=by unfold gb;rw[List.getElem?_eq_none hk];rfl
   rw[e] at q
   exact q
noncomputable def uo (K:PySem.W.Frag):Sp:=fun vs H Q _=>∃(a:Addr) (ns:List Int),vs=[.ref a]/\SqL K H a (ns.map V.int)/\∀H',Q (.bl true) H'
theorem sd {X:Cx}{i j:Nat}{x y:Str}{px py pos:Pos}{k:Nat}(h1:QG X (.Name x px) (bi i)) (h2:QG X (.Name y py) (bi j)) (hc:X.calm=true:=by rfl)
   (a1:(assignEach [.Name x px,.Name y py] X.env).map (·.2)=assign (.Name x px) X.env::(assignEach [.Name y py] X.env).map (·.2):=by rfl) (a2:(assignEach [.Name y py] X.env).map (·.2)=assign (.Name y py) X.env::(assignEach [] X.env).map (·.2):=by rfl)
   (hn:(assignEach [.Name x px,.Name y py] X.env).length=2:=by rfl) (hst:(assignEach [.Name x px,.Name y py] X.env).findIdx? (·.1)=none:=by rfl):QG X (.Tuple [.Name x px,.Name y py] k pos) (gTup X.K 2 (qp (bi i) (qp (bi j) gNil))) :=
 ⟨a2w hc (l8 h1.run (l8 h2.run zq a2) a1) hn hst⟩
theorem aam (xs:List V) (n:Nat):cutV xs none (some (n:Int))=xs.take n:=by
 unfold cutV
 rw[HT.sIx_nat,HT.sIx_none,List.drop_zero,Nat.sub_zero]
 by_cases h:n<=xs.length
 . rw[Nat.min_eq_left h]
 . rw[Nat.min_eq_right (by omega),List.take_length,List.take_of_length_le (by omega)]
theorem et {X:Cx}{a:Expr}{ta:TE}{pos:Pos}{op:UnaryOp}{r:V->Hp->VK->Prop}(ho:UnR X (unaryOp op) r) (ha:QE X a ta):QE X (.UnaryOp op a pos) (tUn r ta):=⟨aag ho ha.run⟩
theorem dj {α:Type}{xs:List α}{v:α}:atI (xs++[v]) (-1)=some v:=by
 unfold atI ixN
 have h1:¬ (0:Int) <= -1:=by decide
 have h2 : -(((xs++[v]).length:Nat):Int) <= -1:=by rw[List.length_append,List.length_singleton];omega
 rw[if_neg h1,if_pos h2]
 have h3:((-1:Int)+(((xs++[v]).length:Nat):Int)).toNat=xs.length:=by rw[List.length_append,List.length_singleton];omega
 rw[h3]
 simp
end K50
namespace L2
open PySem PySem.Spec PyProof.Rows
section
variable {prog:Program}{w:World}{A:Around}{E:Value->Shared->Prop}{u:Shared}
theorem a6l {j q:Addr}{k:Nat}{vals:Array Value}{v:Value}{R:Value->Shared->Prop}(a1:u.heap.IsTupleIter j q k) (a2:u.heap.IsTuple q vals) (a3:vals[k]? = some v)
   (hR:∀g,g.IsTupleIter j q (k+1)->Heap.SameBut j u.heap g->R v { u with heap:=g }):wpAny (model prog w) A (Builtin.SmallTypes.nextOf (.ref j)) R E u:=by
 obtain⟨o,b1,b2,b3⟩:=id a1
 obtain⟨p,c1,c0,m,c2⟩:=a2
 have ty:=a1.typeIs
 unfold Builtin.SmallTypes.nextOf
 refine wpAny_bind (wpAny_callSpecial?_slot ty F.slot_tuple_iterator_next (wpAny_call_entry F.slot_tuple_iterator_next ty F.entry_tuple_iterator_next ?_ (F.args_tuple_iterator_next_1 _)))
 show wpAny (model prog w) _ (field (.ref j) 0 >>= _) _ _ u
 refine wpAny_bind (wpAny_field b1 b3 (x:=.ref q) rfl ?_)
 have nn:¬ (Value.ref q == Value.none)=true:=Bool.false_ne_true
 show wpAny (model prog w) _ (if (Value.ref q == Value.none)=true then _ else _) _ _ u
 rw[if_neg nn]
 show wpAny (model prog w) _ (field (.ref j) 1 >>= _) _ _ u
 refine wpAny_bind (wpAny_field b1 b3 (x:=.int k 0) rfl ?_)
 show wpAny (model prog w) _ (seqItems? (.ref q) >>= _) _ _ u
 refine wpAny_bind (wpAny_seqItems c1 c2 ?_)
 simp only[Int.toNat_natCast,a3]
 have kept:∀f:Array Value->Array Value,(u.heap.update j (Obj.mapFields f)).get? j=some (Obj.mapFields f o):=fun f=>Heap.get?_update_self _ b1 (Obj.isFreed_of_fields (Obj.data_mapFields b3 _))
 refine wpAny_bind (wpAny_setField b1 b3 (by simp) (wpAny_pure ⟨v,rfl,wpAny_pure (hR _ ⟨_,kept _,?_,?_⟩ (Heap.SameBut.update ..))⟩))
 . rw[Obj.cls_mapFields];exact b2
 . rw[Obj.data_mapFields b3];simp[rawInt]
theorem a2b {j q:Addr}{k:Nat}{vals:Array Value}{R:Value->Shared->Prop}(hh:A.handled=none) (a1:u.heap.IsTupleIter j q k) (a2:u.heap.IsTuple q vals) (a3:vals[k]? = none)
   (hE:∀g e,Heap.ExtBut j u.heap g->(∃o,g.get? e=some o/\o.cls=.type "StopIteration")->E (.ref e) { u with heap:=g }):wpAny (model prog w) A (Builtin.SmallTypes.nextOf (.ref j)) R E u:=by
 obtain⟨o,b1,b2,b3⟩:=id a1
 obtain⟨p,c1,c0,m,c2⟩:=a2
 have ty:=a1.typeIs
 unfold Builtin.SmallTypes.nextOf
 refine wpAny_bind (wpAny_callSpecial?_slot ty F.slot_tuple_iterator_next (wpAny_call_entry F.slot_tuple_iterator_next ty F.entry_tuple_iterator_next ?_ (F.args_tuple_iterator_next_1 _)))
 show wpAny (model prog w) _ (field (.ref j) 0 >>= _) _ _ u
 refine wpAny_bind (wpAny_field b1 b3 (x:=.ref q) rfl ?_)
 have nn:¬ (Value.ref q == Value.none)=true:=Bool.false_ne_true
 show wpAny (model prog w) _ (if (Value.ref q == Value.none)=true then _ else _) _ _ u
 rw[if_neg nn]
 show wpAny (model prog w) _ (field (.ref j) 1 >>= _) _ _ u
 refine wpAny_bind (wpAny_field b1 b3 (x:=.int k 0) rfl ?_)
 show wpAny (model prog w) _ (seqItems? (.ref q) >>= _) _ _ u
 refine wpAny_bind (wpAny_seqItems c1 c2 ?_)
 simp only[Int.toNat_natCast,a3]
 refine wpAny_bind (wpAny_rule (wpAny_bind (wpAny_setField b1 b3 (by simp) ?_)))
 show wpAny (model prog w) _ (newExc (.type "StopIteration") [] >>= _) _ _ _
 refine wpAny_bind ?_
 unfold newExc newTuple
 refine wpAny_bind (wpAny_newObj_type ?_ (by size_fits))
 refine wpAny_bind (m:=firstArgMember _ _) (wpAny_of_eq (a:=Value.none) (by simp only[firstArgMember];rfl) (wpAny_newObj_type ?_ (by size_fits)))
 refine wpAny_raiseNew_none ?_ ?_
 . exact hh
 . exact hE _ _ (((Heap.SameBut.update ..).extBut.push _).push _) ⟨_,Heap.get?_push_size _ rfl,rfl⟩
theorem a1o {z ti to j1 j2 q1 q2:Addr}{k1 k2:Nat}{xs ys:Array Value}{x y a b:Value}{R:Option Value->Shared->Prop}(D:ZipApart z ti to j1 j2 q1 q2) (g1:IsZip u.heap z ti to .none) (g2:IsPair u.heap ti (.ref j1) (.ref j2)) (g3:IsPair u.heap to a b)
   (t1:u.heap.IsTupleIter j1 q1 k1) (t2:u.heap.IsTupleIter j2 q2 k2) (v1:u.heap.IsTuple q1 xs) (v2:u.heap.IsTuple q2 ys) (hx:xs[k1]? = some x) (hy:ys[k2]? = some y)
   (hR:∀g,IsZip g z ti to (rawInt u.heap.objs.size)->IsPair g to x y->g.IsTupleIter j1 q1 (k1+1)->g.IsTupleIter j2 q2 (k2+1)->IsPair g u.heap.objs.size x y->
     (∀c o,c≠z->c≠to->c≠j1->c≠j2->u.heap.get? c=some o->g.get? c=some o)->R (some (.ref u.heap.objs.size)) { u with heap:=g }):wpAny (model prog w) A (pyNext (.ref z)) R E u:=by
 have ty:u.TypeIs (.ref z) "zip" := ⟨_,g1,rfl⟩
 unfold pyNext
 refine wpAny_bind (wpAny_attempt (wpAny_callSpecial?_slot ty F.slot_zip_next (wpAny_call_entry F.slot_zip_next ty F.entry_zip_next ?_ (F.args_zip_next_1 _))))
 show wpAny (model prog w) _ (field (.ref z) 2 >>= _) _ _ u
 refine wpAny_bind (wpAny_field g1 rfl (x:=.bool false) rfl ?_)
 show wpAny (model prog w) _ (field (.ref z) 3 >>= _) _ _ u
 refine wpAny_bind (wpAny_field g1 rfl (x:=.ref ti) rfl (wpAny_bind (wpAny_seqItems g2 rfl ?_)))
 show wpAny (model prog w) _ (Builtin.SmallTypes.ownedTupleIsFree (.ref z) >>= _) _ _ u
 refine wpAny_bind ?_
 unfold Builtin.SmallTypes.ownedTupleIsFree
 refine wpAny_bind (wpAny_field g1 rfl (x:=.none) rfl (wpAny_pure ?_))
 simp only[if_true]
 refine wpAny_bind (wpAny_rule (wpAny_bind (wpAny_field g1 rfl (x:=.ref to) rfl (wpAny_bind (wpAny_setField_rec g1 (by simp) fun m1 y1 d1=>?_)))))
 have z1:IsZip m1 z ti to .ellipsis:=y1
 refine wpAny_bind ?_
 simp only[List.zipIdx_cons,List.zipIdx_nil,List.forIn_cons,List.forIn_nil]
 refine wpAny_bind (wpAny_bind (wpAny_onRaise ?_))
 show wpAny (model prog w) _ (Builtin.SmallTypes.nextOf (.ref j1) >>= _) _ _ _
 refine wpAny_bind (a6l (t1.extBut d1.extBut D.i1z) (v1.extBut d1.extBut D.l1z) hx fun m2 y2 d2=>wpAny_pure ?_)
 have o2:IsPair m2 to a b:=d2.extBut _ _ D.TOi1 (d1.extBut _ _ D.TOz g3)
 refine wpAny_bind (wpAny_seqItems o2 rfl (wpAny_bind (wpAny_updateSeq_pair o2 fun m3 y3 d3=>wpAny_bind (wpAny_letGo (wpAny_pure ?_)))))
 have o3:IsPair m3 to x b:=y3
 refine wpAny_bind (wpAny_bind (wpAny_onRaise ?_))
 show wpAny (model prog w) _ (Builtin.SmallTypes.nextOf (.ref j2) >>= _) _ _ _
 have w2:=((t2.extBut d1.extBut D.i2z).extBut d2.extBut D.i12.symm).extBut d3.extBut D.TOi2.symm
 have x2:=((v2.extBut d1.extBut D.l2z).extBut d2.extBut D.l2i1).extBut d3.extBut D.l2TO
 refine wpAny_bind (a6l w2 x2 hy fun m4 y4 d4=>wpAny_pure ?_)
 have o4:IsPair m4 to x b:=d4.extBut _ _ D.TOi2 o3
 refine wpAny_bind (wpAny_seqItems o4 rfl (wpAny_bind (wpAny_updateSeq_pair o4 fun m5 y5 d5=>wpAny_bind (wpAny_letGo (wpAny_pure (wpAny_pure ?_))))))
 have o5:IsPair m5 to x y:=y5
 refine wpAny_bind (wpAny_seqItems o5 rfl (wpAny_bind (wpAny_newTuple ?_)))
 have sz:m5.objs.size=u.heap.objs.size:=by rw[d5.1,d4.1,d3.1,d2.1,d1.1]
 have z5:IsZip m5 z ti to .ellipsis:=d5.extBut _ _ D.TOz.symm (d4.extBut _ _ D.i2z.symm (d3.extBut _ _ D.TOz.symm (d2.extBut _ _ D.i1z.symm z1)))
 have kp:∀c o,c≠z->c≠to->c≠j1->c≠j2->u.heap.get? c=some o->m5.get? c=some o:=fun c o n1 n2 n3 n4 e=>d5.extBut _ _ n2 (d4.extBut _ _ n4 (d3.extBut _ _ n2 (d2.extBut _ _ n3 (d1.extBut _ _ n1 e))))
 have p1:m5.IsTupleIter j1 q1 (k1+1):=((y2.extBut d3.extBut D.TOi1.symm).extBut d4.extBut D.i12).extBut d5.extBut D.TOi1.symm
 have p2:m5.IsTupleIter j2 q2 (k2+1):=y4.extBut d5.extBut D.TOi2.symm
 show wpAny (model prog w) _ (Builtin.SmallTypes.ownedTupleHandOut (.ref z) (.ref m5.objs.size) >>= _) _ _ _
 refine wpAny_bind ?_
 unfold Builtin.SmallTypes.ownedTupleHandOut
 have z6:IsZip (m5.push { cls:=.type "tuple",data:=.seq #[x,y] }) z ti to .ellipsis:=Heap.get?_push_of_some _ z5
 refine wpAny_bind (wpAny_setField_rec z6 (by simp) fun m7 y7 d7=>?_)
 have z7:IsZip m7 z ti to (rawInt m5.objs.size):=y7
 refine wpAny_setField_rec z7 (by simp) fun m8 y8 d8=>?_
 have z8:IsZip m8 z ti to (rawInt m5.objs.size):=y8
 have lift:∀c o,c≠z->m5.get? c=some o->m8.get? c=some o:=fun c o n1 e=>d8.extBut _ _ n1 (d7.extBut _ _ n1 (Heap.get?_push_of_some _ e))
 have nz:m5.objs.size≠z:=Nat.ne_of_gt (Heap.lt_size z5)
 have np:IsPair m8 m5.objs.size x y:=d8.extBut _ _ nz (d7.extBut _ _ nz (Heap.get?_push_size _ rfl))
 rw[sz] at z8 np
 refine wpAny_pure ⟨_,rfl,wpAny_pure ?_⟩
 show R (some (.ref m5.objs.size)) _
 rw[sz]
 exact hR m8 z8 (lift _ _ D.TOz o5) (p1.at fun o e=>lift _ o D.i1z e) (p2.at fun o e=>lift _ o D.i2z e) np fun c o n1 n2 n3 n4 e=>lift c o n1 (kp c o n1 n2 n3 n4 e)
theorem a4p {z ti to j1 j2 q1 q2:Addr}{k1:Nat}{xs:Array Value}{R:Option Value->Shared->Prop}(hh:A.handled=none) (D:ZipApart z ti to j1 j2 q1 q2) (g1:IsZip u.heap z ti to .none) (g2:IsPair u.heap ti (.ref j1) (.ref j2))
   (t1:u.heap.IsTupleIter j1 q1 k1) (v1:u.heap.IsTuple q1 xs) (hx:xs[k1]? = none) (hR:∀g,(∀c o,c≠z->c≠j1->u.heap.get? c=some o->g.get? c=some o)->R none { u with heap:=g }):wpAny (model prog w) A (pyNext (.ref z)) R E u:=by
 have ty:u.TypeIs (.ref z) "zip" := ⟨_,g1,rfl⟩
 unfold pyNext
 refine wpAny_bind (wpAny_attempt (wpAny_callSpecial?_slot ty F.slot_zip_next (wpAny_call_entry F.slot_zip_next ty F.entry_zip_next ?_ (F.args_zip_next_1 _))))
 show wpAny (model prog w) _ (field (.ref z) 2 >>= _) _ _ u
 refine wpAny_bind (wpAny_field g1 rfl (x:=.bool false) rfl ?_)
 show wpAny (model prog w) _ (field (.ref z) 3 >>= _) _ _ u
 refine wpAny_bind (wpAny_field g1 rfl (x:=.ref ti) rfl (wpAny_bind (wpAny_seqItems g2 rfl ?_)))
 show wpAny (model prog w) _ (Builtin.SmallTypes.ownedTupleIsFree (.ref z) >>= _) _ _ u
 refine wpAny_bind ?_
 unfold Builtin.SmallTypes.ownedTupleIsFree
 refine wpAny_bind (wpAny_field g1 rfl (x:=.none) rfl (wpAny_pure ?_))
 simp only[if_true]
 refine wpAny_bind (wpAny_rule (wpAny_bind (wpAny_field g1 rfl (x:=.ref to) rfl (wpAny_bind (wpAny_setField_rec g1 (by simp) fun m1 y1 d1=>?_)))))
 have z1:IsZip m1 z ti to .ellipsis:=y1
 refine wpAny_bind ?_
 simp only[List.zipIdx_cons,List.zipIdx_nil,List.forIn_cons,List.forIn_nil]
 refine wpAny_bind (wpAny_bind (wpAny_onRaise ?_))
 show wpAny (model prog w) _ (Builtin.SmallTypes.nextOf (.ref j1) >>= _) _ _ _
 refine wpAny_bind (a2b hh (t1.extBut d1.extBut D.i1z) (v1.extBut d1.extBut D.l1z) hx fun m2 e d2 he=>?_)
 obtain⟨oe,e1,e2⟩:=he
 have z2:IsZip m2 z ti to .ellipsis:=d2 _ _ D.i1z.symm z1
 have ne:e≠z:=fun q=>by
   subst q
   rw[z2] at e1
   cases e1
   simp at e2
 refine wpAny_setField_rec z2 (by simp) fun m3 _ d3=>?_
 refine wpAny_bind (wpAny_isInstance (T := "StopIteration") (b:=true) ⟨oe,d3.extBut _ _ ne e1,e2⟩ isSubtype_stop ?_)
 exact wpAny_pure (hR m3 fun c o n1 n3 q=>d3.extBut _ _ n1 (d2 _ _ n3 (d1.extBut _ _ n1 q)))
end
noncomputable def Ity (K:PySem.W.Frag) (l1 l2:Addr):It where
 go:=fun i H=>∃xs ys x y,SqT K H l1 xs/\SqT K H l2 ys/\xs[i]? = some x/\ys[i]? = some y
 yld:=fun i H v H'=>∃x y p,(∀xs,SqT K H l1 xs->xs[i]? = some x)/\(∀ys,SqT K H l2 ys->ys[i]? = some y)/\H p=none/\H'=upd H p (.tup [x,y])/\v=.ref p
 stop:=fun i H=>∃xs ys,SqT K H l1 xs/\SqT K H l2 ys/\xs.length<=i
theorem ur {X:Cx}{pins:List (Addr×Obj)}{σ:St}{H:Hp}{s:Shared}{l:Addr}{xs:List V}(I:Inv X pins σ H s) (h:SqT X.K H l xs) (f:FpOk X pins H l):False:=by
 rcases h with (q|⟨o,q⟩)|⟨o,its,n,q,_⟩
 . rw[f.1] at q;cases q
 . rw[f.1] at q;cases q
 . have e:=I.ok.mod.kin _ _ q
   rcases f.2.2.2.1 with z|z
   . exact I.ok.noex l o e z
   . exact absurd (Nat.lt_of_lt_of_le (Heap.lt_size e) (Nat.le_trans I.ok.bsz z)) (Nat.lt_irrefl _)
noncomputable def a6w (n l1 l2:Addr) (i:Nat) (h:Heap):Prop:=IsZip h (n+4) (n+2) (n+3) .none/\IsPair h (n+2) (.ref n) (.ref (n+1))/\(∃a b,IsPair h (n+3) a b)/\h.IsTupleIter n l1 i/\h.IsTupleIter (n+1) l2 i
theorem a3s {P:Program}{w:World}{K:PySem.W.Frag}{elts:List Expr}{x1} {pos:Pos}(n l1 l2:Addr):Turn P w K (.Tuple elts x1 pos) (Ity K l1 l2) (cq n) (n+4) (a6w n l1 l2) where
 mem:=by simp[cq]
 obj:=fun i h st b hb=>by
   obtain⟨hz,hTI,⟨a,c,hTO⟩,⟨o1,e1,c1,d1⟩,⟨o2,e2,c2,d2⟩⟩:=st
   unfold cq at hb
   simp only[List.mem_cons,List.not_mem_nil,or_false] at hb
   rcases hb with rfl|rfl|rfl|rfl|rfl
   . exact⟨_,hz,fun v z=>by cases z⟩
   . exact⟨_,hTI,fun v z=>by cases z⟩
   . exact⟨_,hTO,fun v z=>by cases z⟩
   . exact⟨o1,e1,fun v z=>by rw[d1] at z;cases z⟩
   . exact⟨o2,e2,fun v z=>by rw[d2] at z;cases z⟩
 keep:=fun i h h' st k=>by
   obtain⟨hz,hTI,⟨a,c,hTO⟩,h1,h2⟩:=st
   exact⟨k _ (by simp[cq]) _ hz,k _ (by simp[cq]) _ hTI,⟨a,c,k _ (by simp[cq]) _ hTO⟩,h1.at fun o e=>k _ (by simp[cq]) o e,h2.at fun o e=>k _ (by simp[cq]) o e⟩
 item:=by
   intro X hP hw hK hc i pins s σ H E I hf st hg
   subst hP hw hK
   obtain⟨hz,hTI,⟨a,c,hTO⟩,h1,h2⟩:=st
   obtain⟨xs,ys,x,y,q1,q2,hx,hy⟩:=hg
   obtain⟨its1,r1,L1,_⟩:=I.tuple q1
   obtain⟨its2,r2,L2,_⟩:=I.tuple q2
   obtain⟨u,hu,ru⟩:=r1.get hx
   obtain⟨v,hv,rv⟩:=r2.get hy
   have D:ZipApart (n+4) (n+2) (n+3) n (n+1) l1 l2:=nh (fun z=>ur I q1 (hf _ z)) (fun z=>ur I q2 (hf _ z))
   refine a1o D hz hTI hTO h1 h2 (show s.heap.IsTuple l1 its1.toArray from L1) (show s.heap.IsTuple l2 its2.toArray from L2) (x:=u) (y:=v) (by simpa using hu) (by simpa using hv) fun h' a1 a2 a3 a4 a5 hk=>?_
   have I1:Inv X pins σ H { s with heap:=h' }:=I.turnedL (ch:=cq n) (t':=s.toks) (fun b o hb e=>by
     unfold cq at hb
     simp only[List.mem_cons,List.not_mem_nil,or_false,not_or] at hb
     exact hk b o hb.1 hb.2.2.1 hb.2.2.2.1 hb.2.2.2.2 e) hf
   refine⟨.ref s.heap.objs.size,rfl,wpAny_letOwnedTupleGo_zip a1 fun h2' hz' hs'=>?_⟩
   have I2:Inv X pins σ H { s with heap:=h2' }:=I1.turnedL (s:={ s with heap:=h' }) (ch:=cq n) (t':=s.toks) (fun b o hb e=>by
     unfold cq at hb
     simp only[List.mem_cons,List.not_mem_nil,or_false,not_or] at hb
     exact hs'.extBut _ _ hb.1 e) hf
   have fresh:H s.heap.objs.size=none:=I.hok.fresh (Nat.le_refl _)
   have pz:s.heap.objs.size≠n+4:=Nat.ne_of_gt (Heap.lt_size hz)
   have I3:Inv X pins σ (upd H s.heap.objs.size (.tup [x,y])) { s with heap:=h2' }:=by
     refine I2.track fresh ?_ (Nat.ne_of_gt I.lt) (fun z c' e e2'=>?_) (fun p hp e2'=>?_) ?_
     . cases q:X.s₀.heap.get? s.heap.objs.size with
       | none=>rfl
       | some o=>exact absurd (Nat.lt_of_lt_of_le (Heap.lt_size q) I.sz) (Nat.lt_irrefl _)
     . obtain⟨v',q⟩:=I.cell z c' e
       exact absurd (e2' ▸ q.lt) (Nat.lt_irrefl _)
     . exact absurd (e2' ▸ Heap.lt_size (I.pin p hp).1) (Nat.lt_irrefl _)
     . exact⟨by show 2<=sizeLine;decide,[u,v],.cons ru (.cons rv .nil),⟨_,hs'.extBut _ _ pz a5,rfl,_,rfl⟩⟩
   have hpn:∀b∈cq n,b≠s.heap.objs.size:=fun b hb e=>by
     have q3:∃o,s.heap.get? b=some o:=by
       unfold cq at hb
       simp only[List.mem_cons,List.not_mem_nil,or_false] at hb
       obtain⟨o1,g1,_⟩:=h1
       obtain⟨o2,g2,_⟩:=h2
       rcases hb with rfl|rfl|rfl|rfl|rfl
       . exact⟨_,hz⟩
       . exact⟨_,hTI⟩
       . exact⟨_,hTO⟩
       . exact⟨_,g1⟩
       . exact⟨_,g2⟩
     obtain⟨o,q3⟩:=q3
     exact absurd (e ▸ Heap.lt_size q3) (Nat.lt_irrefl _)
   have hTI':IsPair h' (n+2) (.ref n) (.ref (n+1)):=hk _ _ D.TIz D.TITO D.TIi1 D.TIi2 hTI
   refine⟨.ref s.heap.objs.size,_,I3,rfl,⟨x,y,_,fun zs hz2=>by rw[I.tuple_inj hz2 q1];exact hx,fun zs hz2=>by rw[I.tuple_inj hz2 q2];exact hy,fresh,rfl,rfl⟩,⟨hz',hs'.extBut _ _ D.TIz hTI',⟨_,_,hs'.extBut _ _ D.TOz a2⟩,a3.extBut hs'.extBut D.i1z,a4.extBut hs'.extBut D.i2z⟩,fun b hb=>?_⟩
   rw[ac (hpn b hb)];exact (hf b hb).1
 done:=by
   intro X hP hw hK hc i pins s σ H E I hf st hg
   subst hP hw hK
   obtain⟨hz,hTI,⟨a,c,hTO⟩,h1,h2⟩:=st
   obtain⟨xs,ys,q1,q2,hl⟩:=hg
   obtain⟨its1,r1,L1,_⟩:=I.tuple q1
   have hlen:=r1.length
   have D:ZipApart (n+4) (n+2) (n+3) n (n+1) l1 l2:=nh (fun z=>ur I q1 (hf _ z)) (fun z=>ur I q2 (hf _ z))
   refine a4p (I.ok.hd hc) D hz hTI h1 (show s.heap.IsTuple l1 its1.toArray from L1) (by rw[List.getElem?_toArray,List.getElem?_eq_none (by omega)]) fun h' hk=>⟨rfl,I.turnedL (ch:=cq n) (t':=s.toks) (fun b o hb e=>?_) hf⟩
   unfold cq at hb
   simp only[List.mem_cons,List.not_mem_nil,or_false,not_or] at hb
   exact hk b o hb.1 hb.2.2.2.1 e
 self:=fun _ _ _ _ _ st h=>wpAny_pyIter_zip st.1 h
theorem a3e (l1 l2:Addr) (xs ys:Array Value):Meets (Builtin.«zip.__new__» ⟨[.type "zip",.ref l1,.ref l2],[]⟩) (fun _ R s=>s.heap.IsTuple l1 xs/\s.heap.IsTuple l2 ys/\
   R (.ok (.ret (.ref (s.heap.objs.size+4)))) { s with heap:=((((s.heap.push { cls:=.type "tuple_iterator",data:=.fields #[.ref l1,.int 0 0] }).push { cls:=.type "tuple_iterator",data:=.fields #[.ref l2,.int 0 0] }).push { cls:=.type "tuple",data:=.seq #[.ref s.heap.objs.size,.ref (s.heap.objs.size+1)] }).push { cls:=.type "tuple",data:=.seq #[.none,.none] }).push { cls:=.type "zip",data:=.fields #[.none,.bool false,.bool false,.ref (s.heap.objs.size+2),.ref (s.heap.objs.size+3)] } }) :=
 .of_wp fun prog w A R s h=>by
   obtain⟨m,g,d,tk,os⟩:=s
   obtain⟨a1,a2,h⟩:=h
   have sub:=sub_zip
   have b1:Heap.IsTuple (Shared.heap ⟨m,g,d,tk,os⟩) l1 xs:=a1
   have b2:Heap.IsTuple (Shared.heap ⟨m.push { cls:=.type "tuple_iterator",data:=.fields #[.ref l1,.int 0 0] },g,d,tk,os⟩) l2 ys:=by
     obtain⟨o,e,r⟩:=a2
     exact⟨o,Heap.get?_push_of_some _ e,r⟩
   have z1:(m.push { cls:=.type "tuple_iterator",data:=.fields #[.ref l1,.int 0 0] }).objs.size=m.objs.size+1:=Heap.size_push ..
   wp_walk using wpAny_pyIter_tuple b1,wpAny_pyIter_tuple b2
   refine⟨_,rfl,?_⟩
   simp only[Heap.size_push]
   exact h
section
variable {X:Cx}
noncomputable def a6k (K:PySem.W.Frag) (ta:TA):TI:=fun σ H R=>ta σ H fun vs H1=>∃l1 l2 xs ys,vs=[.ref l1,.ref l2]/\SqT K H1 l1 xs/\SqT K H1 l2 ys/\R (Ity K l1 l2) H1
theorem a76 {a b:Expr}{ta:TA}{p pos tpos:Pos}{elts:List Expr}{x1} (hg:Gl X "zip") (hm:X.mg "zip" = none) (ha:PA X [a,b] ta) (hs:starEach [a,b] X.env=[(false,eval a X.env),(false,eval b X.env)]) (hs2:starEach [b] X.env=[(false,eval b X.env)]) :
   PI X (.Tuple elts x1 tpos) (.Call (.Name "zip" p) [a,b] [] pos) (a6k X.K ta):=by
 intro pins s σ H R I h
 refine Call_ (i5 I hg hm boot_zip (PyProof.Rows.callWith_type1 (thn (ha pos pins s σ H _ I h) fun us s1 ⟨vs,H1,I1,r1,q1⟩=>?_) (by rw[hs,hs2]) (by rw[hs2];rfl)))
 obtain⟨l1,l2,xs,ys,e,q1,q2,q⟩:=q1
 subst e
 cases r1 with
 | cons r rr =>
   cases rr with
   | cons r' rr =>
     cases rr
     cases r
     cases r'
     obtain⟨its1,v1,e1,_⟩:=I1.tuple q1
     obtain⟨its2,v2,e2,_⟩:=I1.tuple q2
     have T1:s1.heap.IsTuple l1 its1.toArray:=e1
     have T2:s1.heap.IsTuple l2 its2.toArray:=e2
     refine callType_new F.called_zip (by decide) (F.typeCall_zip_2 _ _) (F.newCall_zip_2 _ _) (fun obj=>F.args_object_init_3 obj _ _) F.entry_zip_new (a3e l1 l2 its1.toArray its2.toArray) ⟨T1,T2,?_⟩
     have z1:∀(m:Heap) (o:Obj),(m.push o).objs.size=m.objs.size+1:=fun m o=>Heap.size_push ..
     have hk:∀b o,s1.heap.get? b=some o->∀o1 o2 o3 o4 o5,(((((s1.heap.push o1).push o2).push o3).push o4).push o5).get? b=some o:=fun b o e o1 o2 o3 o4 o5=>Heap.get?_push_of_some _ (Heap.get?_push_of_some _ (Heap.get?_push_of_some _ (Heap.get?_push_of_some _ (Heap.get?_push_of_some _ e))))
     have at0:∀o1 o2 o3 o4 o5:Obj,o1.isFreed=false->(((((s1.heap.push o1).push o2).push o3).push o4).push o5).get? s1.heap.objs.size=some o1:=fun o1 o2 o3 o4 o5 f=>Heap.get?_push_of_some _ (Heap.get?_push_of_some _ (Heap.get?_push_of_some _ (Heap.get?_push_of_some _ (Heap.get?_push_size _ f))))
     have at1:∀o1 o2 o3 o4 o5:Obj,o2.isFreed=false->(((((s1.heap.push o1).push o2).push o3).push o4).push o5).get? (s1.heap.objs.size+1)=some o2:=fun o1 o2 o3 o4 o5 f=>by rw[<- z1 s1.heap o1];exact Heap.get?_push_of_some _ (Heap.get?_push_of_some _ (Heap.get?_push_of_some _ (Heap.get?_push_size _ f)))
     have at2:∀o1 o2 o3 o4 o5:Obj,o3.isFreed=false->(((((s1.heap.push o1).push o2).push o3).push o4).push o5).get? (s1.heap.objs.size+2)=some o3:=fun o1 o2 o3 o4 o5 f=>by
       have e:s1.heap.objs.size+2=((s1.heap.push o1).push o2).objs.size:=by rw[z1,z1]
       rw[e];exact Heap.get?_push_of_some _ (Heap.get?_push_of_some _ (Heap.get?_push_size _ f))
     have at3:∀o1 o2 o3 o4 o5:Obj,o4.isFreed=false->(((((s1.heap.push o1).push o2).push o3).push o4).push o5).get? (s1.heap.objs.size+3)=some o4:=fun o1 o2 o3 o4 o5 f=>by
       have e:s1.heap.objs.size+3=(((s1.heap.push o1).push o2).push o3).objs.size:=by rw[z1,z1,z1]
       rw[e];exact Heap.get?_push_of_some _ (Heap.get?_push_size _ f)
     have at4:∀o1 o2 o3 o4 o5:Obj,o5.isFreed=false->(((((s1.heap.push o1).push o2).push o3).push o4).push o5).get? (s1.heap.objs.size+4)=some o5:=fun o1 o2 o3 o4 o5 f=>by
       have e:s1.heap.objs.size+4=((((s1.heap.push o1).push o2).push o3).push o4).objs.size:=by rw[z1,z1,z1,z1]
       rw[e];exact Heap.get?_push_size _ f
     have g1:=at4 { cls:=.type "tuple_iterator",data:=.fields #[.ref l1,.int 0 0] } { cls:=.type "tuple_iterator",data:=.fields #[.ref l2,.int 0 0] } { cls:=.type "tuple",data:=.seq #[.ref s1.heap.objs.size,.ref (s1.heap.objs.size+1)] } { cls:=.type "tuple",data:=.seq #[.none,.none] } { cls:=.type "zip",data:=.fields #[.none,.bool false,.bool false,.ref (s1.heap.objs.size+2),.ref (s1.heap.objs.size+3)] } rfl
     refine⟨⟨_,g1,rfl⟩,?_⟩
     refine wpAny_pyIter_zip (s:={ s1 with heap:=_ }) g1 ?_
     refine⟨s1.heap.objs.size+4,cq s1.heap.objs.size,a6w s1.heap.objs.size l1 l2,Ity X.K l1 l2,H1,rfl,I1.kept (t':=s1.toks) fun b o e=>hk b o e _ _ _ _ _,a3s _ _ _,⟨g1,at2 _ _ _ _ _ rfl,⟨_,_,at3 _ _ _ _ _ rfl⟩,⟨_,at0 _ _ _ _ _ rfl,rfl,rfl⟩,⟨_,at1 _ _ _ _ _ rfl,rfl,rfl⟩⟩,fun b hb=>?_,q⟩
     have hge:s1.heap.objs.size<=b:=by
       unfold cq at hb
       simp only[List.mem_cons,List.not_mem_nil,or_false] at hb
       rcases hb with rfl|rfl|rfl|rfl|rfl
       . exact Nat.le_add_right _ 4
       . exact Nat.le_add_right _ 2
       . exact Nat.le_add_right _ 3
       . exact Nat.le_refl _
       . exact Nat.le_add_right _ 1
     exact I1.fpOk (H':=H1) hge (I1.hok.fresh hge)
theorem a77 {a b:Expr}{ta:TA}{p pos tpos:Pos}{elts:List Expr}{x1} (hg:Gl X "zip") (hm:X.mg "zip" = none) (ha:QA X [a,b] ta) (hs:starEach [a,b] X.env=[(false,eval a X.env),(false,eval b X.env)]:=by rfl) (hs2:starEach [b] X.env=[(false,eval b X.env)]:=by rfl) :
   QI X (.Tuple elts x1 tpos) (.Call (.Name "zip" p) [a,b] [] pos) (a6k X.K ta):=⟨a76 hg hm ha.run hs hs2⟩
end
section
variable {X:Cx}
noncomputable def aad (K:PySem.W.Frag) (w:World) (td ty:TE):TE:=fun σ H Q=>td σ H fun x H1=>ty σ H1 fun y H2=>∃a kvs z v,x=.ref a/\y=.str z/\um K w a kvs/\kvs.lookup z=some v/\Q v H2
theorem a7t {K:PySem.W.Frag}{w:World}{o i:Expr}{pos:Pos}{td ty:TE}(hK:X.K=K) (hw:X.w=w) (ho:QE X o td) (hi:QE X i ty) (hs:NoSl i):QE X (.Subscript o i pos) (aad K w td ty):=by
 subst hK hw
 refine⟨fun pins s σ H Q I h=>?_⟩
 refine yc PySem.F.slot_dict_getitem.lookup hs (thn (ho.run pins s σ H _ I h) fun u s1 ⟨x,H1,I1,rx,q1⟩=>thn (hi.run pins s1 σ H1 _ I1 q1) fun iv s2 ⟨y,H2,I2,ry,a,kvs,z,v,ex,ey,hd,hv,q2⟩=>?_)
 subst ex ey
 obtain rfl:u=Value.ref a:=rx
 obtain⟨t',rfl⟩:=ry
 obtain⟨es,n,hl,hk,hno,hr⟩:=hd
 have mp2:s2.heap.MapOf (strKind X.prog X.w) a (fun k=>findBy Value.isStrOf es k):=PySem.W.mapOf_K I2.kIn hl hk
 have hz:=hr z
 rw[hv] at hz
 obtain⟨w',hw',rw'⟩:=RelO.some_of (v:=v) (o:=findBy Value.isStrOf es z) hz
 exact⟨mp2.typeIs,wpAny_getItem_of (strKind_is _ _ z t') mp2 hw' ⟨v,H2,I2.tok _,rw',q2⟩⟩
end
end L2
namespace K50
open PySem PySem.Spec L2 Mir
variable {P:Program}{w:World}{K:PySem.W.Frag}{mg:Str->Option Value}{base:Heap}{f g gS gN gA gW gI gL gF gO gT gB C fI CM CF fJ gD gE gC gM gK gH gR gU gV gP gX:Addr}{fd gd dS dN dA dW dI dL dF dO dT dB dD dE dC dM dK dH dR dU dV dP dX:FuncData}
theorem lenK {X:Cx}{K:PySem.W.Frag}(h:X.K=K):cf X (.builtin "len") (fun xs H Q=>∃p ys,xs=[.ref p]/\(SqL K H p ys\/SqT K H p ys)/\Q (.int ys.length) H):=by subst h;exact dk
theorem ixTK {X:Cx}{K:PySem.W.Frag}(h:X.K=K):IxR X (rIxT K):=by subst h;exact ay
theorem ixK {X:Cx}{K:PySem.W.Frag}(h:X.K=K):IxR X (rIxL K):=by subst h;exact dq
theorem bx {n:Nat}(h:n<=1000):n<sizeLine:=dw h
theorem bn {n:Nat}(h:n<=1000):n<=sizeLine:=Nat.le_of_lt (dw h)
theorem at0 {α:Type}{x:α}{xs:List α}:atI (x::xs) 0=some x:=ca (xs:=x::xs) (v:=x) (j:=0) rfl
noncomputable def Ok (x:Str):Prop:=(PyData.str x).canLay0=true
theorem a6d (xs:List V) (n:Nat):cutV xs (some (n:Int)) none=xs.drop n:=by
 unfold cutV
 rw[HT.sIx_nat,show HT.sIx xs.length xs.length none=xs.length from rfl]
 by_cases h:n<=xs.length
 . rw[Nat.min_eq_left h,List.take_of_length_le (by rw[List.length_drop];omega)]
 . rw[Nat.min_eq_right (by omega),List.drop_length,List.drop_eq_nil_of_le (by omega),List.take_nil]
inductive Pl
 | row (r:List Str)
 | call (x c:Str) (vs:List Str)
noncomputable def PlAt (H:Hp) (t:Addr):Pl->Prop
 | .row r=>H t=some (.tup (r.map V.str))
 | .call x c vs=>∃v,H t=some (.tup [.str "call",.str x,.str c,.ref v])/\H v=some (.tup (vs.map V.str))
theorem PlAt.same {H H':Hp}{t:Addr}{p:Pl}(h:PlAt H t p) (e:Same H H'):PlAt H' t p:=by
 cases p with
 | row r=>exact e _ _ h
 | call x c vs=>obtain⟨v,h1,h2⟩:=h;exact⟨v,e _ _ h1,e _ _ h2⟩
noncomputable def PlOk:Pl->Prop
 | .row r=>(∃h r' fs,r=h::r'/\(h,fs)∈forms/\fs.length=r'.length)/\∀y∈r,Ok y
 | .call x c vs=>Ok x/\Ok c/\∀y∈vs,Ok y
theorem ww:∀c∈Mir.letters.cps.toList++Mir.figures.cps.toList,c<128:=by decide +kernel
theorem jl {y:Str}(h:bm y=true):Ok y:=by
 have h2:y.cps.toList.all d0=true:=by
   unfold bm at h
   split at h
   . cases h
   . rw[Bool.and_eq_true] at h;exact h.2
 unfold Ok
 simp only[PyData.canLay0]
 unfold PyData.strOk
 rw[<- Array.all_toList,List.all_eq_true]
 intro c hc
 have h3:=List.all_eq_true.mp h2 c hc
 unfold d0 at h3
 rw[Bool.or_eq_true] at h3
 have:c<128:=ww c (List.mem_append.mpr (h3.imp of_decide_eq_true of_decide_eq_true))
 simp only[decide_eq_true_eq]
 omega
theorem x0:∀y∈([("set" : Str),"read","write","new","free","first","second","nil","any","","is","not","if","while","call","cell","stretch","tree"]:List Str),(PyData.str y).canLay0=true:=by decide +kernel
theorem og:∀x∈forms,x.1 ≠ "if" /\ x.1 ≠ "while" /\ x.1 ≠ "call" := by decide +kernel
theorem yf {H:Hp}{t:Addr}{p:Pl}(h:PlAt H t p) (ok:PlOk p):∃(w:Str) (vs:List V),H t=some (.tup (.str w::vs))/\w ≠ "if" /\ w ≠ "while" := by
 cases p with
 | row r=>obtain⟨⟨w,r',fs,rfl,h1,h2⟩,_⟩:=ok;exact⟨w,r'.map V.str,h,(og _ h1).1,(og _ h1).2.1⟩
 | call x c vs=>obtain⟨v,h1,h2⟩:=h;exact⟨"call",_,h1,by decide +kernel,by decide +kernel⟩
inductive Deed
 | plain (p:Pl)
 | cond (r:List Str) (a b:List Deed)
 | loop (r:List Str) (F P:List (List Str)) (a:List Deed)
inductive DeedX (K:PySem.W.Frag) (H:Hp) (L:Addr->List Deed->Prop) (t:Addr):Deed->Prop
 | plain (p:Pl) (h1:PlAt H t p) (h2:PlOk p):DeedX K H L t (.plain p)
 | cond (c i o:Addr) (r:List Str) (a b:List Deed) (h:H t=some (.tup [.str "if",.ref c,.ref i,.ref o])) (hc:H c=some (.tup (r.map V.str))) (okr:∀y∈r,Ok y) (hi:L i a) (ho:L o b):DeedX K H L t (.cond r a b)
 | loop (c td i fa pa:Addr) (r:List Str) (F P:List (List Str)) (a:List Deed) (h:H t=some (.tup [.str "while",.ref c,.ref td,.ref i])) (hc:H c=some (.tup (r.map V.str))) (okr:∀y∈r,Ok y) (htd:H td=some (.tup [.ref fa,.ref pa])) (hF:RowsAt K H fa F) (hP:RowsAt K H pa P) (okF:∀r∈F,∀y∈r,Ok y) (okP:∀r∈P,∀y∈r,Ok y) (lF:F.length<=10) (lP:P.length<=10) (hi:L i a):DeedX K H L t (.loop r F P a)
noncomputable def ListX (K:PySem.W.Frag) (H:Hp):List Nat->Addr->List Deed->Prop
 | [],_,_=>False
 | b::bs,l,ds=>∃ts:List Addr,H l=some (.lst (ts.map V.ref))/\Paired (DeedX K H (ListX K H bs)) ts ds/\ts.length<=b
section
variable {K:PySem.W.Frag}{H H':Hp}
theorem DeedX.same {L L':Addr->List Deed->Prop}{t:Addr}{d:Deed}(h:DeedX K H L t d) (e:Same H H') (hL:∀l ds,L l ds->L' l ds):DeedX K H' L' t d:=by
 cases h with
 | plain p h1 h2=>exact .plain p (h1.same e) h2
 | cond c i o r a b h hc okr hi ho=>exact .cond c i o r a b (e _ _ h) (e _ _ hc) okr (hL _ _ hi) (hL _ _ ho)
 | loop c td i fa pa r F P a h hc okr htd hF hP okF okP lF lP hi=>exact .loop c td i fa pa r F P a (e _ _ h) (e _ _ hc) okr (e _ _ htd) (hF.same e) (hP.same e) okF okP lF lP (hL _ _ hi)
theorem ListX.same:∀{bs:List Nat}{l:Addr}{ds:List Deed},ListX K H bs l ds->Same H H'->ListX K H' bs l ds
 | [],_,_,h,_=>h.elim
 | b::bs,l,ds,h,e=>by
   obtain⟨ts,h1,h2,h3⟩:=h
   exact⟨ts,e _ _ h1,Paired.mapP h2 fun _ _ z=>z.same e fun _ _ y=>ListX.same y e,h3⟩
structure Prc where
 name:Str
 res:Str
 ps:List Str
 F1:List (List Str)
 P1:List (List Str)
 F2:List (List Str)
 P2:List (List Str)
 body:List Deed
structure PrcX (K:PySem.W.Frag) (H:Hp) (bs:List Nat) (t pt t1 t2 f1 p1 f2 p2 bd:Addr) (p:Prc):Prop where
 tup:H t=some (.tup [.str p.name,.ref pt,.str p.res,.ref t1,.ref t2,.ref bd])
 pt:H pt=some (.tup (p.ps.map V.str))
 t1:H t1=some (.tup [.ref f1,.ref p1])
 t2:H t2=some (.tup [.ref f2,.ref p2])
 f1:RowsAt K H f1 p.F1
 p1:RowsAt K H p1 p.P1
 f2:RowsAt K H f2 p.F2
 p2:RowsAt K H p2 p.P2
 body:ListX K H bs bd p.body
 okn:Ok p.name
 okr:Ok p.res
 okp:∀y∈p.ps,Ok y
 ok1:(∀r∈p.F1,∀y∈r,Ok y)/\∀r∈p.P1,∀y∈r,Ok y
 ok2:(∀r∈p.F2,∀y∈r,Ok y)/\∀r∈p.P2,∀y∈r,Ok y
 l1:p.F1.length<=10/\p.P1.length<=10
 l2:p.F2.length<=10/\p.P2.length<=10
noncomputable def PrcAt (K:PySem.W.Frag) (H:Hp) (bs:List Nat) (t:Addr) (p:Prc):Prop:=∃pt t1 t2 f1 p1 f2 p2 bd,PrcX K H bs t pt t1 t2 f1 p1 f2 p2 bd p
theorem PrcAt.same {bs:List Nat}{t:Addr}{p:Prc}(h:PrcAt K H bs t p) (e:Same H H'):PrcAt K H' bs t p:=by
 obtain⟨pt,t1,t2,f1,p1,f2,p2,bd,x⟩:=h
 exact⟨pt,t1,t2,f1,p1,f2,p2,bd,e _ _ x.tup,e _ _ x.pt,e _ _ x.t1,e _ _ x.t2,x.f1.same e,x.p1.same e,x.f2.same e,x.p2.same e,x.body.same e,x.okn,x.okr,x.okp,x.ok1,x.ok2,x.l1,x.l2⟩
end
noncomputable def innL:Deed->List (List Deed)
 | .plain _=>[]
 | .cond _ a b=>[a,b]
 | .loop _ _ _ a=>[a]
inductive spLists (vs:List V) (H:Hp) (Q:VK) (E:XK):Prop
 | cond (t i o:Addr) (c:V) (h0:vs=[.ref t]) (h:H t=some (.tup [.str "if",c,.ref i,.ref o])) (q:∀l,H l=none->Q (.ref l) (upd H l (.lst [.ref i,.ref o])))
 | loop (t i:Addr) (c d:V) (h0:vs=[.ref t]) (h:H t=some (.tup [.str "while",c,d,.ref i])) (q:∀l,H l=none->Q (.ref l) (upd H l (.lst [.ref i])))
 | none (t:Addr) (w:Str) (vs':List V) (h0:vs=[.ref t]) (h:H t=some (.tup (.str w::vs'))) (n1:w ≠ "if") (n2:w ≠ "while") (q:∀l,H l=none->Q (.ref l) (upd H l (.lst [])))
theorem a5m {K:PySem.W.Frag}{bs:List Nat}{H H0:Hp}{t:Addr}{d:Deed}{vs:List V}{Q:VK}{E:XK}(h:DeedX K H0 (ListX K H0 bs) t d) (e:Same H0 H) (h0:vs=[.ref t]) (q:∀l as,H l=none->Paired (ListX K H0 bs) as (innL d)->Q (.ref l) (upd H l (.lst (as.map V.ref)))):spLists vs H Q E:=by
 cases h with
 | plain p h1 h2 =>
   obtain⟨w,vs',hw,n1,n2⟩:=yf h1 h2
   exact .none t w vs' h0 (e _ _ hw) n1 n2 fun l hl=>q l [] hl .nil
 | cond c i o r a b h hc okr hi ho=>exact .cond t i o _ h0 (e _ _ h) fun l hl=>q l [i,o] hl (.cons hi (.cons ho .nil))
 | loop c td i fa pa r F P a h hc okr htd hF hP okF okP lF lP hi=>exact .loop t i _ _ h0 (e _ _ h) fun l hl=>q l [i] hl (.cons hi .nil)
end K50
namespace L2
open PySem PySem.Spec
noncomputable def zipF (p:Str->Bool) (as bs:List Str):List Str:=((as.zip bs).filter fun x=>p x.1).map (·.2)
theorem a3q {K:PySem.W.Frag}{l1 l2:Addr}{H1:Hp}{σ:St}{ix:List Nat}{tc:TT}{te:TE}{Q:VK}(as bs:List Str) (p:Str->Bool) (h1:SqT K H1 l1 (as.map V.str)) (h2:SqT K H1 l2 (bs.map V.str)) (hl:as.length=bs.length) (hz:as.length<=1000)
   (ht:∀a b H2,∀Q':Bool->Hp->Prop,Q' (p a) H2->tc (some (.str a)::some (.str b)::bo σ ix) H2 Q')
   (he:∀a b H2,∀Q':VK,Q' (.str b) H2->te (some (.str a)::some (.str b)::bo σ ix) H2 Q')
   (hQ:∀D H',H1 D=none->Same H1 H'->H' D=some (.lst ((zipF p as bs).map V.str))->Q (.ref D) H'):xy K (Ity K l1 l2) H1 σ ix tc te Q:=by
 intro D hD
 have put:∀H ys,Same H1 H->Same H1 (upd H D (.lst ys)):=fun H ys e b u q=>by rw[ac (ai q hD)];exact e b u q
 have zl:(as.zip bs).length=as.length:=by rw[List.length_zip,<- hl,Nat.min_self]
 refine⟨fun i m H=>i<=as.length/\m=as.length - i/\Same H1 H/\H D=some (.lst (((((as.zip bs).take i).filter fun x=>p x.1).map (·.2)).map V.str)),⟨as.length,Nat.zero_le _,rfl,put _ _ (Same.refl _),a0⟩,?_⟩
 rintro i m H ⟨hi,rfl,e,hD'⟩
 by_cases hlt:i<as.length
 . have ha:as[i]? = some as[i]:=List.getElem?_eq_getElem hlt
   have hb:bs[i]? = some (bs[i]'(by omega)):=List.getElem?_eq_getElem (by omega)
   generalize as[i]=a at ha
   generalize bs[i]'(by omega)=b at hb
   refine .inr ⟨⟨_,_,.str a,.str b,e.seqT h1,e.seqT h2,by rw[List.getElem?_map,ha];rfl,by rw[List.getElem?_map,hb];rfl⟩,fun x H' hy=>?_⟩
   obtain⟨x',y',p',g1,g2,g3,rfl,rfl⟩:=hy
   have g1':=g1 _ (e.seqT h1)
   have g2':=g2 _ (e.seqT h2)
   rw[List.getElem?_map,ha] at g1'
   rw[List.getElem?_map,hb] at g2'
   cases g1'
   cases g2'
   have s1:=ad g3 (.tup [V.str a,V.str b])
   have hzi:(as.zip bs)[i]? = some (a,b):=by rw[List.getElem?_zip_eq_some];exact⟨ha,hb⟩
   refine⟨p',_,_,rfl,SqT.of a0,ht a b _ _ ?_⟩
   have hD2:=s1 _ _ hD'
   cases c:p a with
   | true =>
     rw[if_pos rfl]
     refine he a b _ _ ⟨_,hD2,Nat.lt_of_le_of_lt ?_ (show 1000<sizeLine by decide),as.length - (i+1),by omega,hlt,rfl,put _ _ (e.trans s1),?_⟩
     . rw[List.length_map,List.length_map]
       have:=List.length_filter_le (fun x:Str×Str=>p x.1) ((as.zip bs).take i)
       rw[List.length_take] at this
       omega
     . rw[a0,List.take_add_one,hzi,List.filter_append,List.map_append,List.map_append]
       show _=some (HO.lst (_++((([(a,b)].filter fun x:Str×Str=>p x.1).map (·.2)).map V.str)))
       rw[List.filter_cons_of_pos (by exact c)];rfl
   | false =>
     rw[if_neg Bool.false_ne_true]
     refine⟨as.length - (i+1),by omega,hlt,rfl,e.trans s1,?_⟩
     rw[hD2,List.take_add_one,hzi,List.filter_append]
     show _=some (HO.lst (((_++([(a,b)].filter fun x:Str×Str=>p x.1)).map (·.2)).map V.str))
     rw[List.filter_cons_of_neg (by simp[c])];simp
 . have ei:i=as.length:=by omega
   subst ei
   have htk:(as.zip bs).take as.length=as.zip bs:=List.take_of_length_le (by rw[zl];exact Nat.le_refl _)
   rw[htk] at hD'
   exact .inl ⟨⟨_,_,e.seqT h1,e.seqT h2,by rw[List.length_map];exact Nat.le_refl _⟩,hQ D H hD e hD'⟩
theorem mo {α β:Type}{l:List α}{g:α->List β}{i:Nat}{x:α}(h:l[i]? = some x):(l.take (i+1)).flatMap g=(l.take i).flatMap g++g x:=by
 rw[List.take_add_one,h,List.flatMap_append];simp
theorem aaj {α β:Type}(l:List α) (g:α->List β) (i:Nat):((l.take i).flatMap g).length<=(l.flatMap g).length:=by
 have:l.flatMap g=(l.take i).flatMap g++(l.drop i).flatMap g:=by rw[<- List.flatMap_append,List.take_append_drop]
 rw[this,List.length_append];exact Nat.le_add_right _ _
theorem a2e {α β:Type}{l:List α}{g:α->List β}{i:Nat}{x:α}(h:l[i]? = some x):((l.take i).flatMap g).length+(g x).length<=(l.flatMap g).length:=by
 have:=aaj l g (i+1)
 rw[mo h,List.length_append] at this
 exact this
end L2
namespace K50
open PySem PySem.Spec L2 Mir
variable {P:Program}{w:World}{K:PySem.W.Frag}{mg:Str->Option Value}{base:Heap}{f g gS gN gA gW gI gL gF gO gT gB C fI CM CF fJ gD gE gC gM gK gH gR gU gV gP gX:Addr}{fd gd dS dN dA dW dI dL dF dO dT dB dD dE dC dM dK dH dR dU dV dP dX:FuncData}
noncomputable abbrev o8:Stmt:=top 15
noncomputable abbrev sAll:Stmt:=top 19
noncomputable abbrev w9:Stmt:=top 20
abbrev DeedS (K:PySem.W.Frag) (H:Hp) (t:Addr) (d:Deed):Prop:=DeedX K H (fun _ _=>True) t d
theorem DeedS.same {K:PySem.W.Frag}{H H':Hp}{t:Addr}{d:Deed}(h:DeedS K H t d) (e:Same H H'):DeedS K H' t d:=DeedX.same h e fun _ _ z=>z
noncomputable def allD (f:List Deed->List Deed) (d:Deed):List Deed:=d::(innL d).flatMap f
noncomputable def allL:List Nat->List Deed->List Deed
 | [],_=>[]
 | _::bs,ds=>ds.flatMap (allD (allL bs))
inductive spAll (K:PySem.W.Frag) (bs:List Nat) (vs:List V) (H:Hp) (Q:VK) (E:XK):Prop
 | mk (G:Hp) (l:Addr) (ds:List Deed) (h0:vs=[.ref l]) (e:Same G H) (h1:ListX K G bs l ds) (h4:(allL bs ds).length<=100)
     (q:∀fo us H',Same H H'->H fo=none->H' fo=some (.lst (us.map V.ref))->Paired (DeedS K G) us (allL bs ds)->Q (.ref fo) H'):spAll K bs vs H Q E
inductive AI (K:PySem.W.Frag) (bs:List Nat) (G H:Hp) (l fo:Addr) (ds:List Deed) (i:Nat) (σ:St) (H2:Hp):Prop
 | mk (us:List Addr) (z2 z3:Option V) (e:Same H H2) (hf:H2 fo=some (.lst (us.map V.ref))) (hp:Paired (DeedS K G) us ((ds.take i).flatMap (allD (allL bs)))) (hσ:σ=[some (.ref l),some (.ref fo),z2,z3])
inductive AJ (K:PySem.W.Frag) (bs:List Nat) (G H:Hp) (l fo ll:Addr) (as:List Addr) (pre:List Deed) (is:List (List Deed)) (v2:V) (j:Nat) (σ:St) (H2:Hp):Prop
 | mk (us:List Addr) (z3:Option V) (e:Same H H2) (hl:H2 ll=some (.lst (as.map V.ref))) (hf:H2 fo=some (.lst (us.map V.ref))) (hp:Paired (DeedS K G) us (pre++(is.take j).flatMap (allL bs))) (hσ:σ=[some (.ref l),some (.ref fo),some v2,z3])
theorem scListsIn:FnScope ["deed"] ["deed"] (ao o8):=⟨rfl,rfl,rfl,by decide +kernel,rfl,by decide +kernel,by decide +kernel⟩
theorem a0d (C:Con K mg w) (F:Fun K "lists_in" "lists_in" o8 f fd):FnOk P w K mg base CX0 1 f fd ["deed"] spLists:=by
 refine F.okQ scListsIn (fun vs H Q E h=>?_) (fun cdv A outer s0 H vs Q E hr h=>?_)
 . rcases h with⟨_,_,_,_,rfl,_⟩|⟨_,_,_,_,rfl,_⟩|⟨_,_,_,rfl,_⟩<;>rfl
 have nd:=scListsIn.nd
 rcases h with⟨t,i,o,c,rfl,h,q⟩|⟨t,i,c,d,rfl,h,q⟩|⟨t,w',vs',rfl,h,n1,n2,q⟩
 . refine⟨_,ae (b6 (ar be (ah ay (qv 0) ab (fun _ _=>rfl)) b0 (ax _)) (ag (av (bc (aw (ah ay (qv 0) ab (fun _ _=>rfl)) (aw (ah ay (qv 0) ab (fun _ _=>rfl)) aa))))) b9)
   (ag (av (gf (ar be (ah ay (qv 0) ab (fun _ _=>rfl)) b0 (ax _)) (bc (aw (ah ay (qv 0) ab (fun _ _=>rfl)) aa)) (bc aa)))),?_⟩
   refine⟨_,rfl,t,_,0,_,rfl,rfl,SqT.of h,rfl,rfl,_,rfl,iteB (fun _=>?_) (fun c=>absurd c (by decide +kernel))⟩
   exact⟨_,rfl,t,_,2,_,rfl,rfl,SqT.of h,rfl,_,rfl,t,_,3,_,rfl,rfl,SqT.of h,rfl,(show 2<=sizeLine by decide),q⟩
 . refine⟨_,ae (b6 (ar be (ah ay (qv 0) ab (fun _ _=>rfl)) b0 (ax _)) (ag (av (bc (aw (ah ay (qv 0) ab (fun _ _=>rfl)) (aw (ah ay (qv 0) ab (fun _ _=>rfl)) aa))))) b9)
   (ag (av (gf (ar be (ah ay (qv 0) ab (fun _ _=>rfl)) b0 (ax _)) (bc (aw (ah ay (qv 0) ab (fun _ _=>rfl)) aa)) (bc aa)))),?_⟩
   refine⟨_,rfl,t,_,0,_,rfl,rfl,SqT.of h,rfl,rfl,_,rfl,iteB (fun c=>absurd c (by decide +kernel)) (fun _=>?_)⟩
   refine⟨_,rfl,t,_,0,_,rfl,rfl,SqT.of h,rfl,rfl,_,rfl,iteB (fun _=>?_) (fun c=>absurd c (by decide +kernel))⟩
   exact⟨_,rfl,t,_,3,_,rfl,rfl,SqT.of h,rfl,(show 1<=sizeLine by decide),q⟩
 . refine⟨_,ae (b6 (ar be (ah ay (qv 0) ab (fun _ _=>rfl)) b0 (ax _)) (ag (av (bc (aw (ah ay (qv 0) ab (fun _ _=>rfl)) (aw (ah ay (qv 0) ab (fun _ _=>rfl)) aa))))) b9)
   (ag (av (gf (ar be (ah ay (qv 0) ab (fun _ _=>rfl)) b0 (ax _)) (bc (aw (ah ay (qv 0) ab (fun _ _=>rfl)) aa)) (bc aa)))),?_⟩
   refine⟨_,rfl,t,_,0,_,rfl,rfl,SqT.of h,at0,rfl,_,rfl,iteB (fun c=>absurd (V.str.inj (of_decide_eq_true c)) n1) (fun _=>?_)⟩
   refine⟨_,rfl,t,_,0,_,rfl,rfl,SqT.of h,at0,rfl,_,rfl,iteB (fun c=>absurd (V.str.inj (of_decide_eq_true c)) n2) (fun _=>?_)⟩
   exact⟨Nat.zero_le _,q⟩
theorem scAll:FnScope ["deeds","found","deed","inner"] ["deeds"] (ao sAll):=⟨rfl,rfl,rfl,by decide +kernel,rfl,by decide +kernel,by decide +kernel⟩
theorem a7s:FnOk P w K mg base CX0 1 f fd ["deeds"] (spAll K []) :=
 ⟨fun vs H Q E h=>by obtain⟨G,l,ds,_,_,h1,_⟩:=h;exact h1.elim,fun A outer s H args us vs Q E _ _ _ _ h=>by obtain⟨G,l,ds,_,_,h1,_⟩:=h;exact h1.elim⟩
theorem a88 {n b:Nat}{bs:List Nat}(C:Con K mg w) (F:Fun K "all_deeds" "all_deeds" sAll f fd) (GS:FnOk P w K mg base CX0 1 gS dS ["deed"] spLists) (cS:Cal K mg "lists_in" gS dS ["deed"]) (GR:FnOk P w K mg base CX0 (n+1) f fd ["deeds"] (spAll K bs)) (cR:Cal K mg "all_deeds" f fd ["deeds"]):FnOk P w K mg base CX0 (n+1+1) f fd ["deeds"] (spAll K (b::bs)):=by
 refine F.okQ scAll (fun vs H Q E h=>?_) (fun cdv A outer s0 H vs Q E hr h=>?_)
 . obtain⟨G,l,ds,rfl,_⟩:=h;rfl
 obtain⟨G,l,ds,rfl,eG,hLX,hcnt,q⟩:=h
 obtain⟨ts,hl',hp,htl⟩:=hLX
 have hl:=eG _ _ hl'
 have nd:=scAll.nd
 have hr1:=hr.mono (j:=1) (by omega)
 refine⟨_,ae (aq (i:=1) nd rfl (Or.inl rfl) (bc aa))
   (ae (de PassesOwn.never rfl (fq (qv 0)) (bq (i:=2) nd rfl (Or.inl rfl)) (ae (dg (gk (K:=K) rfl PySem.F.plainAttrs_list PySem.F.slot_list_append PySem.F.type_list_append i4 (qv 1) (af (qv 2) aa)))
   (ag (de PassesOwn.never rfl (fq (ak GS hr1 rfl cS.name cS.keep cS.bind .nil am (af (qv 2) aa))) (bq (i:=3) nd rfl (Or.inl rfl)) (ag (dg (gk (K:=K) rfl PySem.F.plainAttrs_list PySem.F.slot_list_extend PySem.F.type_list_extend lg (qv 1) (az (ak GR hr rfl cR.name cR.keep cR.bind .nil am (af (qv 3) aa)) aa))))))))
   (ag (av (qv 1)))),?_⟩
 have hpl:=Paired.length hp
 have hcnt':(ds.flatMap (allD (allL bs))).length<=100:=hcnt
 refine⟨Nat.zero_le _,fun fo hfo=>?_⟩
 have s1:=ad hfo (.lst [])
 have k1:(upd H fo (.lst [])) fo=some (.lst []):=a0
 generalize upd H fo (.lst [])=H1 at s1 k1 |-
 dsimp only[bi]
 refine au (a:=tFor _ _ _) fun D1 hN1 hR1 hC1=>?_
 refine⟨_,rfl,l,rfl,⟨_,SqL.of (s1 _ _ hl)⟩,?_⟩
 refine gv (xs:=ts.map V.ref) (AI K bs G H l fo ds) ⟨[],none,none,s1,k1,.nil,rfl⟩ (fun i σ H' _ z=>by obtain⟨us,_,_,e,_⟩:=z;exact SqL.of (e _ _ hl)) ?_ ?_
 . rintro i x σ H2 hx ⟨us,z2,z3,e,hf,hpp,rfl⟩
   rw[List.getElem?_map] at hx
   obtain⟨t,ht,rfl⟩:=Option.map_eq_some_iff.mp hx
   obtain⟨d,hd,hX⟩:=Paired.nth hp ht
   have hsz:=a2e (g:=allD (allL bs)) hd
   have htk:=mo (g:=allD (allL bs)) hd
   have hdF:allD (allL bs) d=d::(innL d).flatMap (allL bs):=rfl
   rw[hdF,List.length_cons] at hsz
   have hul:=Paired.length hpp
   refine⟨_,rfl,(.inl ⟨rfl,_,SqL.of hf⟩),_,rfl,fo,_,_,rfl,rfl,hf,bx (by rw[List.length_map,hul];omega),?_⟩
   have k3:(upd H2 fo (.lst (us.map V.ref++[.ref t]))) fo=some (.lst ((us++[t]).map V.ref)):=by rw[a0,List.map_append];rfl
   have e3:Same H (upd H2 fo (.lst (us.map V.ref++[.ref t]))):=fun b o z=>by rw[ac (ai z hfo)];exact e _ _ z
   have hp3:Paired (DeedS K G) (us++[t]) ((ds.take i).flatMap (allD (allL bs))++[d]):=Paired.snocP hpp (DeedX.same hX (Same.refl _) fun _ _ _=>trivial)
   generalize upd H2 fo (.lst (us.map V.ref++[.ref t]))=H3 at k3 e3 |-
   generalize us++[t]=us3 at k3 hp3
   dsimp only[bi]
   refine⟨_,rfl,a5m hX (eG.trans e3) rfl fun ll as hll hin=>?_⟩
   have s4:=ad hll (.lst (as.map V.ref))
   have k4:(upd H3 ll (.lst (as.map V.ref))) ll=some (.lst (as.map V.ref)):=a0
   have nll:ll≠fo:=(ai k3 hll).symm
   generalize upd H3 ll (.lst (as.map V.ref))=H4 at s4 k4 |-
   refine⟨ll,rfl,⟨_,SqL.of k4⟩,?_⟩
   refine gv (xs:=as.map V.ref) (AJ K bs G H l fo ll as ((ds.take i).flatMap (allD (allL bs))++[d]) (innL d) (.ref t)) ⟨us3,z3,e3.trans s4,k4,s4 _ _ k3,(by simpa using hp3),rfl⟩ (fun j σ H' _ z=>by obtain⟨_,_,_,h,_⟩:=z;exact SqL.of h) ?_ ?_
   . rintro j x σ H5 hx5 ⟨us5,y3,e5,hl5,hf5,hp5,rfl⟩
     rw[List.getElem?_map] at hx5
     obtain⟨c,hc,rfl⟩:=Option.map_eq_some_iff.mp hx5
     obtain⟨a,ha,hLa⟩:=Paired.nth hin hc
     have hszj:=a2e (g:=allL bs) ha
     have hul5:=Paired.length hp5
     rw[List.length_append,List.length_append] at hul5
     have h1:[d].length=1:=rfl
     refine⟨_,rfl,(.inl ⟨rfl,_,SqL.of hf5⟩),_,rfl,G,c,a,rfl,eG.trans e5,hLa,(by omega),fun fo' us' H6 e6 _ k6 hp6=>?_⟩
     have hul6:=Paired.length hp6
     have hf6:=e6 _ _ hf5
     refine⟨fo,fo',_,_,rfl,rfl,hf6,k6,bn (by rw[List.length_map,List.length_map,hul5,hul6];omega),?_⟩
     refine⟨us5++us',_,fun b o z=>by rw[ac (ai z hfo)];exact e6 _ _ (e5 _ _ z),by rw[ac nll];exact e6 _ _ hl5,by rw[a0,List.map_append],?_,rfl⟩
     rw[mo (g:=allL bs) ha,<- List.append_assoc]
     exact Paired.app hp5 hp6
   . rintro σ H5 ⟨us5,y3,e5,hl5,hf5,hp5,rfl⟩
     refine⟨us5,_,_,e5,hf5,?_,rfl⟩
     have:(innL d).take (as.map V.ref).length=innL d:=List.take_of_length_le (by rw[List.length_map,Paired.length hin];exact Nat.le_refl _)
     rw[this] at hp5
     rw[htk,hdF,<- List.singleton_append,<- List.append_assoc]
     exact hp5
 rintro σ H2 ⟨us,z2,z3,e,hf,hpp,rfl⟩
 have:ds.take (ts.map V.ref).length=ds:=List.take_of_length_le (by rw[List.length_map,hpl];exact Nat.le_refl _)
 rw[this] at hpp
 exact hN1 _ _ ⟨_,rfl,q fo us H2 e hfo hf hpp⟩
noncomputable abbrev om:Stmt:=top 21
noncomputable abbrev o7:Stmt:=top 22
noncomputable def io (x:Str):Bool := !decide (V.str x=V.str "field")
noncomputable def ef (h:Str) (r:List Str):List Str:=match forms.lookup h with
 | some fs=>zipF io fs r
 | none=>[]
noncomputable def wrdP:Pl->List Str
 | .row (h::r)=>ef h r
 | .row []=>[]
 | .call x _ vs=>x::vs
noncomputable def wrd:Deed->List Str
 | .plain p=>wrdP p
 | .cond r _ _=>r.drop 1
 | .loop r F P _=>r.drop 1++words (F++P)
structure TOk (xs:List Str) (F P:List (List Str)):Prop where
 f:j0 F
 p:j0 P
 ne:∀r∈F++P,r≠[]
 sub:∀y∈words (F++P),y∈xs
structure ROk (r:List Str):Prop where
 len:r.length=3
 sh:∀y∈r,Short y
noncomputable def DOk (xs:List Str):Deed->Prop
 | .plain (.row r)=>∀y∈r,Short y
 | .plain (.call x c vs)=>Short x/\vs.length<=8/\∀y∈vs,Short y
 | .cond r _ _=>ROk r
 | .loop r F P _=>ROk r/\TOk xs F P
theorem TOk.few {xs:List Str}{F P:List (List Str)}(h:TOk xs F P) (hx:xs.length<=20) {ss:List Str}(hn:ss.Nodup) (hs:∀y∈ss,y∈words (F++P)):ss.length<=20:=Nat.le_trans (List.Nodup.length_le_of_subset hn fun y hy=>h.sub y (hs y hy)) hx
theorem nr:∀{rs:List (List Str)}{y:Str},(∀r∈rs,∀x∈r,Short x)->y∈words rs->Short y:=fun {rs y} h hy=>by
 unfold words at hy
 obtain⟨l,hl,hy⟩:=List.mem_flatten.mp hy
 obtain⟨r,hr,rfl⟩:=List.mem_map.mp hl
 exact h r hr y (List.mem_of_mem_drop (List.mem_filter.mp hy).1)
inductive spWords (K:PySem.W.Frag) (vs:List V) (H:Hp) (Q:VK) (E:XK):Prop
 | mk (t:Addr) (d:Deed) (xs:List Str) (h0:vs=[.ref t]) (h1:DeedS K H t d) (h2:DOk xs d) (h3:xs.length<=20)
     (q:∀(l:Addr) (ws:List Str) (H':Hp),Same H H'->H' l=some (.lst (ws.map V.str))->(∀y,y∈ws↔y∈wrd d)->ws.length<=30->Q (.ref l) H'):spWords K vs H Q E
theorem fh:(forms.map (·.1)).Nodup:=by decide +kernel
theorem a2n:∀x∈forms,x.2.length<=3:=by decide +kernel
theorem ee {β:Type}:∀{l:List (Str×β)}{h:Str}{b:β},(l.map (·.1)).Nodup->(h,b)∈l->l.lookup h=some b
 | [],_,_,_,hm=>by cases hm
 | (k,c)::l,h,b,hn,hm=>by
   rw[List.map_cons,List.nodup_cons] at hn
   by_cases e:h=k
   . subst e
     rcases List.mem_cons.mp hm with z|z
     . cases z;rw[List.lookup_cons_self]
     . exact absurd (List.mem_map.mpr ⟨_,z,rfl⟩) hn.1
   . rcases List.mem_cons.mp hm with z|z
     . cases z;exact absurd rfl e
     . rw[List.lookup_cons]
       have:(h == k)=false:=beq_false_of_ne e
       rw[this];exact ee hn.2 z
theorem a5g (p:Str->Bool) (as bs:List Str):(zipF p as bs).length<=as.length:=by
 unfold zipF
 rw[List.length_map]
 have:=List.length_filter_le (fun x:Str×Str=>p x.1) (as.zip bs)
 rw[List.length_zip] at this
 omega
theorem scWords:FnScope ["deed"] ["deed"] (ao w9):=⟨rfl,rfl,rfl,by decide +kernel,rfl,by decide +kernel,by decide +kernel⟩
theorem xu (C:Con K mg w) (F:Fun K "words_of" "words_of" w9 f fd) (GN:FnOk P w K mg base CX0 1 gN dN ["telling"] (rq K)) (cN:Cal K mg "names_of" gN dN ["telling"]):FnOk P w K mg base CX0 2 f fd ["deed"] (spWords K):=by
 refine F.okQ scWords (fun vs H Q E h=>?_) (fun cdv A outer s0 H vs Q E hr h=>?_)
 . obtain⟨t,d,xs,rfl,_⟩:=h;rfl
 obtain⟨t,d,xs,rfl,hX,hok,hxs,q⟩:=h
 have nd:=scWords.nd
 obtain⟨aF,tsF,gF,kF,nF,rF⟩:=C.forms
 refine⟨_,ae (b6 (ar be (ah ay (qv 0) ab (fun _ _=>rfl)) b0 (ax _)) (ag (av (ap g6 (bc (aw (ah ay (qv 0) ab (fun _ _=>rfl)) aa)) (b7 cv rfl C.list PyProof.Rows.boot_list (aw (ah ay (qv 0) ab (fun _ _=>rfl)) aa))))) b9)
   (ae (b6 (ar be (ah ay (qv 0) ab (fun _ _=>rfl)) b0 (ax _)) (ag (av (b7 cv rfl C.list PyProof.Rows.boot_list (aw (bz ig (ah ay (qv 0) ab (fun _ _=>rfl)) (cb ab) cy) aa)))) b9)
   (ae (b6 (ar be (ah ay (qv 0) ab (fun _ _=>rfl)) b0 (ax _)) (ag (av (ap g6 (b7 cv rfl C.list PyProof.Rows.boot_list (aw (bz ig (ah ay (qv 0) ab (fun _ _=>rfl)) (cb ab) cy) aa)) (ak GN hr rfl cN.name cN.keep cN.bind .nil am (aw (ah ay (qv 0) ab (fun _ _=>rfl)) aa))))) b9)
   (ag (av (a3p (K:=K) rfl ["sort","word"] [] (a77 rfl C.zip (aw (a7t (K:=K) (w:=w) rfl rfl (qe_g gF) (ah ay (qv 0) ab (fun _ _=>rfl)) (fun _ _=>rfl)) (aw (bz ig (qv 0) (cb ab) cy) aa))) (fun _ _ _ _=>(mn (ar mx (qv 0) b0 (ax _)))) (fun _ _ _ _=>(qv 1))))))),?_⟩
 cases hX with
 | plain p h1 h2 =>
   cases p with
   | call x c vs =>
     obtain⟨v,hv1,hv2⟩:=h1
     obtain⟨ox,ol,ov⟩:=hok
     refine⟨_,rfl,t,_,0,_,rfl,rfl,SqT.of hv1,rfl,rfl,_,rfl,iteB (fun _=>?_) (fun c=>absurd c (by decide +kernel))⟩
     refine⟨_,rfl,t,_,1,_,rfl,rfl,SqT.of hv1,rfl,(show 1<=sizeLine by decide),fun l1 hl1=>?_⟩
     have s1:=ad hl1 (.lst [.str x])
     have k1:(upd H l1 (.lst [.str x])) l1=some (.lst [.str x]):=a0
     generalize upd H l1 (.lst [.str x])=H1 at s1 k1 |-
     refine⟨_,rfl,t,_,3,_,rfl,rfl,SqT.of (s1 _ _ hv1),rfl,v,_,rfl,.inr (SqT.of (s1 _ _ hv2)),fun l2 hl2=>?_⟩
     have s2:=ad hl2 (.lst (vs.map V.str))
     refine⟨l1,l2,_,_,rfl,rfl,s2 _ _ k1,a0,bn (by rw[List.length_map];show 1+_<=1000;omega),fun l3 hl3=>?_⟩
     have s3:=ad hl3 (.lst ([V.str x]++vs.map V.str))
     exact q l3 (x::vs) _ ((s1.trans s2).trans s3) a0 (fun y=>Iff.rfl) (by rw[List.length_cons];omega)
   | row r =>
     obtain⟨⟨h,r',fs,rfl,hf,hl⟩,okr⟩:=h2
     have h1':H t=some (.tup (.str h::r'.map V.str)):=h1
     obtain⟨n1,n2,n3⟩:=og _ hf
     have hf3:fs.length<=3:=a2n _ hf
     refine⟨_,rfl,t,_,0,_,rfl,rfl,SqT.of h1',at0,rfl,_,rfl,iteB (fun c=>absurd (V.str.inj (of_decide_eq_true c)) n3) (fun _=>?_)⟩
     refine⟨_,rfl,t,_,0,_,rfl,rfl,SqT.of h1',at0,rfl,_,rfl,iteB (fun c=>absurd (V.str.inj (of_decide_eq_true c)) n1) (fun _=>?_)⟩
     refine⟨_,rfl,t,_,0,_,rfl,rfl,SqT.of h1',at0,rfl,_,rfl,iteB (fun c=>absurd (V.str.inj (of_decide_eq_true c)) n2) (fun _=>?_)⟩
     obtain⟨tf,htf,hsq⟩:∃tf,(tsF.map fun x=>(x.1,V.ref x.2)).lookup h=some (.ref tf)/\∀H',SqT K H' tf (fs.map V.str):=by
       have hm:h∈tsF.map (·.1):=by rw[nF];exact List.mem_map.mpr ⟨_,hf,rfl⟩
       obtain⟨⟨h',tf⟩,hin,rfl⟩:=List.mem_map.mp hm
       refine⟨tf,ee ?_ (List.mem_map.mpr ⟨_,hin,rfl⟩),rF _ _ _ hin hf⟩
       rw[List.map_map]
       show (tsF.map (·.1)).Nodup
       rw[nF];exact fh
     refine⟨_,rfl,t,_,0,_,rfl,rfl,SqT.of h1',at0,aF,_,h,_,rfl,rfl,kF,htf,?_⟩
     refine⟨_,rfl,_,rfl,t,_,rfl,SqT.of h1',fun p1 H1 e1 k1=>?_⟩
     have hc:cutV (V.str h::r'.map V.str) (some 1) none=r'.map V.str:=by
       have:=jq (r:=h::r') (k:=1);simpa using this
     rw[show cutV (V.str h::r'.map V.str) (some (1:Int)) none=r'.map V.str from hc] at k1
     refine⟨tf,p1,_,_,rfl,hsq _,k1,?_⟩
     refine a3q fs r' io (hsq _) k1 hl (by omega) (fun a b H2 Q' q'=>⟨_,rfl,rfl,_,rfl,q'⟩) (fun a b H2 Q' q'=>⟨_,rfl,q'⟩) (fun D H' hD e' hD'=>?_)
     refine q D _ H' (e1.trans e') hD' (fun y=>?_) (Nat.le_trans (a5g _ _ _) (by omega))
     show _↔y∈ef h r'
     unfold ef
     rw[ee fh hf]
 | cond c i o r a b h hc okr hi ho =>
   refine⟨_,rfl,t,_,0,_,rfl,rfl,SqT.of h,rfl,rfl,_,rfl,iteB (fun c=>absurd c (by decide +kernel)) (fun _=>?_)⟩
   refine⟨_,rfl,t,_,0,_,rfl,rfl,SqT.of h,rfl,rfl,_,rfl,iteB (fun _=>?_) (fun c=>absurd c (by decide +kernel))⟩
   have hlen:r.length=3:=ROk.len hok
   refine⟨_,rfl,t,_,1,_,rfl,rfl,SqT.of h,rfl,_,rfl,c,_,rfl,SqT.of hc,fun p1 H1 e1 k1=>?_⟩
   rw[show cutV (r.map V.str) (some (1:Int)) none=(r.drop 1).map V.str from jq (r:=r) (k:=1)] at k1
   refine⟨p1,_,rfl,.inr k1,fun l hl=>?_⟩
   exact q l (r.drop 1) _ (e1.trans (ad hl _)) a0 (fun y=>Iff.rfl) (by rw[List.length_drop];omega)
 | loop c td i fa pa r F' P' a h hc okr htd hF hP okF okP lF lP hi =>
   obtain⟨hr',hT⟩:=hok
   have hlen:r.length=3:=ROk.len hr'
   refine⟨_,rfl,t,_,0,_,rfl,rfl,SqT.of h,rfl,rfl,_,rfl,iteB (fun c=>absurd c (by decide +kernel)) (fun _=>?_)⟩
   refine⟨_,rfl,t,_,0,_,rfl,rfl,SqT.of h,rfl,rfl,_,rfl,iteB (fun c=>absurd c (by decide +kernel)) (fun _=>?_)⟩
   refine⟨_,rfl,t,_,0,_,rfl,rfl,SqT.of h,rfl,rfl,_,rfl,iteB (fun _=>?_) (fun c=>absurd c (by decide +kernel))⟩
   refine⟨_,rfl,t,_,1,_,rfl,rfl,SqT.of h,rfl,_,rfl,c,_,rfl,SqT.of hc,fun p1 H1 e1 k1=>?_⟩
   rw[show cutV (r.map V.str) (some (1:Int)) none=(r.drop 1).map V.str from jq (r:=r) (k:=1)] at k1
   refine⟨p1,_,rfl,.inr k1,fun l hl=>?_⟩
   have s2:=ad hl (.lst ((r.drop 1).map V.str))
   have k2:(upd H1 l (.lst ((r.drop 1).map V.str))) l=some (.lst ((r.drop 1).map V.str)):=a0
   generalize upd H1 l (.lst ((r.drop 1).map V.str))=H2 at s2 k2 |-
   have e2:=e1.trans s2
   refine⟨_,rfl,t,_,2,_,rfl,rfl,SqT.of (e2 _ _ h),rfl,td,F',P',rfl,⟨[fa,pa],SqT.of (e2 _ _ htd),.cons (hF.same e2) (.cons (hP.same e2) .nil)⟩,hT.f,hT.p,hT.ne,fun ss hn hs=>Nat.lt_of_le_of_lt (hT.few hxs hn hs) (by decide),fun p zs H3 hp e3 k3 hzn hzm hzs=>?_⟩
   have hzl:=hT.few hxs hzn fun y hy=>(hzm y).mp hy
   refine⟨l,p,_,_,rfl,rfl,e3 _ _ k2,k3,bn (by rw[List.length_map,List.length_map,List.length_drop];omega),fun l4 hl4=>?_⟩
   have s4:=ad hl4 (.lst ((r.drop 1).map V.str++zs.map V.str))
   refine q l4 (r.drop 1++zs) _ ((e2.trans e3).trans s4) (by rw[a0,List.map_append]) (fun y=>?_) (by rw[List.length_append,List.length_drop];omega)
   show _↔y∈r.drop 1++words (F'++P')
   rw[List.mem_append,List.mem_append,hzm y]
noncomputable def allW (bs:List Nat) (p:Prc):List Str:=p.ps++[p.res]++words (p.F1++p.P1)++words (p.F2++p.P2)++(allL bs p.body).flatMap wrd
structure PrcOk (bs:List Nat) (xs:List Str) (p:Prc):Prop where
 ps:p.ps.length<=8/\∀y∈p.ps,Short y
 res:Short p.res
 t1:TOk xs p.F1 p.P1
 t2:TOk xs p.F2 p.P2
 ds:∀d∈allL bs p.body,DOk xs d
 few:(allL bs p.body).length<=30
 len:xs.length<=20
 names:∀y∈allW bs p,bm y=true->y∈xs
theorem a5v {h:Str}{r:List Str}{y:Str}(hy:y∈ef h r):y∈r:=by
 unfold ef at hy
 cases e:forms.lookup h with
 | none=>rw[e] at hy;cases hy
 | some fs =>
   rw[e] at hy
   obtain⟨⟨a,b⟩,h1,rfl⟩:=List.mem_map.mp hy
   exact (List.of_mem_zip (List.mem_filter.mp h1).1).2
theorem DOk.short {xs:List Str}{d:Deed}(h:DOk xs d) {y:Str}(hy:y∈wrd d):Short y:=by
 cases d with
 | plain p =>
   cases p with
   | row r =>
     cases r with
     | nil=>cases hy
     | cons h' r=>exact h y (List.mem_cons_of_mem _ (a5v hy))
   | call x c vs =>
     obtain⟨h1,_,h3⟩:=h
     rcases List.mem_cons.mp hy with rfl|z
     . exact h1
     . exact h3 y z
 | cond r a b=>exact ROk.sh h y (List.mem_of_mem_drop hy)
 | loop r F P a =>
   obtain⟨h1,h2⟩:=h
   rcases List.mem_append.mp hy with z|z
   . exact h1.sh y (List.mem_of_mem_drop z)
   . refine nr (fun r hr=>?_) z
     rcases List.mem_append.mp hr with z|z
     . exact (h2.f.2 r z).2
     . exact (h2.p.2 r z).2
theorem TOk.short {xs:List Str}{F P:List (List Str)}(h2:TOk xs F P) {y:Str}(hy:y∈words (F++P)):Short y:=by
 refine nr (fun r hr=>?_) hy
 rcases List.mem_append.mp hr with z|z
 . exact (h2.f.2 r z).2
 . exact (h2.p.2 r z).2
theorem a0f {bs:List Nat}{xs:List Str}{p:Prc}(h:PrcOk bs xs p) {y:Str}(hy:y∈allW bs p):Short y:=by
 unfold allW at hy
 simp only[List.mem_append,List.mem_singleton] at hy
 rcases hy with (((z|z)|z)|z)|z
 . exact h.ps.2 y z
 . rw[z];exact h.res
 . exact h.t1.short z
 . exact h.t2.short z
 . obtain⟨d,hd,hy⟩:=List.mem_flatMap.mp z
   exact (h.ds d hd).short hy
inductive spNamesIn (K:PySem.W.Frag) (bs:List Nat) (vs:List V) (H:Hp) (Q:VK) (E:XK):Prop
 | mk (G:Hp) (t:Addr) (p:Prc) (xs:List Str) (h0:vs=[.ref t]) (e:Same G H) (h1:PrcAt K G bs t p) (h2:PrcOk bs xs p)
     (q:∀(l:Addr) (zs:List Str) (H':Hp),Same H H'->H l=none->H' l=some (.lst (zs.map V.str))->zs.Nodup->PyProof.Rows.sortedS zs=true->(∀y,y∈zs↔bm y=true/\y∈allW bs p)->Q (.ref l) H'):spNamesIn K bs vs H Q E
inductive NI (H:Hp) (t lo fo:Addr) (us:List Addr) (ds:List Deed) (pre:List Str) (i:Nat) (σ:St) (H2:Hp):Prop
 | mk (ws:List Str) (z2:Option V) (e:Same H H2) (hl:H2 lo=some (.lst (us.map V.ref))) (hf:H2 fo=some (.lst (ws.map V.str))) (hm:∀y,y∈ws↔y∈pre++(ds.take i).flatMap wrd) (hw:ws.length<=60+30*i) (hσ:σ=[some (.ref t),some (.ref fo),z2])
theorem scNamesIn:FnScope ["procedure","words","deed"] ["procedure"] (ao om):=⟨rfl,rfl,rfl,by decide +kernel,rfl,by decide +kernel,by decide +kernel⟩
theorem a0i {n:Nat}{bs:List Nat}(hn1:1<=n) (C:Con K mg w) (F:Fun K "names_in" "names_in" om f fd) (GN:FnOk P w K mg base CX0 1 gN dN ["telling"] (rq K)) (cN:Cal K mg "names_of" gN dN ["telling"]) (GA:FnOk P w K mg base CX0 (n+1) gA dA ["deeds"] (spAll K bs)) (cA:Cal K mg "all_deeds" gA dA ["deeds"]) (GW:FnOk P w K mg base CX0 2 gW dW ["deed"] (spWords K)) (cW:Cal K mg "words_of" gW dW ["deed"]) (GI:FnOk P w K mg base CX0 1 gI dI ["text"] (spB1 bm)) (cI:Cal K mg "is_name" gI dI ["text"]):FnOk P w K mg base CX0 (n+1+1) f fd ["procedure"] (spNamesIn K bs):=by
 refine F.okQ scNamesIn (fun vs H Q E h=>?_) (fun cdv A outer s0 H vs Q E hr h=>?_)
 . obtain⟨G,t,p,xs,rfl,_⟩:=h;rfl
 obtain⟨G,t,p,xs,rfl,eG,⟨pt,t1,t2,f1,p1,f2,p2,bd,x⟩,ok,q⟩:=h
 have nd:=scNamesIn.nd
 have hr1:=hr.mono (j:=1) (by omega)
 have hr2:=hr.mono (j:=2) (by omega)
 refine⟨_,ae (aq (i:=1) nd rfl (Or.inl rfl) (ap g6 (ap g6 (ap g6 (b7 cv rfl C.list PyProof.Rows.boot_list (aw (ah ay (qv 0) ab (fun _ _=>rfl)) aa)) (bc (aw (ah ay (qv 0) ab (fun _ _=>rfl)) aa))) (ak GN hr1 rfl cN.name cN.keep cN.bind .nil am (aw (ah ay (qv 0) ab (fun _ _=>rfl)) aa))) (ak GN hr1 rfl cN.name cN.keep cN.bind .nil am (aw (ah ay (qv 0) ab (fun _ _=>rfl)) aa))))
   (ae (de PassesOwn.never rfl (fq (ak GA hr rfl cA.name cA.keep cA.bind .nil am (aw (ah ay (qv 0) ab (fun _ _=>rfl)) aa))) (bq (i:=2) nd rfl (Or.inl rfl)) (ag (dg (gk (K:=K) rfl PySem.F.plainAttrs_list PySem.F.slot_list_extend PySem.F.type_list_extend lg (qv 1) (az (ak GW hr2 rfl cW.name cW.keep cW.bind .nil am (af (qv 2) aa)) aa)))))
   (ag (av (ba (j3 rfl) rfl C.sorted PyProof.Rows.boot_sorted (az (b7 (w8 rfl) rfl C.set PyProof.Rows.boot_set (cn (gw (fq (qv 1)) (fun _ _ _ _=>(mn (di (ak GI hr1 rfl cI.name cI.keep cI.bind .nil am (af (qv 0) aa))))) (fun _ _ _ _=>(qv 0))) aa)) aa))))),?_⟩
 have tp:=eG _ _ x.tup
 refine⟨_,rfl,t,_,1,_,rfl,rfl,SqT.of tp,rfl,pt,_,rfl,.inr (SqT.of (eG _ _ x.pt)),fun l1 hl1=>?_⟩
 have s1:=ad hl1 (.lst (p.ps.map V.str))
 have k1:(upd H l1 (.lst (p.ps.map V.str))) l1=some (.lst (p.ps.map V.str)):=a0
 generalize upd H l1 (.lst (p.ps.map V.str))=H1 at s1 k1 |-
 refine⟨_,rfl,t,_,2,_,rfl,rfl,SqT.of (s1 _ _ tp),rfl,(show 1<=sizeLine by decide),fun l2 hl2=>?_⟩
 have s2':=ad hl2 (.lst [.str p.res])
 have k2:(upd H1 l2 (.lst [.str p.res])) l2=some (.lst [.str p.res]):=a0
 generalize upd H1 l2 (.lst [.str p.res])=H2 at s2' k2 |-
 have s2:=s1.trans s2'
 have hps:=ok.ps.1
 refine⟨l1,l2,_,_,rfl,rfl,s2' _ _ k1,k2,bn (by rw[List.length_map];show _+1<=1000;omega),fun l3 hl3=>?_⟩
 have s3':=ad hl3 (.lst (p.ps.map V.str++[.str p.res]))
 have k3:(upd H2 l3 (.lst (p.ps.map V.str++[.str p.res]))) l3=some (.lst ((p.ps++[p.res]).map V.str)):=by rw[a0,List.map_append];rfl
 generalize upd H2 l3 (.lst (p.ps.map V.str++[.str p.res]))=H3 at s3' k3 |-
 have s3:=s2.trans s3'
 have g3:=eG.trans s3
 refine⟨_,rfl,t,_,3,_,rfl,rfl,SqT.of (s3 _ _ tp),rfl,t1,p.F1,p.P1,rfl,⟨[f1,p1],SqT.of (g3 _ _ x.t1),.cons (x.f1.same g3) (.cons (x.p1.same g3) .nil)⟩,ok.t1.f,ok.t1.p,ok.t1.ne,fun ss hn hs=>Nat.lt_of_le_of_lt (ok.t1.few ok.len hn hs) (by decide),fun q4 z4 H4 hq4 e4' k4 hzn hzm _=>?_⟩
 have hz4:=ok.t1.few ok.len hzn fun y hy=>(hzm y).mp hy
 have e4:=s3.trans e4'
 refine⟨l3,q4,_,_,rfl,rfl,e4' _ _ k3,k4,bn (by rw[List.length_map,List.length_map,List.length_append];show _+1+_<=1000;omega),fun l5 hl5=>?_⟩
 have s5':=ad hl5 (.lst ((p.ps++[p.res]).map V.str++z4.map V.str))
 have k5:(upd H4 l5 (.lst ((p.ps++[p.res]).map V.str++z4.map V.str))) l5=some (.lst ((p.ps++[p.res]++z4).map V.str)):=by rw[a0,List.map_append (l₁:=p.ps++[p.res])]
 generalize upd H4 l5 (.lst ((p.ps++[p.res]).map V.str++z4.map V.str))=H5 at s5' k5 |-
 have s5:=e4.trans s5'
 have g5:=eG.trans s5
 refine⟨_,rfl,t,_,4,_,rfl,rfl,SqT.of (s5 _ _ tp),rfl,t2,p.F2,p.P2,rfl,⟨[f2,p2],SqT.of (g5 _ _ x.t2),.cons (x.f2.same g5) (.cons (x.p2.same g5) .nil)⟩,ok.t2.f,ok.t2.p,ok.t2.ne,fun ss hn hs=>Nat.lt_of_le_of_lt (ok.t2.few ok.len hn hs) (by decide),fun q6 z6 H6 hq6 e6' k6 hyn hym _=>?_⟩
 have hz6:=ok.t2.few ok.len hyn fun y hy=>(hym y).mp hy
 have e6:=s5.trans e6'
 refine⟨l5,q6,_,_,rfl,rfl,e6' _ _ k5,k6,bn (by rw[List.length_map,List.length_map,List.length_append,List.length_append];show _+1+_+_<=1000;omega),fun fo hfo=>?_⟩
 have s7':=ad hfo (.lst ((p.ps++[p.res]++z4).map V.str++z6.map V.str))
 have k7:(upd H6 fo (.lst ((p.ps++[p.res]++z4).map V.str++z6.map V.str))) fo=some (.lst ((p.ps++[p.res]++z4++z6).map V.str)):=by rw[a0,List.map_append (l₁:=p.ps++[p.res]++z4)]
 have fo0:H fo=none:=e6.free hfo
 generalize upd H6 fo (.lst ((p.ps++[p.res]++z4).map V.str++z6.map V.str))=H7 at s7' k7 |-
 have s7:=e6.trans s7'
 have hpre:∀y,y∈p.ps++[p.res]++z4++z6↔y∈p.ps++[p.res]++words (p.F1++p.P1)++words (p.F2++p.P2):=fun y=>by
   simp only[List.mem_append,hzm y,hym y]
 have hprl:(p.ps++[p.res]++z4++z6).length<=60:=by
   rw[List.length_append,List.length_append,List.length_append];show _+1+_+_<=60;omega
 generalize p.ps++[p.res]++z4++z6=w0 at k7 hpre hprl
 clear hzm hym hzn hyn hz4 hz6 k6 k5 k4 k3 k2 k1 s7' s5' s3' s2' s2 s3 s5 e4 e6 g3 g5 e4' e6' hl1 hl2 hl3 hl5 hq4 hq6 s1
 dsimp only[bi]
 refine au (a:=tFor _ _ _) fun D1 hN1 hR1 hC1=>?_
 refine⟨_,rfl,t,_,5,_,rfl,rfl,SqT.of (s7 _ _ tp),rfl,G,bd,p.body,rfl,eG.trans s7,x.body,Nat.le_trans ok.few (by decide),fun lo us H8 e8 hlo k8 hus=>?_⟩
 have hlf:lo≠fo:=(ai k7 hlo).symm
 have hul:=Paired.length hus
 have hfew:=ok.few
 refine⟨lo,rfl,⟨_,SqL.of k8⟩,?_⟩
 refine gv (xs:=us.map V.ref) (NI H t lo fo us (allL bs p.body) (p.ps++[p.res]++words (p.F1++p.P1)++words (p.F2++p.P2))) ⟨w0,none,s7.trans e8,k8,e8 _ _ k7,fun y=>by rw[hpre y];simp,by omega,rfl⟩ (fun i σ H' _ z=>by obtain⟨_,_,_,h,_⟩:=z;exact SqL.of h) ?_ ?_
 . rintro i y σ H9 hy ⟨ws,z2,e9,hl9,hf9,hm9,hw9,rfl⟩
   rw[List.getElem?_map] at hy
   obtain⟨u,hu,rfl⟩:=Option.map_eq_some_iff.mp hy
   obtain⟨d,hd,hX⟩:=Paired.nth hus hu
   have hi30:i<30:=by have:=(List.getElem?_eq_some_iff.mp hd).1;omega
   refine⟨_,rfl,(.inl ⟨rfl,_,SqL.of hf9⟩),_,rfl,u,d,xs,rfl,DeedS.same hX (eG.trans e9),ok.ds d (List.mem_of_getElem? hd),ok.len,fun lw vs Ha ea ka hva hla=>?_⟩
   have hfa:=ea _ _ hf9
   refine⟨fo,lw,_,_,rfl,rfl,hfa,ka,bn (by rw[List.length_map,List.length_map];omega),?_⟩
   refine⟨ws++vs,_,fun b o z=>by rw[ac (ai z fo0)];exact ea _ _ (e9 _ _ z),by rw[ac hlf];exact ea _ _ hl9,by rw[a0,List.map_append],fun y=>?_,by rw[List.length_append];omega,rfl⟩
   rw[mo (g:=wrd) hd,List.mem_append,<- List.append_assoc,List.mem_append,hm9 y,hva y]
 rintro σ H9 ⟨ws,z2,e9,hl9,hf9,hm9,hw9,rfl⟩
 rw[List.length_map,hul,List.take_length] at hm9
 rw[List.length_map,hul] at hw9
 have hall:∀y,y∈ws↔y∈allW bs p:=hm9
 refine hN1 _ _ ?_
 clear hN1 hR1 hC1
 refine⟨_,rfl,fo,rfl,⟨_,SqL.of hf9⟩,?_⟩
 refine qm ws bm i3 (SqL.of hf9) (by omega) (fun y hy H2 e2 Q' q'=>⟨_,rfl,y,rfl,a0f ok ((hall y).mp hy),fun H3 e3=>⟨_,rfl,q' H3 e3⟩⟩) (fun y H2 Q' q'=>⟨_,rfl,q'⟩) (fun D Ha hD ea kD=>?_)
 have hfl:=List.length_filter_le bm ws
 have hwl:ws.length<=1000:=by omega
 refine⟨D,_,rfl,SqL.of kD,?_,fun ps ss hps' hdd=>?_⟩
 . exact Nat.lt_of_le_of_lt (Nat.succ_le_succ (Nat.le_trans hfl hwl)) (by decide)
 have ssub:∀y∈ss,y∈xs:=fun y hy=>by
   obtain⟨h1,h2⟩:=List.mem_filter.mp ((hdd.mem y).mp hy)
   exact ok.names y ((hall y).mp h1) h2
 have hsl:ss.length<=20:=Nat.le_trans (List.Nodup.length_le_of_subset hdd.nodup ssub) ok.len
 refine⟨ps,ss,rfl,a0,(by omega),fun l zs hl hperm hs=>?_⟩
 have hl0:=(ad hps' _).free hl
 refine q l zs _ (((e9.trans ea).trans (ad hps' _)).trans (ad hl _)) ((e9.trans ea).free hl0) a0 (hperm.nodup_iff.mpr hdd.nodup) hs fun y=>?_
 rw[hperm.mem_iff,hdd.mem y,List.mem_filter,hall y]
 exact And.comm
end K50
namespace L2
open PySem PySem.Spec
theorem yz (ys zs:List V) {m:Nat}(hz:zs.length=m) (hm:0<m):cutV (ys++zs) none (some (-(m:Int)))=ys:=by
 unfold cutV
 rw[HT.sIx_none,List.drop_zero,Nat.sub_zero]
 have:HT.sIx (ys++zs).length (ys++zs).length (some (-(m:Int)))=ys.length:=by
   show (if -(m:Int)<0 then (-(m:Int)+((ys++zs).length:Int)).toNat else _)=_
   rw[if_pos (by omega),List.length_append]
   omega
 rw[this,List.take_left]
end L2
namespace K50
open PySem PySem.Spec L2 Mir
variable {P:Program}{w:World}{K:PySem.W.Frag}{mg:Str->Option Value}{base:Heap}{f g gS gN gA gW gI gL gF gO gT gB C fI CM CF fJ gD gE gC gM gK gH gR gU gV gP gX:Addr}{fd gd dS dN dA dW dI dL dF dO dT dB dD dE dC dM dK dH dR dU dV dP dX:FuncData}
noncomputable abbrev sj:Stmt:=top 24
noncomputable abbrev vf:Stmt:=top 25
theorem pick {l:List Addr}{k:Nat}(h:k<l.length):∃b,l[k]? = some b/\atI (l.map V.ref) (k:Int)=some (.ref b)/\b∈l :=
 ⟨l[k],List.getElem?_eq_getElem h,ca (by rw[List.getElem?_map,List.getElem?_eq_getElem h];rfl),List.getElem_mem _⟩
abbrev Pre:=List (Nat×Nat)
noncomputable def flat:Pre->List Int
 | []=>[]
 | (a,b)::p=>(a:Int)::(b:Int)::flat p
theorem l9:∀p:Pre,(flat p).length=2*p.length
 | []=>rfl
 | (a,b)::p=>by show (flat p).length+1+1=_;rw[l9 p,List.length_cons];omega
theorem we:∀p q:Pre,flat (p++q)=flat p++flat q
 | [],_=>rfl
 | (a,b)::p,q=>by show _::_::flat (p++q)=_;rw[we p q];rfl
theorem yw:∀{p:Pre}{z:List Int}{i a b:Nat},p[i]? = some (a,b)->(flat p++z)[2*i]? = some (a:Int)/\(flat p++z)[2*i+1]? = some (b:Int)
 | [],_,_,_,_,h=>by cases h
 | (x,y)::p,z,0,a,b,h=>by cases h;exact⟨rfl,rfl⟩
 | (x,y)::p,z,i+1,a,b,h=>yw (p:=p) (i:=i) h
inductive Side (H:Hp) (t:Addr) (s:Nat) (m:Addr):Prop
 | cond (i o:Addr) (c:V) (h:H t=some (.tup [.str "if",c,.ref i,.ref o])) (hs:(s=0/\m=i)\/(s=1/\m=o))
 | loop (c d:V) (h:H t=some (.tup [.str "while",c,d,.ref m])) (hs:s=0)
noncomputable def LFrom (H:Hp):Addr->Pre->Addr->Prop
 | l,[],l'=>l=l'
 | l,(k,s)::p,l'=>∃(ts:List Addr) (t m:Addr),H l=some (.lst (ts.map V.ref))/\ts[k]? = some t/\Side H t s m/\LFrom H m p l'
theorem Side.same {H H':Hp}{t m:Addr}{s:Nat}(h:Side H t s m) (e:Same H H'):Side H' t s m:=by
 rcases h with⟨i,o,c,h,hs⟩|⟨c,d,h,hs⟩
 . exact .cond i o c (e _ _ h) hs
 . exact .loop c d (e _ _ h) hs
theorem LFrom.same {H H':Hp}(e:Same H H'):∀{p:Pre}{l l':Addr},LFrom H l p l'->LFrom H' l p l'
 | [],_,_,h=>h
 | (k,s)::p,l,l',h=>by
   obtain⟨ts,t,m,h1,h2,h3,h4⟩:=h
   exact⟨ts,t,m,e _ _ h1,h2,h3.same e,LFrom.same e h4⟩
theorem LFrom.app {H:Hp}:∀{p q:Pre}{l m l':Addr},LFrom H l p m->LFrom H m q l'->LFrom H l (p++q) l'
 | [],_,_,_,_,h,g=>by cases h;exact g
 | (k,s)::p,q,l,m,l',h,g=>by
   obtain⟨ts,t,x,h1,h2,h3,h4⟩:=h
   exact⟨ts,t,x,h1,h2,h3,LFrom.app h4 g⟩
inductive spListOf (K:PySem.W.Frag) (vs:List V) (H:Hp) (Q:VK) (E:XK):Prop
 | mk (bd pt l:Addr) (p:Pre) (k:Int) (h0:vs=[.ref bd,.ref pt]) (h1:SqT K H pt ((flat p++[k]).map V.int)) (h2:LFrom H bd p l) (h3:p.length<=100) (q:∀H',Same H H'->Q (.ref l) H'):spListOf K vs H Q E
inductive spFound (K:PySem.W.Frag) (vs:List V) (H:Hp) (Q:VK) (E:XK):Prop
 | mk (bd pt l:Addr) (p:Pre) (k:Nat) (ts:List Addr) (h0:vs=[.ref bd,.ref pt]) (h1:SqT K H pt ((flat p++[(k:Int)]).map V.int)) (h2:LFrom H bd p l) (h3:p.length<=100) (h4:H l=some (.lst (ts.map V.ref))) (q1:∀t H',ts[k]? = some t->Same H H'->Q (.ref t) H') (q2:∀H',ts[k]? = none->Same H H'->Q .non H'):spFound K vs H Q E
theorem scListOf:FnScope ["body","path","deeds","place"] ["body","path"] (ao sj):=⟨rfl,rfl,rfl,by decide +kernel,rfl,by decide +kernel,by decide +kernel⟩
theorem a3y (C:Con K mg w) (F:Fun K "list_of" "list_of" sj f fd) (GI:FnOk P w K mg base CX0 1 gI dI ["deed"] spLists) (cI:Cal K mg "lists_in" gI dI ["deed"]):FnOk P w K mg base CX0 2 f fd ["body","path"] (spListOf K):=by
 refine F.okQ scListOf (fun vs H Q E h=>?_) (fun cdv A outer s0 H vs Q E hr h=>?_)
 . obtain⟨bd,pt,l,p,k,rfl,_⟩:=h;rfl
 obtain⟨bd,pt,l,p,k,rfl,hpt,hl,hp,q⟩:=h
 have nd:=scListOf.nd
 refine⟨_,ae (aq (i:=2) nd rfl (Or.inl rfl) (qv 0))
   (ae (de PassesOwn.never rfl (a2d rfl C.range (b8 (ce (ap x3 (ba dk rfl C.len PySem.boot_len (af (qv 1) aa)) ab) (b8 aa)))) (bq (i:=3) nd rfl (Or.inl rfl)) (ag (aq (i:=2) nd rfl (Or.inl rfl) (ah dq (ak GI hr rfl cI.name cI.keep cI.bind .nil am (aw (ah dq (qv 2) (ah ay (qv 1) (qv 3) (fun _ _=>rfl)) (fun _ _=>rfl)) aa)) (ah ay (qv 1) (ap bh (qv 3) ab) (fun _ _=>rfl)) (fun _ _=>rfl)))))
   (ag (av (qv 2)))),?_⟩
 have hlen:(((flat p++[k]).map V.int).length:Int)=2*(p.length:Int)+1:=by rw[List.length_map,List.length_append,l9];simp
 refine⟨_,rfl,?_⟩
 dsimp only[bi]
 refine au (a:=tFor _ _ _) fun D1 hN1 hR1 hC1=>?_
 refine⟨_,rfl,pt,_,rfl,.inr hpt,_,_,rfl,rfl,0,_,rfl,⟨by decide,by decide,by omega,by omega⟩,?_⟩
 rw[show (((((flat p++[k]).map V.int).length:Int) - 1 - 0+1) / 2).toNat=p.length by omega]
 refine zt (fun i σ H1=>Same H H1/\∃(m:Addr) (z3:Option V),LFrom H1 m (p.drop i) l/\σ=[some (.ref bd),some (.ref pt),some (.ref m),z3]) ⟨Same.refl _,bd,none,hl,rfl⟩ ?_ ?_
 . rintro i σ H1 hi ⟨e1,m,z3,hm,rfl⟩
   obtain⟨⟨a,b⟩,hab⟩:∃x,p[i]? = some x:=⟨_,List.getElem?_eq_getElem hi⟩
   rw[List.drop_eq_getElem_cons hi,(List.getElem?_eq_some_iff.mp hab).2] at hm
   obtain⟨ts,t,x,hm1,hm2,hm3,hm4⟩:=hm
   obtain⟨ha,hb⟩:=yw (z:=[k]) hab
   have i1:(0:Int)+(i:Int)*2=((2*i:Nat):Int):=by omega
   have i2:((2*i:Nat):Int)+1=((2*i+1:Nat):Int):=by omega
   rw[i1]
   have at1:atI ((flat p++[k]).map V.int) ((2*i:Nat):Int)=some (.int (a:Int)):=ca (by rw[List.getElem?_map,ha];rfl)
   have at2:atI (ts.map V.ref) (a:Int)=some (.ref t):=ca (by rw[List.getElem?_map,hm2];rfl)
   have at3:atI ((flat p++[k]).map V.int) (((2*i:Nat):Int)+1)=some (.int (b:Int)):=by rw[i2];exact ca (by rw[List.getElem?_map,hb];rfl)
   have hpt1:=e1.seqT hpt
   have fin:∀{nl:Addr} {us:List V},H1 nl=none->atI us (b:Int)=some (.ref x)->Same H1 (upd H1 nl (.lst us))/\LFrom (upd H1 nl (.lst us)) x (p.drop (i+1)) l:=fun hnl _=>⟨ad hnl _,hm4.same (ad hnl _)⟩
   rcases hm3 with⟨i',o,c,h,hs⟩|⟨c,d,h,hs⟩
   . have at4:atI [V.ref i',V.ref o] (b:Int)=some (.ref x):=by rcases hs with⟨rfl,rfl⟩|⟨rfl,rfl⟩<;>rfl
     refine⟨_,rfl,_,rfl,_,rfl,pt,_,_,_,rfl,rfl,hpt1,at1,m,_,_,_,rfl,rfl,SqL.of hm1,at2,.cond t i' o c rfl h fun nl hnl=>?_⟩
     obtain⟨s,g⟩:=fin hnl at4
     exact⟨_,rfl,_,rfl,_,_,rfl,rfl,pt,_,_,_,rfl,rfl,s.seqT hpt1,at3,nl,_,_,_,rfl,rfl,SqL.of a0,at4,e1.trans s,x,_,g,rfl⟩
   . have at4:atI [V.ref x] (b:Int)=some (.ref x):=by subst hs;rfl
     refine⟨_,rfl,_,rfl,_,rfl,pt,_,_,_,rfl,rfl,hpt1,at1,m,_,_,_,rfl,rfl,SqL.of hm1,at2,.loop t x c d rfl h fun nl hnl=>?_⟩
     obtain⟨s,g⟩:=fin hnl at4
     exact⟨_,rfl,_,rfl,_,_,rfl,rfl,pt,_,_,_,rfl,rfl,s.seqT hpt1,at3,nl,_,_,_,rfl,rfl,SqL.of a0,at4,e1.trans s,x,_,g,rfl⟩
 rintro σ H1 ⟨e1,m,z3,hm,rfl⟩
 rw[List.drop_length] at hm
 cases hm
 exact hN1 _ _ ⟨_,rfl,q H1 e1⟩
theorem scFound:FnScope ["body","path","deeds"] ["body","path"] (ao vf):=⟨rfl,rfl,rfl,by decide +kernel,rfl,by decide +kernel,by decide +kernel⟩
theorem a4o (C:Con K mg w) (F:Fun K "found_at" "found_at" vf f fd) (GL:FnOk P w K mg base CX0 2 gL dL ["body","path"] (spListOf K)) (cL:Cal K mg "list_of" gL dL ["body","path"]):FnOk P w K mg base CX0 3 f fd ["body","path"] (spFound K):=by
 refine F.okQ scFound (fun vs H Q E h=>?_) (fun cdv A outer s0 H vs Q E hr h=>?_)
 . obtain⟨bd,pt,l,p,k,ts,rfl,_⟩:=h;rfl
 obtain⟨bd,pt,l,p,k,ts,rfl,hpt,hl,hp,hts,q1,q2⟩:=h
 have nd:=scFound.nd
 refine⟨_,ae (aq (i:=2) nd rfl (Or.inl rfl) (ak GL hr rfl cL.name cL.keep cL.bind .nil am (af (qv 0) (af (qv 1) aa))))
   (ag (av (gf (ar a0n (ah ay (qv 1) (et dh ab) (fun _ _=>rfl)) (ba dk rfl C.len PySem.boot_len (af (qv 2) aa)) (ax _)) (ah dq (qv 2) (ah ay (qv 1) (et dh ab) (fun _ _=>rfl)) (fun _ _=>rfl)) i7))),?_⟩
 refine⟨_,rfl,_,rfl,bd,pt,l,p,k,rfl,hpt,hl,hp,fun H1 e1=>?_⟩
 have hpt1:=e1.seqT hpt
 rw[List.map_append] at hpt1
 have hts1:=e1 _ _ hts
 refine⟨_,rfl,_,rfl,pt,_,_,_,rfl,rfl,hpt1,dj,_,rfl,l,_,rfl,.inl (SqL.of hts1),_,_,rfl,rfl,_,rfl,iteB (fun c=>?_) (fun c=>?_)⟩
 . have c':(k:Int)<((ts.map V.ref).length:Int):=of_decide_eq_true c
   have hk:k<ts.length:=by rw[List.length_map] at c';omega
   obtain⟨t,ht1,ht2,_⟩:=pick hk
   exact⟨_,rfl,_,rfl,_,rfl,pt,_,_,_,rfl,rfl,hpt1,dj,l,_,_,_,rfl,rfl,SqL.of hts1,ht2,q1 t H1 ht1 e1⟩
 . have c':¬ (k:Int)<((ts.map V.ref).length:Int):=of_decide_eq_false c
   have hk:ts.length<=k:=by rw[List.length_map] at c';omega
   exact q2 H1 (List.getElem?_eq_none hk) e1
end K50
namespace L2
open PySem PySem.Spec
theorem iz {α β:Type}{J:It}{H1:Hp}{σ:St}{ix:List Nat}{te:TE}{Q:VK}{I0:Hp->Prop}(xs:List V) (rs:List α) (R:Addr->Hp->V->β->Prop) (f:α->β) (hJ:JSeq J I0 xs) (h0:I0 H1) (hz:xs.length<=1000) (hl:rs.length=xs.length)
   (hR:∀D H H' y r,R D H y r->ck D H H'->R D H' y r)
   (he:∀(D:Addr),H1 D=none->∀(i:Nat) (x:V) (r:α),xs[i]? = some x->rs[i]? = some r->∀H2,Same H1 H2->H2 D≠none->∀Q':VK,(∀y H3,Same H2 H3->R D H3 y (f r)->Q' y H3)->te (some x::bo σ ix) H2 Q')
   (hQ:∀D H' ys,H1 D=none->Same H1 H'->H' D=some (.lst ys)->Paired (fun y r=>R D H' y r) ys (rs.map f)->Q (.ref D) H'):js J H1 σ ix tYes te Q:=by
 intro D hD
 have put:∀H ys,Same H1 H->Same H1 (upd H D (.lst ys)):=fun H ys e b u q=>by rw[ac (ai q hD)];exact e b u q
 refine⟨fun i m H=>i<=xs.length/\m=xs.length - i/\Same H1 H/\∃ys:List V,H D=some (.lst ys)/\Paired (fun y r=>R D H y r) ys ((rs.take i).map f),⟨xs.length,Nat.zero_le _,rfl,put _ _ (Same.refl _),[],a0,by simpa using Paired.nil⟩,?_⟩
 rintro i m H ⟨hi,rfl,e,ys,hy,hp⟩
 have hI:=hJ.stay _ _ h0 e
 by_cases hlt:i<xs.length
 . refine .inr ⟨hJ.go i H hI hlt,fun x H' hy'=>?_⟩
   obtain⟨rfl,hx⟩:=hJ.yld i H x H' hlt hI hy'
   have hri:i<rs.length:=by omega
   have hr:rs[i]? = some rs[i]:=List.getElem?_eq_getElem hri
   have ht:rs.take (i+1)=rs.take i++[rs[i]]:=by rw[List.take_add_one,hr];rfl
   have hlen:ys.length=i:=by
     have h1:=Paired.length hp
     rw[List.length_map,List.length_take] at h1
     omega
   dsimp only[tYes]
   rw[if_pos rfl]
   refine he D hD i x rs[i] hx hr _ e (by rw[hy];simp) _ fun y H4 e4 hR4=>?_
   have hput:ck D H4 (upd H4 D (.lst (ys++[y]))):=fun b u q hn=>by rw[ac hn];exact q
   refine⟨ys,e4 _ _ hy,by rw[hlen];exact Nat.lt_of_lt_of_le hlt (Nat.le_trans hz (by decide)),xs.length - (i+1),by omega,hlt,rfl,put _ _ (e.trans e4),ys++[y],a0,?_⟩
   rw[ht,List.map_append]
   exact Paired.snocP (Paired.mapP hp fun a r z=>hR _ _ _ _ _ (hR _ _ _ _ _ z (e4.x D)) hput) (hR _ _ _ _ _ hR4 hput)
 . have hi':i=xs.length:=by omega
   subst hi'
   refine .inl ⟨hJ.stop _ H hI (Nat.le_refl _),?_⟩
   rw[<- hl,List.take_length] at hp
   exact hQ D H ys hD e hy hp
end L2
namespace K50
open PySem PySem.Spec L2 Mir
variable {P:Program}{w:World}{K:PySem.W.Frag}{mg:Str->Option Value}{base:Heap}{f g gS gN gA gW gI gL gF gO gT gB C fI CM CF fJ gD gE gC gM gK gH gR gU gV gP gX:Addr}{fd gd dS dN dA dW dI dL dF dO dT dB dD dE dC dM dK dH dR dU dV dP dX:FuncData}
theorem g8 {α:Type}{R:Addr->α->Prop}:∀{ys:List V}{rs:List α},Paired (fun y r=>∃b,y=V.ref b/\R b r) ys rs->∃bs:List Addr,ys=bs.map V.ref/\Paired R bs rs
 | _,_,.nil=>⟨[],rfl,.nil⟩
 | _,_,.cons h t=>by
   obtain⟨b,rfl,hb⟩:=h
   obtain⟨bs,rfl,hp⟩:=g8 t
   exact⟨b::bs,rfl,.cons hb hp⟩
noncomputable def byK (ns:List Str) (ts:List Addr):List (Str×V):=(ns.zip ts).map fun x=>(x.1,V.ref x.2)
inductive spBy (K:PySem.W.Frag) (vs:List V) (H:Hp) (Q:VK) (E:XK):Prop
 | mk (l:Addr) (ts:List Addr) (ns:List Str) (h0:vs=[.ref l]) (h1:H l=some (.lst (ts.map V.ref))) (h2:Paired (fun t n=>∃us,H t=some (.tup (.str n::us))) ts ns) (h3:ns.Nodup) (h4:ts.length<=10)
     (q:∀d H',Same H H'->H' d=some (.dK ((byK ns ts).map kk))->Q (.ref d) H'):spBy K vs H Q E
theorem v6 {K:PySem.W.Frag}{D:Addr}{H:Hp}:∀{us:List Addr}{zs:List (Str×Addr)},Paired (fun b (x:Str×Addr)=>b≠D/\H b=some (.tup [.str x.1,.ref x.2])) us zs->Paired (fun t (kv:Str×V)=>SqT K H t [.str kv.1,kv.2]) us (zs.map fun x=>(x.1,V.ref x.2))
 | _,_,.nil=>.nil
 | _,_,.cons h r=>.cons (SqT.of h.2) (v6 r)
theorem scByNames:FnScope ["program"] ["program"] (ao o7):=⟨rfl,rfl,rfl,by decide +kernel,rfl,by decide +kernel,by decide +kernel⟩
theorem a0w (C:Con K mg w) (F:Fun K "by_names" "by_names" o7 f fd):FnOk P w K mg base CX0 1 f fd ["program"] (spBy K):=by
 refine F.okQ scByNames (fun vs H Q E h=>?_) (fun cdv A outer s0 H vs Q E hr h=>?_)
 . obtain⟨l,ts,ns,rfl,_⟩:=h;rfl
 obtain⟨l,ts,ns,rfl,hl,hts,hnd,h10,q⟩:=h
 have nd:=scByNames.nd
 refine⟨_,(ag (av (b7 (qy (K:=K) rfl rfl) rfl C.dict PyProof.Rows.boot_dict (cn (gw (fq (qv 0)) (fun _ _ _ _=>ii) (fun _ _ _ _=>(bp (aw (ah (ixTK (K:=K) rfl) (qv 0) ab (fun _ _=>rfl)) (af (qv 0) aa))))) aa)))),?_⟩
 have hlen:=Paired.length hts
 refine⟨_,rfl,l,rfl,⟨_,SqL.of hl⟩,?_⟩
 refine iz (ts.map V.ref) (ns.zip ts) (fun D G y (x:Str×Addr)=>∃b,y=V.ref b/\b≠D/\G b=some (.tup [.str x.1,.ref x.2])) id i3 (SqL.of hl) (by rw[List.length_map];omega) (by rw[List.length_map,List.length_zip];omega) (fun D G G' y x z e=>?_) (fun D hD j x r hx hr' H2 e2 hD2 Q' q'=>?_) (fun D H2 ys hD e2 hD2 hpt=>?_)
 . obtain⟨b,rfl,nb,hb⟩:=z
   exact⟨b,rfl,nb,e _ _ hb nb⟩
 . rw[List.getElem?_map] at hx
   obtain⟨t,ht,rfl⟩:=Option.map_eq_some_iff.mp hx
   obtain⟨n,hn,us,hu⟩:=Paired.nth hts ht
   have hr2:r=(n,t):=by
     have:(ns.zip ts)[j]? = some (n,t):=List.getElem?_zip_eq_some.mpr ⟨hn,ht⟩
     rw[hr'] at this;exact Option.some.inj this
   subst hr2
   refine⟨_,rfl,t,_,0,_,rfl,rfl,SqT.of (e2 _ _ hu),at0,_,rfl,(show 2<=sizeLine by decide),fun b hb=>q' (.ref b) _ (ad hb _) ⟨b,rfl,fun z=>?_,a0⟩⟩
   rw[z] at hb;exact hD2 hb
 rw[List.map_id] at hpt
 obtain⟨us,rfl,hpp⟩:=g8 (R:=fun b (x:Str×Addr)=>b≠D/\H2 b=some (.tup [.str x.1,.ref x.2])) hpt
 have hlz:(ns.zip ts).length=ns.length:=by rw[List.length_zip];omega
 have hul:=Paired.length hpp
 refine⟨D,us,byK ns ts,rfl,SqL.of hD2,?_,?_,(by omega),fun d hd=>q d _ (e2.trans (ad hd _)) a0⟩
 . exact v6 hpp
 . unfold byK
   rw[List.map_map]
   show ((ns.zip ts).map (·.1)).Nodup
   rw[List.map_fst_zip (by omega)]
   exact hnd
end K50
namespace L2
open PySem PySem.Spec
open Classical in
noncomputable def rm (X:Addr->Prop) (H:Hp):Hp:=fun c=>if X c then none else H c
variable {X X':Addr->Prop}{H H':Hp}
theorem er {c:Addr}(h:¬ X c):rm X H c=H c:=by unfold rm;rw[if_neg h]
theorem gu {c:Addr}{o:HO}(h:rm X H c=some o):¬ X c/\H c=some o:=by
 unfold rm at h
 by_cases z:X c
 . rw[if_pos z] at h;cases h
 . rw[if_neg z] at h;exact⟨z,h⟩
theorem fk:Same (rm X H) H:=fun _ _ h=>(gu h).2
theorem du (e:Same H H'):Same (rm X H) (rm X H'):=fun b o h=>by
 obtain⟨h1,h2⟩:=gu h
 rw[er h1];exact e _ _ h2
theorem wk {D:Addr}(e:ck D H H') (hD:X D):Same (rm X H) (rm X H'):=fun b o h=>by
 obtain⟨h1,h2⟩:=gu h
 rw[er h1];exact e _ _ h2 (fun z=>h1 (by rw[z];exact hD))
theorem aa2 (h:∀c,X c->X' c):Same (rm X' H) (rm X H):=fun b o z=>by
 obtain⟨h1,h2⟩:=gu z
 rw[er (fun y=>h1 (h _ y))];exact h2
end L2
namespace K50
open PySem PySem.Spec L2 Mir
variable {P:Program}{w:World}{K:PySem.W.Frag}{mg:Str->Option Value}{base:Heap}{f g gS gN gA gW gI gL gF gO gT gB C fI CM CF fJ gD gE gC gM gK gH gR gU gV gP gX:Addr}{fd gd dS dN dA dW dI dL dF dO dT dB dD dE dC dM dK dH dR dU dV dP dX:FuncData}
noncomputable abbrev pe:Stmt:=top 16
noncomputable abbrev lr:Stmt:=top 17
noncomputable abbrev rh:Stmt:=top 26
inductive spCopy (K:PySem.W.Frag) (bs:List Nat) (vs:List V) (H:Hp) (Q:VK) (E:XK):Prop
 | mk (X:Addr->Prop) (l:Addr) (ds:List Deed) (h0:vs=[.ref l]) (hX:∀c,X c->H c≠none) (h1:ListX K (rm X H) bs l ds) (q:∀l' H',Same H H'->ListX K (rm X H') bs l' ds->Q (.ref l') H'):spCopy K bs vs H Q E
inductive spOwn (K:PySem.W.Frag) (bs:List Nat) (vs:List V) (H:Hp) (Q:VK) (E:XK):Prop
 | mk (X:Addr->Prop) (t:Addr) (d:Deed) (h0:vs=[.ref t]) (hX:∀c,X c->H c≠none) (h1:DeedX K (rm X H) (ListX K (rm X H) bs) t d) (q:∀t' H',Same H H'->DeedX K (rm X H') (ListX K (rm X H') bs) t' d->Q (.ref t') H'):spOwn K bs vs H Q E
inductive spBehind (K:PySem.W.Frag) (vs:List V) (H:Hp) (Q:VK) (E:XK):Prop
 | mk (t:Addr) (ns:List Int) (k:Int) (h0:vs=[.ref t]) (h:SqT K H t ((ns++[k]).map V.int)) (hn:ns.length<=100) (q:∀t' H',Same H H'->SqT K H' t' ((ns++[k+1]).map V.int)->Q (.ref t') H'):spBehind K vs H Q E
theorem scBehind:FnScope ["path"] ["path"] (ao rh):=⟨rfl,rfl,rfl,by decide +kernel,rfl,by decide +kernel,by decide +kernel⟩
theorem a3v (C:Con K mg w) (F:Fun K "behind_deed" "behind_deed" rh f fd):FnOk P w K mg base CX0 1 f fd ["path"] (spBehind K):=by
 refine F.okQ scBehind (fun vs H Q E h=>?_) (fun cdv A outer s0 H vs Q E hr h=>?_)
 . obtain⟨t,ns,k,rfl,_⟩:=h;rfl
 obtain⟨t,ns,k,rfl,h,hn,q⟩:=h
 have nd:=scBehind.nd
 refine⟨_,(ag (av (ap v5 (bz ig (qv 0) cy (cb (et dh ab))) (bp (ce (ap bh (ah ay (qv 0) (et dh ab) (fun _ _=>rfl)) ab) aa))))),?_⟩
 rw[List.map_append] at h
 refine⟨_,rfl,_,rfl,_,rfl,t,_,rfl,h,fun p1 H1 e1 h1=>?_⟩
 have hc:cutV (ns.map V.int++[k].map V.int) none (some (-1))=ns.map V.int:=yz _ _ (m:=1) rfl (by decide)
 rw[show cutV (ns.map V.int++[k].map V.int) none (some (-(1:Int)))=ns.map V.int from hc] at h1
 refine⟨_,rfl,_,rfl,t,_,_,_,rfl,rfl,e1.seqT h,dj,_,_,rfl,rfl,(show 1<=sizeLine by decide),fun p2 hp2=>?_⟩
 have s2:=ad hp2 (.tup [.int (k+1)])
 refine⟨p1,p2,_,_,rfl,rfl,s2.seqT h1,SqT.of a0,bn (by rw[List.length_map];show _+1<=1000;omega),fun p3 H3 e3 h3=>?_⟩
 exact q p3 H3 ((e1.trans s2).trans e3) (by rw[List.map_append];exact h3)
theorem scOwnDeed:FnScope ["deed"] ["deed"] (ao pe):=⟨rfl,rfl,rfl,by decide +kernel,rfl,by decide +kernel,by decide +kernel⟩
theorem scOwnDeeds:FnScope ["deeds"] ["deeds"] (ao lr):=⟨rfl,rfl,rfl,by decide +kernel,rfl,by decide +kernel,by decide +kernel⟩
theorem a51:FnOk P w K mg base CX0 1 f fd ["deeds"] (spCopy K []) :=
 ⟨fun vs H Q E h=>by obtain⟨X,l,ds,_,_,h1,_⟩:=h;exact h1.elim,fun A outer s H args us vs Q E _ _ _ _ h=>by obtain⟨X,l,ds,_,_,h1,_⟩:=h;exact h1.elim⟩
theorem a5r {n b:Nat}{bs:List Nat}(hb:b<=900) (C:Con K mg w) (F:Fun K "own_deeds" "own_deeds" lr f fd) (GO:FnOk P w K mg base CX0 (n+1) gO dO ["deed"] (spOwn K bs)) (cO:Cal K mg "own_deed" gO dO ["deed"]):FnOk P w K mg base CX0 (n+1+1) f fd ["deeds"] (spCopy K (b::bs)):=by
 refine F.okQ scOwnDeeds (fun vs H Q E h=>?_) (fun cdv A outer s0 H vs Q E hr h=>?_)
 . obtain⟨X,l,ds,rfl,_⟩:=h;rfl
 obtain⟨X,l,ds,rfl,hX,⟨ts,hl,hp,hlen⟩,q⟩:=h
 have nd:=scOwnDeeds.nd
 refine⟨_,(ag (av (gw (fq (qv 0)) (fun _ _ _ _=>ii) (fun _ _ _ _=>(ak GO hr rfl cO.name cO.keep cO.bind .nil am (af (qv 0) aa)))))),?_⟩
 have hpl:=Paired.length hp
 refine⟨_,rfl,l,rfl,⟨_,SqL.of (fk _ _ hl)⟩,?_⟩
 refine iz (ts.map V.ref) ds (fun D G y d=>∃t',y=V.ref t'/\DeedX K (rm (fun c=>X c\/c=D) G) (ListX K (rm (fun c=>X c\/c=D) G) bs) t' d) id i3 (SqL.of (fk _ _ hl)) (by rw[List.length_map];omega) (by rw[List.length_map,hpl]) (fun D G G' y d z e=>?_) (fun D hD j x d hx hd H2 e2 hD2 Q' q'=>?_) (fun D H2 ys hD e2 hD2 hpt=>?_)
 . obtain⟨t',rfl,h⟩:=z
   have g:Same (rm (fun c=>X c\/c=D) G) (rm (fun c=>X c\/c=D) G'):=wk e (.inr rfl)
   exact⟨t',rfl,h.same g fun _ _ y=>y.same g⟩
 . rw[List.getElem?_map] at hx
   obtain⟨t,ht,rfl⟩:=Option.map_eq_some_iff.mp hx
   obtain⟨d',hd',hX2⟩:=Paired.nth hp ht
   rw[hd] at hd';cases hd'
   have g:Same (rm X H) (rm (fun c=>X c\/c=D) H2):=fun b o h=>by
     obtain⟨h1,h2⟩:=gu h
     rw[er (fun z=>z.elim h1 (ai h2 hD))];exact e2 _ _ h2
   refine⟨_,rfl,(fun c=>X c\/c=D),t,d,rfl,fun c z y=>?_,hX2.same g fun _ _ y=>y.same g,fun t' H3 e3 h3=>q' (.ref t') H3 e3 ⟨t',rfl,h3⟩⟩
   rcases z with z|z
   . cases qc:H c with
     | none=>exact hX c z qc
     | some o=>rw[e2 _ _ qc] at y;cases y
   . rw[z] at y;exact hD2 y
 rw[List.map_id] at hpt
 obtain⟨us,rfl,hpp⟩:=g8 hpt
 have hsub:Same (rm (fun c=>X c\/c=D) H2) (rm X H2):=aa2 fun c z=>.inl z
 exact q D H2 e2 ⟨us,by rw[er (fun z=>hX D z hD)];exact hD2,Paired.mapP hpp fun _ _ z=>z.same hsub fun _ _ y=>y.same hsub,by rw[Paired.length hpp,<- hpl];exact hlen⟩
theorem a7u {n:Nat}{bs:List Nat}(C:Con K mg w) (F:Fun K "own_deed" "own_deed" pe f fd) (GS:FnOk P w K mg base CX0 (n+1) gS dS ["deeds"] (spCopy K bs)) (cS:Cal K mg "own_deeds" gS dS ["deeds"]):FnOk P w K mg base CX0 (n+1+1) f fd ["deed"] (spOwn K bs):=by
 refine F.okQ scOwnDeed (fun vs H Q E h=>?_) (fun cdv A outer s0 H vs Q E hr h=>?_)
 . obtain⟨X,t,d,rfl,_⟩:=h;rfl
 obtain⟨X,t,d,rfl,hX,hd,q⟩:=h
 have nd:=scOwnDeed.nd
 have hXX:∀{H':Hp},Same H H'->∀c,X c->H' c≠none:=fun {H'} e' c z y=>by
   cases qc:H c with
   | none=>exact hX c z qc
   | some o=>rw[e' _ _ qc] at y;cases y
 refine⟨_,ae (b6 (ar be (ah ay (qv 0) ab (fun _ _=>rfl)) b0 (ax _)) (ag (av (ap my (bz qj (qv 0) cy (cb ab)) (bp (az (ak GS hr rfl cS.name cS.keep cS.bind .nil am (aw (ah ay (qv 0) ab (fun _ _=>rfl)) aa)) (az (ak GS hr rfl cS.name cS.keep cS.bind .nil am (aw (ah ay (qv 0) ab (fun _ _=>rfl)) aa)) aa)))))) b9)
   (ae (b6 (ar be (ah ay (qv 0) ab (fun _ _=>rfl)) b0 (ax _)) (ag (av (ap my (bz qj (qv 0) cy (cb ab)) (bp (m9 (az (b7 cv rfl C.list PyProof.Rows.boot_list (aw (ah ay (ah ay (qv 0) ab (fun _ _=>rfl)) ab (fun _ _=>rfl)) aa)) (az (b7 cv rfl C.list PyProof.Rows.boot_list (aw (ah ay (ah ay (qv 0) ab (fun _ _=>rfl)) ab (fun _ _=>rfl)) aa)) aa)) (az (ak GS hr rfl cS.name cS.keep cS.bind .nil am (aw (ah ay (qv 0) ab (fun _ _=>rfl)) aa)) aa)))))) b9)
   (ag (av (qv 0)))),?_⟩
 have nw:∀{H':Hp} {p:Addr},Same H H'->H' p=none->¬ X p:=fun e' hp z=>hXX e' _ z hp
 cases hd with
 | plain p h1 h2 =>
   obtain⟨w,vs,hw,n1,n2⟩:=yf h1 h2
   have hw':=fk _ _ hw
   refine⟨_,rfl,t,_,0,_,rfl,rfl,SqT.of hw',at0,rfl,_,rfl,iteB (fun c=>absurd (V.str.inj (of_decide_eq_true c)) n1) (fun _=>?_)⟩
   refine⟨_,rfl,t,_,0,_,rfl,rfl,SqT.of hw',at0,rfl,_,rfl,iteB (fun c=>absurd (V.str.inj (of_decide_eq_true c)) n2) (fun _=>?_)⟩
   exact⟨_,rfl,q t H (Same.refl _) (.plain p h1 h2)⟩
 | cond c i' o r a b' h hc okr hi' ho =>
   have h':=fk _ _ h
   refine⟨_,rfl,t,_,0,_,rfl,rfl,SqT.of h',rfl,rfl,_,rfl,iteB (fun _=>?_) (fun c=>absurd c (by decide +kernel))⟩
   refine⟨_,rfl,_,rfl,t,_,rfl,SqT.of h',(fun z=>absurd z.2 (show ¬ (2:Nat)=4 by decide)),fun p1 hp1=>?_⟩
   have s1:=ad hp1 (.tup [.str "if",.ref c])
   have k1:(upd H p1 (.tup [.str "if",.ref c])) p1=some (.tup [.str "if",.ref c]):=a0
   change tTup _ _ (upd H p1 (.tup [.str "if",.ref c])) _
   generalize upd H p1 (.tup [.str "if",.ref c])=H1 at s1 k1 |-
   refine⟨_,rfl,t,_,2,_,rfl,rfl,SqT.of (s1 _ _ h'),rfl,X,i',a,rfl,hXX s1,hi'.same (du s1),fun l1 H3 e3' hl3=>?_⟩
   have e3:=s1.trans e3'
   refine⟨_,rfl,t,_,3,_,rfl,rfl,SqT.of (e3 _ _ h'),rfl,X,o,b',rfl,hXX e3,ho.same (du e3),fun l2 H4 e4' hl4=>?_⟩
   have e4:=e3.trans e4'
   refine⟨(show 2<=sizeLine by decide),fun p2 hp2=>?_⟩
   have s5:=ad hp2 (.tup [.ref l1,.ref l2])
   have k5:(upd H4 p2 (.tup [.ref l1,.ref l2])) p2=some (.tup [.ref l1,.ref l2]):=a0
   generalize upd H4 p2 (.tup [.ref l1,.ref l2])=H5 at s5 k5 |-
   have e5:=e4.trans s5
   refine⟨p1,p2,_,_,rfl,rfl,SqT.of (s5 _ _ (e4' _ _ (e3' _ _ k1))),SqT.of k5,(by simp),(show 4<=sizeLine by decide),(fun z=>by cases z),fun _ nt hnt=>?_⟩
   have s6:=ad hnt (.tup [.str "if",.ref c,.ref l1,.ref l2])
   have k6:(upd H5 nt (.tup [.str "if",.ref c,.ref l1,.ref l2])) nt=some (.tup [.str "if",.ref c,.ref l1,.ref l2]):=a0
   have nn:=nw e5 hnt
   have e6:=e5.trans s6
   exact q nt _ e6 (.cond c l1 l2 r a b' (by rw[er nn];exact k6) (du e6 _ _ hc) okr (hl3.same (du ((e4'.trans s5).trans s6))) (hl4.same (du (s5.trans s6))))
 | loop c td i' fa pa r F' P' a h hc okr htd hF hP okF okP lF lP hi' =>
   have h':=fk _ _ h
   have htd':=fk _ _ htd
   refine⟨_,rfl,t,_,0,_,rfl,rfl,SqT.of h',rfl,rfl,_,rfl,iteB (fun c=>absurd c (by decide +kernel)) (fun _=>?_)⟩
   refine⟨_,rfl,t,_,0,_,rfl,rfl,SqT.of h',rfl,rfl,_,rfl,iteB (fun _=>?_) (fun c=>absurd c (by decide +kernel))⟩
   obtain⟨as1,hF1,hF2⟩:=hF
   obtain⟨as2,hP1,hP2⟩:=hP
   refine⟨_,rfl,_,rfl,t,_,rfl,SqT.of h',(fun z=>absurd z.2 (show ¬ (2:Nat)=4 by decide)),fun p1 hp1=>?_⟩
   have s1:=ad hp1 (.tup [.str "while",.ref c])
   have k1:(upd H p1 (.tup [.str "while",.ref c])) p1=some (.tup [.str "while",.ref c]):=a0
   change tTup _ _ (upd H p1 (.tup [.str "while",.ref c])) _
   generalize upd H p1 (.tup [.str "while",.ref c])=H1 at s1 k1 |-
   refine⟨_,rfl,t,_,2,_,rfl,rfl,SqT.of (s1 _ _ h'),rfl,td,_,0,_,rfl,rfl,SqT.of (s1 _ _ htd'),rfl,fa,_,rfl,.inl (SqL.of (s1 _ _ (fk _ _ hF1))),fun n1 hn1=>?_⟩
   have s2':=ad hn1 (.lst (as1.map V.ref))
   have k2:(upd H1 n1 (.lst (as1.map V.ref))) n1=some (.lst (as1.map V.ref)):=a0
   have nn1:=nw s1 hn1
   generalize upd H1 n1 (.lst (as1.map V.ref))=H2 at s2' k2 |-
   have s2:=s1.trans s2'
   refine⟨_,rfl,t,_,2,_,rfl,rfl,SqT.of (s2 _ _ h'),rfl,td,_,1,_,rfl,rfl,SqT.of (s2 _ _ htd'),rfl,pa,_,rfl,.inl (SqL.of (s2 _ _ (fk _ _ hP1))),fun n2 hn2=>?_⟩
   have s3':=ad hn2 (.lst (as2.map V.ref))
   have k3:(upd H2 n2 (.lst (as2.map V.ref))) n2=some (.lst (as2.map V.ref)):=a0
   have nn2:=nw s2 hn2
   generalize upd H2 n2 (.lst (as2.map V.ref))=H3 at s3' k3 |-
   have s3:=s2.trans s3'
   refine⟨(show 2<=sizeLine by decide),fun tt htt=>?_⟩
   have s4':=ad htt (.tup [.ref n1,.ref n2])
   have k4:(upd H3 tt (.tup [.ref n1,.ref n2])) tt=some (.tup [.ref n1,.ref n2]):=a0
   have nn3:=nw s3 htt
   generalize upd H3 tt (.tup [.ref n1,.ref n2])=H4 at s4' k4 |-
   have s4:=s3.trans s4'
   refine⟨_,rfl,t,_,3,_,rfl,rfl,SqT.of (s4 _ _ h'),rfl,X,i',a,rfl,hXX s4,hi'.same (du s4),fun l1 H5 e5' hl5=>?_⟩
   have e5:=s4.trans e5'
   refine⟨(show 2<=sizeLine by decide),fun p2 hp2=>?_⟩
   have s6':=ad hp2 (.tup [.ref tt,.ref l1])
   have k6:(upd H5 p2 (.tup [.ref tt,.ref l1])) p2=some (.tup [.ref tt,.ref l1]):=a0
   generalize upd H5 p2 (.tup [.ref tt,.ref l1])=H6 at s6' k6 |-
   have e6:=e5.trans s6'
   have f5:=e5'.trans s6'
   have f4:=s4'.trans f5
   have f3:=s3'.trans f4
   have f2:=s2'.trans f3
   refine⟨p1,p2,_,_,rfl,rfl,SqT.of (f2 _ _ k1),SqT.of k6,(by simp),(show 4<=sizeLine by decide),(fun z=>by cases z),fun _ nt hnt=>?_⟩
   have s7:=ad hnt (.tup [.str "while",.ref c,.ref tt,.ref l1])
   have k7:(upd H6 nt (.tup [.str "while",.ref c,.ref tt,.ref l1])) nt=some (.tup [.str "while",.ref c,.ref tt,.ref l1]):=a0
   have nn:=nw e6 hnt
   have e7:=e6.trans s7
   exact q nt _ e7 (.loop c tt l1 n1 n2 r F' P' a (by rw[er nn];exact k7) (du e7 _ _ hc) okr (by rw[er nn3];exact s7 _ _ (f5 _ _ k4)) ⟨as1,by rw[er nn1];exact s7 _ _ (f3 _ _ k2),Paired.mapP hF2 fun _ _ z=>RowAt.same z (du e7)⟩ ⟨as2,by rw[er nn2];exact s7 _ _ (f4 _ _ k3),Paired.mapP hP2 fun _ _ z=>RowAt.same z (du e7)⟩ okF okP lF lP (hl5.same (du (s6'.trans s7))))
theorem a5c {H:Hp}{l:Addr}{as bs:List Addr}(h1:H l=some (.lst (as.map V.ref))) (h2:H l=some (.lst (bs.map V.ref))):as=bs:=by
 rw[h1] at h2
 exact (List.map_inj_right (f:=V.ref) (fun x y z=>by injection z)).mp (HO.lst.inj (Option.some.inj h2))
noncomputable abbrev pb:Stmt:=top 27
inductive LEnd (H:Hp) (bd:Addr):Pre->Addr->Pre×Nat->Option Addr->Prop
 | top (ts:List Addr) (h:H bd=some (.lst (ts.map V.ref))):LEnd H bd [] bd ([],ts.length) none
 | last (p:Pre) (l:Addr) (ts:List Addr) (k s:Nat) (t i o m:Addr) (c:V) (due:Pre×Nat) (e:Option Addr) (hl:LEnd H bd p l due e) (h:H l=some (.lst (ts.map V.ref))) (hk:ts[k]? = some t) (ht:H t=some (.tup [.str "if",c,.ref i,.ref o])) (hs:(s=0/\m=i)\/(s=1/\m=o)) (hn:k+1=ts.length):LEnd H bd (p++[(k,s)]) m due e
 | next (p:Pre) (l:Addr) (ts:List Addr) (k s:Nat) (t i o m t':Addr) (c:V) (due:Pre×Nat) (e:Option Addr) (hl:LEnd H bd p l due e) (h:H l=some (.lst (ts.map V.ref))) (hk:ts[k]? = some t) (ht:H t=some (.tup [.str "if",c,.ref i,.ref o])) (hs:(s=0/\m=i)\/(s=1/\m=o)) (hn:ts[k+1]? = some t'):LEnd H bd (p++[(k,s)]) m (p,k+1) (some t')
 | loop (p:Pre) (l:Addr) (ts:List Addr) (k:Nat) (t m:Addr) (c d:V) (due:Pre×Nat) (e:Option Addr) (hl:LEnd H bd p l due e) (h:H l=some (.lst (ts.map V.ref))) (hk:ts[k]? = some t) (ht:H t=some (.tup [.str "while",c,d,.ref m])):LEnd H bd (p++[(k,0)]) m (p,k) (some t)
section
variable {H H':Hp}{bd:Addr}
theorem LEnd.from {p:Pre}{l:Addr}{due:Pre×Nat}{e:Option Addr}(h:LEnd H bd p l due e):LFrom H bd p l:=by
 induction h with
 | top ts h=>rfl
 | last p l ts k s t i o m c due e hl h hk ht hs hn ih=>exact ih.app ⟨ts,t,m,h,hk,.cond i o c ht hs,rfl⟩
 | next p l ts k s t i o m t' c due e hl h hk ht hs hn ih=>exact ih.app ⟨ts,t,m,h,hk,.cond i o c ht hs,rfl⟩
 | loop p l ts k t m c d due e hl h hk ht ih=>exact ih.app ⟨ts,t,m,h,hk,.loop c d ht rfl,rfl⟩
theorem LEnd.same {p:Pre}{l:Addr}{due:Pre×Nat}{e:Option Addr}(h:LEnd H bd p l due e) (g:Same H H'):LEnd H' bd p l due e:=by
 induction h with
 | top ts h=>exact .top ts (g _ _ h)
 | last p l ts k s t i o m c due e hl h hk ht hs hn ih=>exact .last p l ts k s t i o m c due e ih (g _ _ h) hk (g _ _ ht) hs hn
 | next p l ts k s t i o m t' c due e hl h hk ht hs hn ih=>exact .next p l ts k s t i o m t' c due e ih (g _ _ h) hk (g _ _ ht) hs hn
 | loop p l ts k t m c d due e hl h hk ht ih=>exact .loop p l ts k t m c d due e ih (g _ _ h) hk (g _ _ ht)
inductive Stands (H:Hp) (bd:Addr) (p:Pre) (k:Nat) (due:Pre×Nat) (e:Option Addr):Prop
 | own (l t:Addr) (ts:List Addr) (hl:LFrom H bd p l) (h:H l=some (.lst (ts.map V.ref))) (hk:ts[k]? = some t) (hd:due=(p,k)) (he:e=some t)
 | fin (l:Addr) (ts:List Addr) (hl:LEnd H bd p l due e) (h:H l=some (.lst (ts.map V.ref))) (hk:k=ts.length)
theorem Stands.same {p:Pre}{k:Nat}{due:Pre×Nat}{e:Option Addr}(h:Stands H bd p k due e) (g:Same H H'):Stands H' bd p k due e:=by
 rcases h with⟨l,t,ts,hl,h,hk,hd,he⟩|⟨l,ts,hl,h,hk⟩
 . exact .own l t ts (hl.same g) (g _ _ h) hk hd he
 . exact .fin l ts (hl.same g) (g _ _ h) hk
theorem LEnd.zero {p:Pre}{l:Addr}{due:Pre×Nat}{e:Option Addr}(h:LEnd H bd p l due e) (hp:p=[]):∃ts:List Addr,l=bd/\H bd=some (.lst (ts.map V.ref))/\due=([],ts.length)/\e=none:=by
 cases h with
 | top ts h=>exact⟨ts,rfl,h,rfl,rfl⟩
 | last p l ts k s t i o m c due e hl h hk ht hs hn=>simp at hp
 | next p l ts k s t i o m t' c due e hl h hk ht hs hn=>simp at hp
 | loop p l ts k t m c d due e hl h hk ht=>simp at hp
theorem LEnd.up {p:Pre}{l:Addr}{due:Pre×Nat}{e:Option Addr}(h:LEnd H bd p l due e) (hp:p≠[]):∃(p':Pre) (k' s':Nat) (l' t:Addr) (ts:List Addr),p=p'++[(k',s')]/\LFrom H bd p' l'/\H l'=some (.lst (ts.map V.ref))/\ts[k']? = some t/\((∃c i o,H t=some (.tup [.str "if",c,.ref i,.ref o])/\Stands H bd p' (k'+1) due e)\/∃c d i,H t=some (.tup [.str "while",c,d,.ref i])/\Stands H bd p' k' due e):=by
 cases h with
 | top ts h=>exact absurd rfl hp
 | last p l ts k s t i o m c due e hl h hk ht hs hn=>exact⟨p,k,s,_,t,ts,rfl,hl.from,h,hk,.inl ⟨c,i,o,ht,.fin _ ts hl h hn⟩⟩
 | next p l ts k s t i o m t' c due e hl h hk ht hs hn=>exact⟨p,k,s,_,t,ts,rfl,hl.from,h,hk,.inl ⟨c,i,o,ht,.own _ t' ts hl.from h hn rfl rfl⟩⟩
 | loop p l ts k t m c d due e hl h hk ht=>exact⟨p,k,0,_,t,ts,rfl,hl.from,h,hk,.inr ⟨c,d,_,ht,.own _ t ts hl.from h hk rfl rfl⟩⟩
end
inductive spSettled (K:PySem.W.Frag) (vs:List V) (H:Hp) (Q:VK) (E:XK):Prop
 | mk (bd pt:Addr) (p:Pre) (k:Nat) (due:Pre×Nat) (e:Option Addr) (h0:vs=[.ref bd,.ref pt]) (h1:SqT K H pt ((flat p++[(k:Int)]).map V.int)) (h2:Stands H bd p k due e) (h3:p.length<=40) (q:∀pt' H',Same H H'->SqT K H' pt' ((flat due.1++[(due.2:Int)]).map V.int)->Q (.ref pt') H'):spSettled K vs H Q E
inductive SW (K:PySem.W.Frag) (H:Hp) (bd:Addr) (due:Pre×Nat) (e:Option Addr) (m:Nat) (σ:St) (H1:Hp):Prop
 | mk (pt:Addr) (p:Pre) (k:Nat) (e1:Same H H1) (h1:SqT K H1 pt ((flat p++[(k:Int)]).map V.int)) (h2:Stands H1 bd p k due e) (hm:p.length=m) (h3:m<=40) (hσ:σ=[some (.ref bd),some (.ref pt)])
theorem scSettled:FnScope ["body","path"] ["body","path"] (ao pb):=⟨rfl,rfl,rfl,by decide +kernel,rfl,by decide +kernel,by decide +kernel⟩
theorem a0l (C:Con K mg w) (F:Fun K "settled" "settled" pb f fd) (GL:FnOk P w K mg base CX0 2 gL dL ["body","path"] (spListOf K)) (cL:Cal K mg "list_of" gL dL ["body","path"]) (GF:FnOk P w K mg base CX0 3 gF dF ["body","path"] (spFound K)) (cF:Cal K mg "found_at" gF dF ["body","path"]) (GB:FnOk P w K mg base CX0 1 gB dB ["path"] (spBehind K)) (cB:Cal K mg "behind_deed" gB dB ["path"]):FnOk P w K mg base CX0 4 f fd ["body","path"] (spSettled K):=by
 refine F.okQ scSettled (fun vs H Q E h=>?_) (fun cdv A outer s0 H vs Q E hr h=>?_)
 . obtain⟨bd,pt,p,k,due,e,rfl,_⟩:=h;rfl
 obtain⟨bd,pt,p,k,due,e,rfl,hpt,hst,hp,q⟩:=h
 have nd:=scSettled.nd
 have hr1:=hr.mono (j:=1) (by omega)
 have hr2:=hr.mono (j:=2) (by omega)
 refine⟨_,ae (p6 PassesOwn.never (QW.qt (li (ar uq (ba dk rfl C.len PySem.boot_len (af (qv 1) aa)) ab (ax _)) (jp (ar be (ah ay (qv 1) (et dh ab) (fun _ _=>rfl)) (ba dk rfl C.len PySem.boot_len (az (ak GL hr2 rfl cL.name cL.keep cL.bind .nil am (af (qv 0) (af (qv 1) aa))) aa)) (ax _))))) (ae (aq (i:=1) nd rfl (Or.inl rfl) (bz ig (qv 1) cy (cb (et dh ab))))
   (ag (b6 (ar be (ah ay (ak GF hr rfl cF.name cF.keep cF.bind .nil am (af (qv 0) (af (qv 1) aa))) ab (fun _ _=>rfl)) b0 (ax _)) (ag (aq (i:=1) nd rfl (Or.inl rfl) (ak GB hr1 rfl cB.name cB.keep cB.bind .nil am (af (qv 1) aa)))) b9))))
   (ag (av (qv 1))),?_⟩
 refine au (a:=xj _ _) fun D1 hN1 hR1 hC1=>?_
 refine⟨SW K H bd due e,⟨p.length,pt,p,k,Same.refl _,hpt,hst,rfl,hp,rfl⟩,?_⟩
 rintro m σ H1 ⟨pt,p,k,e1,h1,h2,rfl,h3,rfl⟩
 have hlen:(((flat p++[(k:Int)]).map V.int).length:Int)=2*(p.length:Int)+1:=by rw[List.length_map,List.length_append,l9];simp
 have out:∀H2,Same H1 H2->due=(p,k)->D1.nx [some (.ref bd),some (.ref pt)] H2:=fun H2 e2 hd=>by
   refine hN1 _ _ ⟨_,rfl,?_⟩
   subst hd
   exact q pt H2 (e1.trans e2) (e2.seqT h1)
 refine⟨_,rfl,pt,_,rfl,.inr h1,_,_,rfl,rfl,_,rfl,iteB (fun c1=>?_) (fun c1=>?_)⟩
 . have c1':(1:Int)<(((flat p++[(k:Int)]).map V.int).length:Int):=of_decide_eq_true c1
   have hp0:p≠[]:=fun z=>by rw[hlen,z] at c1';exact absurd c1' (by decide)
   obtain⟨l,ts,hl,hts,hk⟩:∃(l:Addr) (ts:List Addr),LFrom H1 bd p l/\H1 l=some (.lst (ts.map V.ref))/\((k<ts.length/\due=(p,k))\/(k=ts.length/\LEnd H1 bd p l due e)):=by
     rcases h2 with⟨l,t,ts,hl,h,hk,hd,he⟩|⟨l,ts,hl,h,hk⟩
     . exact⟨l,ts,hl,h,.inl ⟨(List.getElem?_eq_some_iff.mp hk).1,hd⟩⟩
     . exact⟨l,ts,hl.from,h,.inr ⟨hk,hl⟩⟩
   have h1':=h1
   rw[List.map_append] at h1'
   refine⟨_,rfl,_,rfl,pt,_,_,_,rfl,rfl,h1',dj,_,rfl,_,rfl,bd,pt,l,p,k,rfl,h1,hl,(by omega),fun H2 e2=>⟨l,_,rfl,.inl (SqL.of (e2 _ _ hts)),rfl,_,rfl,iteB (fun c2=>?_) (fun c2=>?_)⟩⟩
   . have hkl:k=ts.length:=by
       have:=V.int.inj (of_decide_eq_true c2)
       rw[List.length_map] at this;omega
     have hE:LEnd H1 bd p l due e:=by
       rcases hk with⟨z,_⟩|⟨_,z⟩
       . omega
       . exact z
     obtain⟨p',k',s',l',t,ts',rfl,hl',hts',hkt,hor⟩:=hE.up hp0
     refine⟨fun σ' H'=>∃m',m'<(p'++[(k',s')]).length/\SW K H bd due e m' σ' H',fun _ _ z=>z,?_⟩
     have hpl:(p'++[(k',s')]).length=p'.length+1:=by rw[List.length_append];rfl
     have hcut:cutV ((flat (p'++[(k',s')])++[(k:Int)]).map V.int) none (some (-(2:Int)))=(flat p'++[(k':Int)]).map V.int:=by
       rw[we,show (flat p'++flat [(k',s')]++[(k:Int)])=(flat p'++[(k':Int)])++[(s':Int),(k:Int)] by simp[flat],List.map_append]
       exact yz _ _ (m:=2) rfl (by decide)
     refine⟨_,rfl,_,rfl,_,rfl,pt,_,rfl,e2.seqT h1,fun p1 H3 e3 h3'=>?_⟩
     rw[hcut] at h3'
     have e13:=e2.trans e3
     refine⟨_,rfl,_,rfl,bd,p1,l',p',k',ts',rfl,h3',hl'.same e13,(by omega),e13 _ _ hts',fun t2 H4 ht2 e4=>?_,fun H4 hn e4=>by rw[hkt] at hn;cases hn⟩
     rw[hkt] at ht2;cases ht2
     have e14:=e13.trans e4
     rcases hor with⟨c,i,o,ht,hS⟩|⟨c,d,i,ht,hS⟩
     . refine⟨t,_,0,_,rfl,rfl,SqT.of (e14 _ _ ht),rfl,rfl,_,rfl,iteB (fun _=>?_) (fun c=>absurd c (by decide +kernel))⟩
       refine⟨_,rfl,p1,flat p',(k':Int),rfl,e4.seqT h3',by rw[l9];omega,fun p2 H5 e5 h5=>?_⟩
       exact⟨p'.length,by omega,p2,p',k'+1,(e1.trans e14).trans e5,by rw[show ((k'+1:Nat):Int)=(k':Int)+1 by omega];exact h5,hS.same (e14.trans e5),rfl,by omega,rfl⟩
     . refine⟨t,_,0,_,rfl,rfl,SqT.of (e14 _ _ ht),rfl,rfl,_,rfl,iteB (fun c=>absurd c (by decide +kernel)) (fun _=>?_)⟩
       exact⟨p'.length,by omega,p1,p',k',e1.trans e14,e4.seqT h3',hS.same e14,rfl,by omega,rfl⟩
   . have hkl:¬ k=ts.length:=fun z=>of_decide_eq_false c2 (by rw[z,List.length_map])
     rcases hk with⟨_,z⟩|⟨z,_⟩
     . exact out H2 e2 z
     . exact absurd z hkl
 . have c1':¬ (1:Int)<(((flat p++[(k:Int)]).map V.int).length:Int):=of_decide_eq_false c1
   have hp0:p=[]:=List.eq_nil_of_length_eq_zero (by omega)
   refine (if_neg Bool.false_ne_true).mpr (out H1 (Same.refl _) ?_)
   rcases h2 with⟨l,t,ts,hl,h,hk,hd,he⟩|⟨l,ts,hl,h,hk⟩
   . exact hd
   . obtain⟨ts',rfl,h',rfl,_⟩:=hl.zero hp0
     rw[a5c h h'] at hk
     rw[hp0,hk]
noncomputable abbrev vv:Stmt:=top 9
noncomputable abbrev lj:Stmt:=top 18
noncomputable def places:List (Str×V):=[("read",.int 2),("write",.int 1),("free",.int 1)]
inductive spNumOf (vs:List V) (H:Hp) (Q:VK) (E:XK):Prop
 | nil (d:Addr) (h0:vs=[.ref d,.str "nil"]) (q:Q (.int 0) H):spNumOf vs H Q E
 | name (d:Addr) (kvs:List (Key×V)) (x:Str) (v:V) (h0:vs=[.ref d,.str x]) (hx:x ≠ "nil") (h1:H d=some (.dK kvs)) (h2:valV kvs (Sum.inr x)=some v) (q:Q v H):spNumOf vs H Q E
inductive spCellName (K:PySem.W.Frag) (vs:List V) (H:Hp) (Q:VK) (E:XK):Prop
 | none (t:Addr) (w:Str) (us:List V) (h0:vs=[.ref t]) (h1:SqT K H t (.str w::us)) (h2:places.lookup w=none) (q:Q .non H):spCellName K vs H Q E
 | some (t:Addr) (w:Str) (us:List V) (k:Nat) (v:V) (h0:vs=[.ref t]) (h1:SqT K H t (.str w::us)) (h2:places.lookup w=some (.int (k:Int))) (h3:(V.str w::us)[k]? = some v) (q:Q v H):spCellName K vs H Q E
theorem scNumOf:FnScope ["values","word"] ["values","word"] (ao vv):=⟨rfl,rfl,rfl,by decide +kernel,rfl,by decide +kernel,by decide +kernel⟩
theorem a5y (C:Con K mg w) (F:Fun K "number_of" "number_of" vv f fd):FnOk P w K mg base CX0 1 f fd ["values","word"] spNumOf:=by
 refine F.okQ scNumOf (fun vs H Q E h=>?_) (fun cdv A outer s0 H vs Q E hr h=>?_)
 . rcases h with⟨_,rfl,_⟩|⟨_,_,_,_,rfl,_⟩<;>rfl
 have nd:=scNumOf.nd
 have hu1:=ft hr
 refine⟨_,(ag (av (gf (ar be (qv 1) b0 (ax _)) ab (cw hu1 (qv 0) (qv 1) (fun _ _=>rfl))))),?_⟩
 rcases h with⟨d,rfl,q⟩|⟨d,kvs,x,v,rfl,hx,h1,h2,q⟩
 . exact⟨_,rfl,rfl,_,rfl,iteB (fun _=>q) (fun c=>absurd c (by simp))⟩
 . refine⟨_,rfl,rfl,_,rfl,iteB (fun c=>absurd (V.str.inj (of_decide_eq_true c)) hx) (fun _=>?_)⟩
   have hg:=DGet.k (k:=Sum.inr x) h1
   rw[h2] at hg
   exact⟨_,rfl,_,rfl,d,v,rfl,hg,q⟩
theorem scCellName:FnScope ["deed","place"] ["deed"] (ao lj):=⟨rfl,rfl,rfl,by decide +kernel,rfl,by decide +kernel,by decide +kernel⟩
theorem xp (C:Con K mg w) (F:Fun K "cell_name" "cell_name" lj f fd):FnOk P w K mg base CX0 1 f fd ["deed"] (spCellName K):=by
 refine F.okQ scCellName (fun vs H Q E h=>?_) (fun cdv A outer s0 H vs Q E hr h=>?_)
 . rcases h with⟨_,_,_,rfl,_⟩|⟨_,_,_,_,_,rfl,_⟩<;>rfl
 have nd:=scCellName.nd
 obtain⟨aP,gP,kP⟩:=C.places
 refine⟨_,ae (aq (i:=1) nd rfl (Or.inl rfl) (a7x (qe_g gP) (aw (ah ay (qv 0) ab (fun _ _=>rfl)) aa)))
   (ag (av (gf (ar vz (qv 1) i7 (ax _)) i7 (ah ay (qv 0) (qv 1) (fun _ _=>rfl))))),?_⟩
 rcases h with⟨t,w',us,rfl,h1,h2,q⟩|⟨t,w',us,k,v,rfl,h1,h2,h3,q⟩
 . have h2':([("read",.int 2),("write",.int 1),("free",.int 1)]:List (Str×V)).lookup w'=Option.none:=h2
   refine⟨aP,_,rfl,kP,_,rfl,t,_,0,_,rfl,rfl,h1,at0,w',rfl,?_⟩
   rw[h2']
   exact⟨_,rfl,rfl,_,rfl,iteB (fun _=>q) (fun c=>absurd c (by simp))⟩
 . have h2':([("read",.int 2),("write",.int 1),("free",.int 1)]:List (Str×V)).lookup w'=Option.some (.int (k:Int)):=h2
   refine⟨aP,_,rfl,kP,_,rfl,t,_,0,_,rfl,rfl,h1,at0,w',rfl,?_⟩
   rw[h2']
   exact⟨_,rfl,rfl,_,rfl,iteB (fun c=>absurd c (by simp)) (fun _=>⟨_,rfl,_,rfl,t,_,_,_,rfl,rfl,h1,ca h3,q⟩)⟩
theorem b5 {X:Cx}{K:PySem.W.Frag}{e:Expr}{fl:Str}{pos:Pos}{ta:TE}(h:X.K=K) (he:QE X e ta) (hb:attributeBase e fl X.env (eval e X.env)=eval e X.env:=by rfl):QE X (.Attribute e fl pos) (tFld K ta fl):=by subst h;exact a9p he hb
theorem dn {X:Cx}{K:PySem.W.Frag}{o value:Expr}{fl:Str}{pos pos':Pos}{ta tv:TE}(h:X.K=K) (ha:QE X o ta) (hv:QE X value tv) (hs:swapsWith value (some (.Attribute o fl pos')) pos.line X.env=pure false:=by rfl):QS X (.Assign [.Attribute o fl pos'] value pos) (sFld K ta tv fl):=by subst h;exact aa8 ha hv hs
noncomputable abbrev w6:Stmt:=cx (top 29) 0
noncomputable abbrev xh:Stmt:=cx (top 29) 1
noncomputable abbrev xb:Stmt:=cx (top 29) 2
noncomputable abbrev a09:Stmt:=cx (top 29) 3
structure TxF (K:PySem.W.Frag) (mg:Str->Option Value) (C fI:Addr):Prop where
 cl:Cls K C
 nP:NoAttr K C "procedure"
 nA:NoAttr K C "path"
 nN:NoAttr K C "numbers"
 nR:NoAttr K C "receiver"
 mgC:mg "Frame" = some (.ref C)
 mkC:Mk K C fI
structure MCal (K:PySem.W.Frag) (C:Addr) (m:Str) (f:Addr) (fd:FuncData) (ps:List Str):Prop where
 meth:Meth K C m f
 bind:Binds K fd ps []
structure FFs (fs:List (Str×V)) (pr pt nd:Addr) (rc:Str):Prop where
 procedure:fs.lookup ("procedure" : Str)=some (.ref pr)
 path:fs.lookup ("path" : Str)=some (.ref pt)
 numbers:fs.lookup ("numbers" : Str)=some (.ref nd)
 receiver:fs.lookup ("receiver" : Str)=some (.str rc)
 len:fs.length<100
 meth:∀m∈([("deed" : Str),"move","number"]:List Str),fs.lookup m=none
theorem a9a:∀m∈([("deed" : Str),"move","number"]:List Str),m≠("path" : Str):=by decide +kernel
theorem a7r:("procedure" : Str) ≠ "path" /\ ("numbers" : Str) ≠ "path" /\ ("receiver" : Str) ≠ "path" := by decide +kernel
theorem FFs.path' {fs:List (Str×V)}{pr pt nd:Addr}{rc:Str}(h:FFs fs pr pt nd rc) (hl:fs.length<50) (q:Addr):FFs (putF "path" (.ref q) fs) pr q nd rc:=by
 obtain⟨n1,n2,n3⟩:=a7r
 refine⟨?_,?_,?_,?_,?_,fun m hm=>?_⟩
 . rw[aj,if_neg n1];exact h.procedure
 . rw[aj,if_pos rfl]
 . rw[aj,if_neg n2];exact h.numbers
 . rw[aj,if_neg n3];exact h.receiver
 . have:=bb "path" (.ref q) fs;omega
 . rw[aj,if_neg (a9a m hm)];exact h.meth m hm
noncomputable def qz (C:Addr):Sp:=fun vs H Q E=>∃(p dx pr pt nd:Addr) (fs:List (Str×V)) (rc x:Str),vs=[.ref p,.str x]/\H p=some (.ins C dx fs)/\FFs fs pr pt nd rc/\spNumOf [.ref nd,.str x] H Q E0
noncomputable def lz (K:PySem.W.Frag) (C:Addr):Sp:=fun vs H Q E=>∃(p dx pr pt nd bd:Addr) (fs:List (Str×V)) (rc:Str) (v0 v1 v2 v3 v4:V),vs=[.ref p]/\H p=some (.ins C dx fs)/\FFs fs pr pt nd rc/\H pr=some (.tup [v0,v1,v2,v3,v4,.ref bd])/\spFound K [.ref bd,.ref pt] H Q E0
theorem scFNum:FnScope ["self","word"] ["self","word"] (ao a09):=⟨rfl,rfl,rfl,by decide +kernel,rfl,by decide +kernel,by decide +kernel⟩
theorem a7m (T:TxF K mg C fI) (F:Fun K "number" "Frame.number" a09 f fd) (GN:FnOk P w K mg base CX0 1 gN dN ["values","word"] spNumOf) (cN:Cal K mg "number_of" gN dN ["values","word"]):FnOk P w K mg base CX0 2 f fd ["self","word"] (qz C):=by
 refine F.okQ scFNum (fun vs H Q E h=>?_) (fun cdv A outer s0 H vs Q E hr h=>?_)
 . obtain⟨p,dx,pr,pt,nd,fs,rc,x,rfl,_⟩:=h;rfl
 obtain⟨p,dx,pr,pt,nd,fs,rc,x,rfl,hp,hf,q⟩:=h
 have nd:=scFNum.nd
 refine⟨_,(ag (av (ak GN hr rfl cN.name cN.keep cN.bind .nil am (cn (b5 (K:=K) rfl (qv 0)) (af (qv 1) aa))))),?_⟩
 exact⟨_,rfl,p,C,dx,fs,_,rfl,hp,T.cl,T.nN,hf.numbers,_,rfl,q⟩
theorem scFDeed:FnScope ["self"] ["self"] (ao xh):=⟨rfl,rfl,rfl,by decide +kernel,rfl,by decide +kernel,by decide +kernel⟩
theorem a4i (T:TxF K mg C fI) (F:Fun K "deed" "Frame.deed" xh f fd) (GF:FnOk P w K mg base CX0 3 gF dF ["body","path"] (spFound K)) (cF:Cal K mg "found_at" gF dF ["body","path"]):FnOk P w K mg base CX0 4 f fd ["self"] (lz K C):=by
 refine F.okQ scFDeed (fun vs H Q E h=>?_) (fun cdv A outer s0 H vs Q E hr h=>?_)
 . obtain⟨p,dx,pr,pt,nd,bd,fs,rc,v0,v1,v2,v3,v4,rfl,_⟩:=h;rfl
 obtain⟨p,dx,pr,pt,nd,bd,fs,rc,v0,v1,v2,v3,v4,rfl,hp,hf,hpr,q⟩:=h
 have nd:=scFDeed.nd
 refine⟨_,(ag (av (ak GF hr rfl cF.name cF.keep cF.bind .nil am (aw (ah ay (b5 (K:=K) rfl (qv 0)) ab (fun _ _=>rfl)) (cn (b5 (K:=K) rfl (qv 0)) aa))))),?_⟩
 exact⟨_,rfl,p,C,dx,fs,_,rfl,hp,T.cl,T.nP,hf.procedure,pr,_,5,_,rfl,rfl,SqT.of hpr,rfl,_,rfl,p,C,dx,fs,_,rfl,hp,T.cl,T.nA,hf.path,q⟩
noncomputable def ze (K:PySem.W.Frag) (C:Addr):Sp:=fun vs H Q E=>∃(p dx pr pt nd bd q0:Addr) (fs:List (Str×V)) (rc:Str) (v0 v1 v2 v3 v4:V) (pp:Pre) (k:Nat) (due:Pre×Nat) (e:Option Addr),vs=[.ref p,.ref q0]/\H p=some (.ins C dx fs)/\FFs fs pr pt nd rc/\fs.length<50/\H pr=some (.tup [v0,v1,v2,v3,v4,.ref bd])/\SqT K H q0 ((flat pp++[(k:Int)]).map V.int)/\Stands H bd pp k due e/\pp.length<=40/\
 ∀q1 fs' H',Same H H'->SqT K H' q1 ((flat due.1++[(due.2:Int)]).map V.int)->FFs fs' pr q1 nd rc->fs'.length<=fs.length+1->(∀f,f≠("path" : Str)->fs'.lookup f=fs.lookup f)->Q .non (upd H' p (.ins C dx fs'))
theorem scFMove:FnScope ["self","path"] ["self","path"] (ao xb):=⟨rfl,rfl,rfl,by decide +kernel,rfl,by decide +kernel,by decide +kernel⟩
theorem a5x (T:TxF K mg C fI) (F:Fun K "move" "Frame.move" xb f fd) (GS:FnOk P w K mg base CX0 4 gS dS ["body","path"] (spSettled K)) (cS:Cal K mg "settled" gS dS ["body","path"]):FnOk P w K mg base CX0 5 f fd ["self","path"] (ze K C):=by
 refine F.okQ scFMove (fun vs H Q E h=>?_) (fun cdv A outer s0 H vs Q E hr h=>?_)
 . obtain⟨p,dx,pr,pt,nd,bd,q0,fs,rc,v0,v1,v2,v3,v4,pp,k,due,e,rfl,_⟩:=h;rfl
 obtain⟨p,dx,pr,pt,nd,bd,q0,fs,rc,v0,v1,v2,v3,v4,pp,k,due,e,rfl,hp,hf,hl,hpr,hq,hst,hpl,q⟩:=h
 have nd:=scFMove.nd
 refine⟨_,(ag (dn (K:=K) rfl (qv 0) (ak GS hr rfl cS.name cS.keep cS.bind .nil am (aw (ah ay (b5 (K:=K) rfl (qv 0)) ab (fun _ _=>rfl)) (af (qv 1) aa))))),?_⟩
 refine⟨_,rfl,p,C,dx,fs,_,rfl,hp,T.cl,T.nP,hf.procedure,pr,_,5,_,rfl,rfl,SqT.of hpr,rfl,_,rfl,bd,q0,pp,k,due,e,rfl,hq,hst,hpl,fun q1 H1 e1 h1=>?_⟩
 refine⟨_,rfl,p,C,dx,fs,rfl,e1 _ _ hp,T.cl,T.nA,by omega,?_⟩
 exact q q1 _ H1 e1 h1 (hf.path' hl q1) (bb _ _ _) fun f hf'=>by rw[aj,if_neg hf']
noncomputable def fz (kvs:List (Key×V)) (zs:List Str):List (Str×V):=zs.map fun z=>(z,(valV kvs (Sum.inr z)).getD (.int 0))
inductive spFInit (K:PySem.W.Frag) (C:Addr) (bs:List Nat) (vs:List V) (H:Hp) (Q:VK) (E:XK):Prop
 | mk (G:Hp) (p dx t q0 nm bd:Addr) (rc:Str) (pc:Prc) (xs:List Str) (v0 v1 v2 v3 v4:V) (kvs:List (Key×V)) (pp:Pre) (k:Nat) (due:Pre×Nat) (e:Option Addr) (h0:vs=[.ref p,.ref t,.ref q0,.ref nm,.str rc]) (eG:Same G H) (hp:G p=none) (hp1:H p=some (.ins C dx [])) (h1:PrcAt K G bs t pc) (h2:PrcOk bs xs pc) (hbd:G t=some (.tup [v0,v1,v2,v3,v4,.ref bd])) (h3:SqT K G q0 ((flat pp++[(k:Int)]).map V.int)) (h4:Stands G bd pp k due e) (h5:pp.length<=40) (h6:G nm=some (.dK kvs))
     (q:∀q1 nd fs zs H',Same G H'->H' p=some (.ins C dx fs)->FFs fs t q1 nd rc->fs.length<=4->SqT K H' q1 ((flat due.1++[(due.2:Int)]).map V.int)->H nd=none->H' nd=some (.dK ((fz kvs zs).map kk))->zs.Nodup->PyProof.Rows.sortedS zs=true->(∀y,y∈zs↔bm y=true/\y∈allW bs pc)->Q .non H'):spFInit K C bs vs H Q E
theorem a86:("procedure" : Str) ≠ "path" /\ ("procedure" : Str) ≠ "numbers" /\ ("procedure" : Str) ≠ "receiver" /\ ("path" : Str) ≠ "numbers" /\ ("path" : Str) ≠ "receiver" /\ ("numbers" : Str) ≠ "receiver" := by decide +kernel
theorem aak:∀m∈([("deed" : Str),"move","number"]:List Str),m≠("procedure" : Str)/\m≠("path" : Str)/\m≠("numbers" : Str)/\m≠("receiver" : Str):=by decide +kernel
theorem a75 (pr pt nd:Addr) (rc:Str):FFs (putF "receiver" (.str rc) (putF "numbers" (.ref nd) (putF "path" (.ref pt) (putF "procedure" (.ref pr) [])))) pr pt nd rc/\(putF "receiver" (.str rc) (putF "numbers" (.ref nd) (putF "path" (.ref pt) (putF "procedure" (.ref pr) [])))).length<=4:=by
 obtain⟨n1,n2,n3,n4,n5,n6⟩:=a86
 have h1:=bb "procedure" (.ref pr) []
 have h2:=bb "path" (.ref pt) (putF "procedure" (.ref pr) [])
 have h3:=bb "numbers" (.ref nd) (putF "path" (.ref pt) (putF "procedure" (.ref pr) []))
 have h4:=bb "receiver" (.str rc) (putF "numbers" (.ref nd) (putF "path" (.ref pt) (putF "procedure" (.ref pr) [])))
 simp only[List.length_nil] at h1
 refine⟨⟨?_,?_,?_,?_,by omega,fun m hm=>?_⟩,by omega⟩
 . rw[aj,if_neg n3,aj,if_neg n2,aj,if_neg n1,aj,if_pos rfl]
 . rw[aj,if_neg n5,aj,if_neg n4,aj,if_pos rfl]
 . rw[aj,if_neg n6,aj,if_pos rfl]
 . rw[aj,if_pos rfl]
 . obtain⟨m1,m2,m3,m4⟩:=aak m hm
   rw[aj,if_neg m4,aj,if_neg m3,aj,if_neg m2,aj,if_neg m1];rfl
theorem qf {K:PySem.W.Frag}{D:Addr}{H:Hp}{kvs:List (Key×V)}:∀{us:List Addr}{zs:List Str},Paired (fun b (z:Str)=>b≠D/\H b=some (.tup [.str z,(valV kvs (Sum.inr z)).getD (.int 0)])) us zs->Paired (fun t (kv:Str×V)=>SqT K H t [.str kv.1,kv.2]) us (fz kvs zs)
 | _,_,.nil=>.nil
 | _,_,.cons h r=>.cons (SqT.of h.2) (qf r)
theorem scFInit:FnScope ["self","procedure","path","numbers","receiver"] ["self","procedure","path","numbers","receiver"] (ao w6):=⟨rfl,rfl,rfl,by decide +kernel,rfl,by decide +kernel,by decide +kernel⟩
theorem a55 {n:Nat}{bs:List Nat}(hn:4<=n) (C':Con K mg w) (T:TxF K mg C fI) (F:Fun K "__init__" "Frame.__init__" w6 f fd) (GS:FnOk P w K mg base CX0 4 gS dS ["body","path"] (spSettled K)) (cS:Cal K mg "settled" gS dS ["body","path"]) (GN:FnOk P w K mg base CX0 n gN dN ["procedure"] (spNamesIn K bs)) (cN:Cal K mg "names_in" gN dN ["procedure"]):FnOk P w K mg base CX0 (n+1) f fd ["self","procedure","path","numbers","receiver"] (spFInit K C bs):=by
 refine F.okQ scFInit (fun vs H Q E h=>?_) (fun cdv A outer s0 H vs Q E hr h=>?_)
 . obtain⟨G,p,dx,t,q0,nm,bd,rc,pc,xs,v0,v1,v2,v3,v4,kvs,pp,k,due,e,rfl,_⟩:=h;rfl
 obtain⟨G,p,dx,t,q0,nm,bd,rc,pc,xs,v0,v1,v2,v3,v4,kvs,pp,k,due,e,rfl,eG,hp,hp1,h1,h2,hbd,h3,h4,h5,h6,q⟩:=h
 have nd:=scFInit.nd
 have hr4:=hr.mono (j:=4) (by omega)
 have hu1:=ft hr
 refine⟨_,ae (dn (K:=K) rfl (qv 0) (qv 1))
   (ae (dn (K:=K) rfl (qv 0) (ak GS hr4 rfl cS.name cS.keep cS.bind .nil am (aw (ah ay (qv 1) ab (fun _ _=>rfl)) (af (qv 2) aa))))
   (ae (dn (K:=K) rfl (qv 0) (b7 (qy (K:=K) rfl rfl) rfl C'.dict PyProof.Rows.boot_dict (cn (a4j ["name","numbers"] [3] (fq (ak GN hr rfl cN.name cN.keep cN.bind .nil am (af (qv 1) aa))) (fun _ _ _ _=>ii) (fun _ _ _ _=>(bp (af (qv 0) (az (a63 hu1 (qv 1) (qv 0) ab) aa))))) aa)))
   (ag (dn (K:=K) rfl (qv 0) (qv 4))))),?_⟩
 have small:∀{n:Nat},n<=10->n<1000:=fun h=>by omega
 refine⟨_,rfl,_,rfl,p,C,dx,_,rfl,hp1,T.cl,T.nP,small (Nat.zero_le _),?_⟩
 have g1:Same G (upd H p (.ins C dx (putF "procedure" (.ref t) []))):=fun b o z=>by rw[ac (ai z hp)];exact eG _ _ z
 have k1:(upd H p (.ins C dx (putF "procedure" (.ref t) []))) p=some (.ins C dx (putF "procedure" (.ref t) [])):=a0
 have f1:∀c,(upd H p (.ins C dx (putF "procedure" (.ref t) []))) c=none->H c=none:=fun c z=>by
   by_cases y:c=p
   . rw[y,a0] at z;cases z
   . rw[ac y] at z;exact z
 generalize upd H p (.ins C dx (putF "procedure" (.ref t) []))=H1 at g1 k1 f1 |-
 have l1:=bb "procedure" (.ref t) []
 simp only[List.length_nil] at l1
 refine⟨_,rfl,t,_,5,_,rfl,rfl,SqT.of (g1 _ _ hbd),rfl,_,rfl,bd,q0,pp,k,due,e,rfl,g1.seqT h3,h4.same g1,h5,fun q1 H2 e2 hq1=>?_⟩
 have l2:=bb "path" (.ref q1) (putF "procedure" (.ref t) [])
 refine⟨_,rfl,p,C,dx,_,rfl,e2 _ _ k1,T.cl,T.nA,small (by omega),?_⟩
 have g2:=g1.trans e2
 have g3:Same G (upd H2 p (.ins C dx (putF "path" (.ref q1) (putF "procedure" (.ref t) [])))):=fun b o z=>by rw[ac (ai z hp)];exact g2 _ _ z
 have k3:(upd H2 p (.ins C dx (putF "path" (.ref q1) (putF "procedure" (.ref t) [])))) p=some (.ins C dx (putF "path" (.ref q1) (putF "procedure" (.ref t) []))):=a0
 have f3:∀c,(upd H2 p (.ins C dx (putF "path" (.ref q1) (putF "procedure" (.ref t) [])))) c=none->H c=none:=fun c z=>by
   by_cases y:c=p
   . rw[y,a0] at z;cases z
   . rw[ac y] at z;exact f1 c (e2.free z)
 have put:∀{H':Hp} {fs fs':List (Str×V)} {a:Addr} {ys:List V},H' p=some (.ins C dx fs)->SqT K H' a ys->SqT K (upd H' p (.ins C dx fs')) a ys:=fun {H' fs fs' a ys} hp' h=>by
   rcases h with (h|⟨o,h⟩)|h
   . exact .inl (.inl (by rw[ac (fun z=>by rw[z,hp'] at h;cases h)];exact h))
   . exact .inl (.inr ⟨o,by rw[ac (fun z=>by rw[z,hp'] at h;cases h)];exact h⟩)
   . exact .inr h
 have hq3:=put (fs':=putF "path" (.ref q1) (putF "procedure" (.ref t) [])) (e2 _ _ k1) hq1
 generalize upd H2 p (.ins C dx (putF "path" (.ref q1) (putF "procedure" (.ref t) [])))=H3 at g3 k3 f3 hq3 |-
 refine⟨_,rfl,G,t,pc,xs,rfl,g3,h1,h2,fun zl zs H4 e4 hzl kz hzn hzs hzm=>?_⟩
 have g4:=g3.trans e4
 have hzl20:zs.length<=20:=Nat.le_trans (List.Nodup.length_le_of_subset hzn fun y hy=>h2.names y ((hzm y).mp hy).2 ((hzm y).mp hy).1) h2.len
 refine⟨zl,rfl,⟨_,SqL.of kz⟩,?_⟩
 refine iz (zs.map V.str) zs (fun D G' y (z:Str)=>∃b,y=V.ref b/\b≠D/\G' b=some (.tup [.str z,(valV kvs (Sum.inr z)).getD (.int 0)])) id i3 (SqL.of kz) (by rw[List.length_map];omega) (by rw[List.length_map]) (fun D G1 G2 y x z e=>?_) (fun D hD j x r hx hr' H5 e5 hD2 Q' q'=>?_) (fun D H5 ys hD e5 hD2 hpt=>?_)
 . obtain⟨b,rfl,nb,hb⟩:=z
   exact⟨b,rfl,nb,e _ _ hb nb⟩
 . have hx':x=.str r:=by rw[List.getElem?_map,hr'] at hx;exact (Option.some.inj hx).symm
   subst hx'
   have h6':=(g4.trans e5) _ _ h6
   have g:=DGet.k (k:=Sum.inr r) h6'
   refine⟨_,rfl,_,rfl,nm,rfl,.inl ⟨_,.inl h6'⟩,_,rfl,_,g,(show 2<=sizeLine by decide),fun b hb=>q' (.ref b) _ (ad hb _) ⟨b,rfl,fun z=>?_,a0⟩⟩
   rw[z] at hb;exact hD2 hb
 rw[List.map_id] at hpt
 obtain⟨us,rfl,hpp⟩:=g8 (R:=fun b (z:Str)=>b≠D/\H5 b=some (.tup [.str z,(valV kvs (Sum.inr z)).getD (.int 0)])) hpt
 have hul:=Paired.length hpp
 refine⟨D,us,fz kvs zs,rfl,SqL.of hD2,qf hpp,?_,(by omega),fun nd' hnd'=>?_⟩
 . unfold fz
   rw[List.map_map]
   have:(zs.map ((fun x=>x.1)∘fun z=>(z,(valV kvs (Sum.inr z)).getD (.int 0))))=zs:=by
     have e:((fun x:Str×V=>x.1)∘fun z:Str=>(z,(valV kvs (Sum.inr z)).getD (.int 0)))=id:=rfl
     rw[e,List.map_id]
   rw[this];exact hzn
 have e35:=e4.trans e5
 have s6:=ad hnd' (.dK ((fz kvs zs).map kk))
 have k6:(upd H5 nd' (.dK ((fz kvs zs).map kk))) nd'=some (.dK ((fz kvs zs).map kk)):=a0
 have nH:H nd'=none:=f3 _ (e35.free hnd')
 generalize upd H5 nd' (.dK ((fz kvs zs).map kk))=H6 at s6 k6 |-
 have e36:=e35.trans s6
 have k36:=e36 _ _ k3
 have l3:=bb "numbers" (.ref nd') (putF "path" (.ref q1) (putF "procedure" (.ref t) []))
 refine⟨_,rfl,p,C,dx,_,rfl,k36,T.cl,T.nN,small (by omega),?_⟩
 refine⟨_,rfl,_,rfl,p,C,dx,_,rfl,a0,T.cl,T.nR,small (by omega),?_⟩
 obtain⟨FF,fl⟩:=a75 t q1 nd' rc
 have npd:nd'≠p:=fun z=>by rw[z,k36] at k6;cases k6
 refine q q1 nd' _ zs _ (fun b o z=>?_) a0 FF fl (put a0 (put k36 (e36.seqT hq3))) nH ?_ hzn hzs hzm
 . rw[ac (ai z hp),ac (ai z hp)];exact (g3.trans e36) _ _ z
 . rw[ac npd,ac npd];exact k6
noncomputable abbrev xl:Stmt:=cx (top 30) 0
noncomputable abbrev vx:Stmt:=cx (top 30) 1
noncomputable abbrev xf:Stmt:=cx (top 30) 3
noncomputable abbrev v7:Stmt:=cx (top 30) 4
noncomputable abbrev x8:Stmt:=cx (top 30) 6
noncomputable abbrev sm:Stmt:=cx (top 30) 9
noncomputable abbrev oa:Stmt:=cx (top 30) 10
structure TxM (K:PySem.W.Frag) (mg:Str->Option Value) (C fI:Addr):Prop where
 cl:Cls K C
 nP:NoAttr K C "procedures"
 nF:NoAttr K C "frames"
 nC:NoAttr K C "cells"
 nG:NoAttr K C "greatest"
 nL:NoAttr K C "fallen"
 mgC:mg "Machine" = some (.ref C)
 mkC:Mk K C fI
noncomputable def j4:List Str:=["word","where","held","heap","go","step","branch","enter","leave_ended","change"]
structure MFs (fs:List (Str×V)) (pd fl cd:Addr) (g:Int) (b:Bool):Prop where
 procedures:fs.lookup ("procedures" : Str)=some (.ref pd)
 frames:fs.lookup ("frames" : Str)=some (.ref fl)
 cells:fs.lookup ("cells" : Str)=some (.ref cd)
 greatest:fs.lookup ("greatest" : Str)=some (.int g)
 fallen:fs.lookup ("fallen" : Str)=some (.bl b)
 len:fs.length<100
 meth:∀m∈j4,fs.lookup m=none
structure MaAt (CM CF:Addr) (H:Hp) (m pd fl cd p pr pt nd:Addr) (fps:List Addr) (g:Int) (b:Bool) (rc:Str):Prop where
 ob:∃dx fs,H m=some (.ins CM dx fs)/\MFs fs pd fl cd g b
 frs:H fl=some (.lst ((fps++[p]).map V.ref))
 fr:∃dx fs,H p=some (.ins CF dx fs)/\FFs fs pr pt nd rc/\fs.length<50
noncomputable def a3f (CM CF:Addr):Sp:=fun vs H Q E=>∃(m pd fl cd p pr pt nd:Addr) (fps:List Addr) (g:Int) (b:Bool) (rc:Str) (kvs:List (Key×V)),vs=[.ref m]/\MaAt CM CF H m pd fl cd p pr pt nd fps g b rc/\H nd=some (.dK kvs)/\∀a,H a=none->Q (.ref a) (upd H a (.dK kvs))
noncomputable def a2p (CM:Addr):Sp:=fun vs H Q E=>∃(m dx pd fl cd:Addr) (fs:List (Str×V)) (g:Int) (b:Bool) (kvs:List (Key×V)),vs=[.ref m]/\H m=some (.ins CM dx fs)/\MFs fs pd fl cd g b/\H cd=some (.dK kvs)/\∀a,H a=none->Q (.ref a) (upd H a (.dK kvs))
inductive spWord (K:PySem.W.Frag) (CM CF:Addr) (vs:List V) (H:Hp) (Q:VK) (E:XK):Prop
 | fall (m dx pd fl cd:Addr) (fs:List (Str×V)) (g:Int) (h0:vs=[.ref m]) (h1:H m=some (.ins CM dx fs)) (h2:MFs fs pd fl cd g true) (q:Q (.str "fall") H):spWord K CM CF vs H Q E
 | fine (m pd fl cd p pr pt nd bd l:Addr) (fps:List Addr) (g:Int) (rc:Str) (v0 v1 v2 v3 v4:V) (pp:Pre) (k:Nat) (ts:List Addr) (h0:vs=[.ref m]) (h1:MaAt CM CF H m pd fl cd p pr pt nd fps g false rc) (h2:H pr=some (.tup [v0,v1,v2,v3,v4,.ref bd])) (h3:SqT K H pt ((flat pp++[(k:Int)]).map V.int)) (h4:LFrom H bd pp l) (h5:pp.length<=100) (h6:H l=some (.lst (ts.map V.ref))) (q:∀H',Same H H'->Q (.str (if k<ts.length then "on" else "end")) H'):spWord K CM CF vs H Q E
theorem scHeld:FnScope ["self"] ["self"] (ao xf):=⟨rfl,rfl,rfl,by decide +kernel,rfl,by decide +kernel,by decide +kernel⟩
theorem a8r (C:Con K mg w) (T:TxM K mg CM fI) (U:TxF K mg CF fJ) (F:Fun K "held" "Machine.held" xf f fd):FnOk P w K mg base CX0 1 f fd ["self"] (a3f CM CF):=by
 refine F.okQ scHeld (fun vs H Q E h=>?_) (fun cdv A outer s0 H vs Q E hr h=>?_)
 . obtain⟨_,_,_,_,_,_,_,_,_,_,_,_,_,rfl,_⟩:=h;rfl
 obtain⟨m,pd,fl,cd,p,pr,pt,nd',fps,g,b,rc,kvs,rfl,⟨⟨dx,fs,hm,hfs⟩,hfl,⟨dx',fs',hp,hff,_⟩⟩,hn,q⟩:=h
 have nd:=scHeld.nd
 refine⟨_,(ag (av (b7 dz rfl C.dict PyProof.Rows.boot_dict (cn (b5 (K:=K) rfl (ah dq (b5 (K:=K) rfl (qv 0)) (et dh ab) (fun _ _=>rfl))) aa)))),?_⟩
 rw[List.map_append] at hfl
 exact⟨_,rfl,m,CM,dx,fs,_,rfl,hm,T.cl,T.nF,hfs.frames,_,rfl,fl,_,_,_,rfl,rfl,SqL.of hfl,dj,p,CF,dx',fs',_,rfl,hp,U.cl,U.nN,hff.numbers,nd',kvs,rfl,hn,q⟩
theorem scHeap:FnScope ["self"] ["self"] (ao v7):=⟨rfl,rfl,rfl,by decide +kernel,rfl,by decide +kernel,by decide +kernel⟩
theorem a7h (C:Con K mg w) (T:TxM K mg CM fI) (F:Fun K "heap" "Machine.heap" v7 f fd):FnOk P w K mg base CX0 1 f fd ["self"] (a2p CM):=by
 refine F.okQ scHeap (fun vs H Q E h=>?_) (fun cdv A outer s0 H vs Q E hr h=>?_)
 . obtain⟨_,_,_,_,_,_,_,_,_,rfl,_⟩:=h;rfl
 obtain⟨m,dx,pd,fl,cd,fs,g,b,kvs,rfl,hm,hfs,hc,q⟩:=h
 have nd:=scHeap.nd
 refine⟨_,(ag (av (b7 dz rfl C.dict PyProof.Rows.boot_dict (cn (b5 (K:=K) rfl (qv 0)) aa)))),?_⟩
 exact⟨_,rfl,m,CM,dx,fs,_,rfl,hm,T.cl,T.nC,hfs.cells,cd,kvs,rfl,hc,q⟩
theorem scWord:FnScope ["self"] ["self"] (ao vx):=⟨rfl,rfl,rfl,by decide +kernel,rfl,by decide +kernel,by decide +kernel⟩
theorem a7o (C:Con K mg w) (T:TxM K mg CM fI) (U:TxF K mg CF fJ) (F:Fun K "word" "Machine.word" vx f fd) (GD:FnOk P w K mg base CX0 4 gD dD ["self"] (lz K CF)) (cD:MCal K CF "deed" gD dD ["self"]):FnOk P w K mg base CX0 5 f fd ["self"] (spWord K CM CF):=by
 refine F.okQ scWord (fun vs H Q E h=>?_) (fun cdv A outer s0 H vs Q E hr h=>?_)
 . rcases h with⟨_,_,_,_,_,_,_,rfl,_⟩|⟨_,_,_,_,_,_,_,_,_,_,_,_,_,_,_,_,_,_,_,_,_,rfl,_⟩<;>rfl
 have nd:=scWord.nd
 refine⟨_,ae (b6 (di (b5 (K:=K) rfl (qv 0))) (ag (av b0)) b9)
   (ag (av (gf (ar vz (cz (ah dq (b5 (K:=K) rfl (qv 0)) (et dh ab) (fun _ _=>rfl)) U.cl cD.meth GD hr cD.bind .nil am) i7 (ax _)) b0 b0))),?_⟩
 rcases h with⟨m,dx,pd,fl,cd,fs,g,rfl,hm,hfs,q⟩|⟨m,pd,fl,cd,p,pr,pt,nd',bd,l,fps,g,rc,v0,v1,v2,v3,v4,pp,k,ts,rfl,⟨⟨dx,fs,hm,hfs⟩,hfl,⟨dx',fs',hp,hff,_⟩⟩,hpr,hpt,hlf,hpl,hts,q⟩
 . exact⟨_,rfl,m,CM,dx,fs,_,rfl,hm,T.cl,T.nL,hfs.fallen,_,rfl,iteB (fun _=>q) (fun c=>by cases c)⟩
 . refine⟨_,rfl,m,CM,dx,fs,_,rfl,hm,T.cl,T.nL,hfs.fallen,_,rfl,iteB (fun c=>by cases c) (fun _=>?_)⟩
   rw[List.map_append] at hfl
   refine⟨_,rfl,m,CM,dx,fs,_,rfl,hm,T.cl,T.nF,hfs.frames,_,rfl,fl,_,_,_,rfl,rfl,SqL.of hfl,dj,p,dx',fs',rfl,hp,hff.meth _ (by simp),?_⟩
   refine⟨p,dx',pr,pt,nd',bd,fs',rc,v0,v1,v2,v3,v4,rfl,hp,hff,hpr,?_⟩
   refine⟨bd,pt,l,pp,k,ts,rfl,hpt,hlf,hpl,hts,fun t H' ht e=>?_,fun H' hn e=>?_⟩
   . have hk:=(List.getElem?_eq_some_iff.mp ht).1
     have:=q H' e
     rw[if_pos hk] at this
     exact⟨rfl,_,rfl,iteB (fun c=>by cases of_decide_eq_true c) (fun _=>this)⟩
   . have hk:¬ k<ts.length:=fun z=>by rw[List.getElem?_eq_getElem z] at hn;cases hn
     have:=q H' e
     rw[if_neg hk] at this
     exact⟨rfl,_,rfl,iteB (fun _=>this) (fun c=>absurd rfl (of_decide_eq_false c))⟩
end K50
namespace L2
open PySem PySem.Spec PyProof.Rows
theorem a3r {prog:Program}{w:World}{A:Around}{R:Result->Shared->Prop}{I:Addr}{fp wr:List Addr}{n:Nat}{P:Nat->Value->Prop}{St:Nat->Heap->Prop}(W:Walks prog w A.in1 I fp wr n P St) (bt:Nat->Nat->Bool) (hcmp:CmpOf prog w A.in1 .Gt P bt) (S:Addr) (hSf:S∉fp) (kw:List (Str×Value)) :
   ∀(k j:Nat) (s:Shared) (vb:Value) (c:Nat),n - (j+1)=k->j+1<=n->St (j+1) s.heap->P (argBest bt j) vb->s.heap.get? S=some { cls:=.type "list",data:=.seq #[vb,vb] c }->
     (∀(v:Value) (h':Heap) (tk:Nat),P (argBest bt (n - 1)) v->(∀(b:Addr) (o:Obj),b∉wr->b≠S->s.heap.get? b=some o->h'.get? b=some o)->R (.ok (.ret v)) { heap:=h',gens:=s.gens,drawn:=s.drawn,toks:=tk,os:=s.os })->
     codeAny (model prog w) A (.builtin "max.loop" ⟨[.ref I,.none,.ref S],kw⟩) R s:=by
 have hSw:S∉wr:=fun h=>hSf (W.sub S h)
 have hname:toString "max" ++ toString ".loop" = "max.loop" := by decide
 have s0:(#[]:Array Value).size<=sizeLine+1:=by decide
 have s2:∀v:Value,(#[v,v]:Array Value).size<=sizeLine:=fun v=>show 2<=sizeLine by decide
 have s21:∀v:Value,(#[v,v]:Array Value).size<=sizeLine+1:=fun v=>show 2<=sizeLine+1 by decide
 intro k
 induction k with
 | zero =>
   intro j s vb c hk hj hst hPb hS hR
   have hin:n=j+1:=by omega
   refine codeAny_builtin F.entry_max_loop ?_
   rw[Around.under_plainId F.plain_max_loop]
   refine wpAny_bind (wpAny_seqItems hS rfl ?_)
   refine wpAny_bind (wpAny_tryCatch (W.done s _ _ (hin ▸ hst) fun h' tk hk'=>?_))
   have hS':=hk' S _ hSw hS
   refine wpAny_bind (wpAny_updateSeq hS' rfl (wpAny_bind (wpAny_letGo (wpAny_pure (hR vb _ tk ?_ ?_)))) (s2 vb) s0)
   . rw[hin];exact hPb
   . intro b o hbw hbS e
     exact (Heap.get?_update_other _ _ (Ne.symm hbS)).trans (hk' b o hbw e)
 | succ k ih =>
   intro j s vb c hk hj hst hPb hS hR
   have hlt:j+1<n:=by omega
   refine codeAny_builtin F.entry_max_loop ?_
   rw[Around.under_plainId F.plain_max_loop]
   refine wpAny_bind (wpAny_seqItems hS rfl ?_)
   refine wpAny_bind (wpAny_tryCatch (W.item (j+1) s _ _ hlt hst fun v h' tk hP hst' hk'=>?_))
   have hS':=hk' S _ hSw hS
   refine wpAny_bind (wpAny_pure (wpAny_bind (wpAny_tryCatch (wpAny_holding (wpAny_bind (hcmp (j+1) (argBest bt j) v vb _ _ _ hP hPb (wpAny_bind (wpAny_holding (wpAny_truthy_bool (wpAny_bind (wpAny_letGo (wpAny_pure ?_))))))))))))
   show wpAny _ _ (if bt (j+1) (argBest bt j)=true then _ else _) _ _ _
   cases hb:bt (j+1) (argBest bt j) with
   | false =>
     rw[if_neg Bool.false_ne_true]
     refine wpAny_bind (wpAny_letGo (wpAny_pure ?_))
     refine⟨plainId_quiet F.plain_max_loop _,ih (j+1) _ vb c (by omega) hlt hst' ?_ hS' fun v' h'' tk'' hP' hk''=>hR v' h'' tk'' hP' fun b o hbw hbS e=>hk'' b o hbw hbS (hk' b o hbw e)⟩
     show P (if bt (j+1) (argBest bt j)=true then j+1 else argBest bt j) vb
     rw[hb,if_neg Bool.false_ne_true];exact hPb
   | true =>
     rw[if_pos rfl]
     refine wpAny_bind (wpAny_updateSeq hS' rfl (wpAny_bind (wpAny_letGo (wpAny_pure ?_))) (s2 vb) (s21 v))
     refine⟨plainId_quiet F.plain_max_loop _,ih (j+1) _ v _ (by omega) hlt (W.frame (j+1+1) h' _ hst' fun b hbf o e=>(Heap.get?_update_other _ _ (show S≠b from fun z=>hSf (by rw[z];exact hbf))).trans e) ?_ (Heap.get?_update_self _ hS' rfl) fun v' h'' tk'' hP' hk''=>hR v' h'' tk'' hP' fun b o hbw hbS e=>hk'' b o hbw hbS ((Heap.get?_update_other _ _ (Ne.symm hbS)).trans (hk' b o hbw e))⟩
     show P (if bt (j+1) (argBest bt j)=true then j+1 else argBest bt j) v
     rw[hb,if_pos rfl];exact hP
theorem a08 {prog:Program}{w:World}{A:Around}{R:Result->Shared->Prop}{I:Addr}{fp wr:List Addr}{n:Nat}{P:Nat->Value->Prop}{St:Nat->Heap->Prop}(W:Walks prog w A.in1 I fp wr n P St) (bt:Nat->Nat->Bool) (hcmp:CmpOf prog w A.in1 .Gt P bt) (S:Addr) (hSf:S∉fp) (x:Str) (d:Value) {s:Shared}{c:Nat}(hst:St 0 s.heap)
   (hS:s.heap.get? S=some { cls:=.type "list",data:=.seq #[] c })
   (hR0:n=0->∀(h':Heap) (tk:Nat),(∀(b:Addr) (o:Obj),b∉wr->s.heap.get? b=some o->h'.get? b=some o)->R (.ok (.ret d)) { heap:=h',gens:=s.gens,drawn:=s.drawn,toks:=tk,os:=s.os })
   (hR:0<n->∀(v:Value) (h':Heap) (tk:Nat),P (argBest bt (n - 1)) v->(∀(b:Addr) (o:Obj),b∉wr->b≠S->s.heap.get? b=some o->h'.get? b=some o)->R (.ok (.ret v)) { heap:=h',gens:=s.gens,drawn:=s.drawn,toks:=tk,os:=s.os }) :
   codeAny (model prog w) A (.builtin "max.loop" ⟨[.ref I,.none,.ref S],[(x,d)]⟩) R s:=by
 have hSw:S∉wr:=fun h=>hSf (W.sub S h)
 have s0:(#[]:Array Value).size<=sizeLine:=by decide
 have s21:∀v:Value,(#[v,v]:Array Value).size<=sizeLine+1:=fun v=>show 2<=sizeLine+1 by decide
 refine codeAny_builtin F.entry_max_loop ?_
 rw[Around.under_plainId F.plain_max_loop]
 refine wpAny_bind (wpAny_seqItems hS rfl ?_)
 by_cases hn:0<n
 . refine wpAny_bind (wpAny_tryCatch (W.item 0 s _ _ hn hst fun v h' tk hP hst' hk'=>?_))
   have hS':=hk' S _ hSw hS
   refine wpAny_bind (wpAny_pure (wpAny_bind (wpAny_updateSeq hS' rfl (wpAny_pure ?_) s0 (s21 v))))
   refine⟨plainId_quiet F.plain_max_loop _,a3r W bt hcmp S hSf _ (n - (0+1)) 0 _ v _ rfl hn (W.frame (0+1) h' _ hst' fun b hbf o e=>(Heap.get?_update_other _ _ (show S≠b from fun z=>hSf (by rw[z];exact hbf))).trans e) hP (Heap.get?_update_self _ hS' rfl) fun v' h'' tk'' hP' hk''=>hR hn v' h'' tk'' hP' fun b o hbw hbS e=>hk'' b o hbw hbS ((Heap.get?_update_other _ _ (Ne.symm hbS)).trans (hk' b o hbw e))⟩
 . have hn0:n=0:=by omega
   refine wpAny_bind (wpAny_tryCatch (W.done s _ _ (by rw[hn0];exact hst) fun h' tk hk'=>?_))
   exact wpAny_bind (wpAny_rule (wpAny_pure (hR0 hn0 h' tk hk')))
theorem vt {prog:Program}{w:World}{A:Around}{E:Value->Shared->Prop}{s:Shared}{x d:Value}{Q:Value->Shared->Prop}
   (h:wpAny (model prog w) A.in1 (pyIter x) (fun it s₂=>∃I fp wr n P St bt,it=.ref I/\Walks prog w A.in1 I fp wr n P St/\St 0 s₂.heap/\(∀b∈fp,b<s₂.heap.objs.size)/\CmpOf prog w A.in1 .Gt P bt/\
     (n=0->∀(h':Heap) (tk:Nat),(∀(b:Addr) (o:Obj),b∉wr->s₂.heap.get? b=some o->h'.get? b=some o)->Q d { heap:=h',gens:=s₂.gens,drawn:=s₂.drawn,toks:=tk,os:=s₂.os })/\
     (0<n->∀(v:Value) (h':Heap) (tk:Nat),P (argBest bt (n - 1)) v->(∀(b:Addr) (o:Obj),b∉wr->s₂.heap.get? b=some o->h'.get? b=some o)->Q v { heap:=h',gens:=s₂.gens,drawn:=s₂.drawn,toks:=tk,os:=s₂.os })) E s) :
   wpAny (model prog w) A (call (.builtin "max") [x] [("default",d)]) Q E s:=by
 have ha:argsOk "max" ⟨[x],[("default",d)]⟩:=rfl
 have hk:checkBuiltinCall "max" ⟨[x],[("default",d)]⟩=pure ():=by
   unfold checkBuiltinCall
   rw[F.kind_max]
   unfold argsOk at ha
   cases hs:Manifest.signature? "max" with
   | none=>rfl
   | some sig=>rw[hs] at ha;exact ha
 refine wpAny_call (codeAny_call_builtin F.plain_max F.entry_max ?_)
 rw[hk]
 refine wpAny_pure ?_
 have hb:Builtin.Builtins.bindParams "max" ["key","default"] 0 ⟨[],[("default",d)]⟩=pure [none,some d]:=rfl
 refine wpAny_bind (wpAny_of_eq hb ?_)
 refine wpAny_bind (wpAny_pure (wpAny_bind (thn h fun it s₂ h₂=>?_)))
 obtain⟨I,fp,wr,n,P,St,bt,rfl,W,hst,hfp,hcmp,h0,h1⟩:=h₂
 have hSf:s₂.heap.objs.size∉fp:=fun z=>Nat.lt_irrefl _ (hfp _ z)
 refine wpAny_bind (wpAny_newObj_type (wpAny_pure ?_) (show 0<=sizeLine by decide))
 refine⟨plainId_quiet F.plain_max_loop _,a08 W bt hcmp s₂.heap.objs.size hSf _ d (W.frame 0 s₂.heap _ hst fun b _ o e=>Heap.get?_push_of_some _ e) (Heap.get?_push_size _ rfl) (fun hn h' tk hk=>?_) (fun hn v h' tk hP hk=>?_)⟩
 . exact h0 hn h' tk fun b o hbw e=>hk b o hbw (Heap.get?_push_of_some _ e)
 . exact h1 hn v h' tk hP fun b o hbw e=>hk b o hbw (Nat.ne_of_lt (Heap.lt_size e)) (Heap.get?_push_of_some _ e)
section
variable {X:Cx}
noncomputable def a0u (K:PySem.W.Frag):R2:=fun x y H Q=>∃(a:Addr) (ns:List Int) (d:Int),x=.ref a/\y=.int d/\SqL K H a (ns.map V.int)/\(ns=[]->Q (.int d) H)/\∀M∈ns,(∀n∈ns,n<=M)->Q (.int M) H
theorem a8d {K:PySem.W.Frag}{p pos kpos:Pos}{e c:Expr}{te tc:TE}(hK:X.K=K) (hc:X.calm=true) (hg:Gl X "max") (hm:X.mg "max" = none) (ha:QE X e te) (hd:QE X c tc) (hall:(backToKw pos (keywordEach [⟨some "default",c,kpos⟩] X.env)).all (·.1.isSome)=true:=by rfl) (hks:(backToKw pos (keywordEach [⟨some "default",c,kpos⟩] X.env)).filterMap (·.1)=[("default" : Str)]:=by rfl)
   (he:starEach [e] X.env=(false,eval e X.env)::starEach [] X.env:=by rfl)
   (hpl:(backTo pos (starEach [e] X.env)).any (·.1)=false:=by rfl) (hpk:(backToKw pos (keywordEach [⟨some "default",c,kpos⟩] X.env)).any (·.1.isNone)=false:=by rfl) :
   QE X (.Call (.Name "max" p) [e] [⟨some "default",c,kpos⟩] pos) (tOp (a0u K) te tc):=by
 subst hK
 refine⟨?_⟩
 intro pins s σ H Q I h
 refine wpAny_Call_Name_kw (i5 I hg hm PyProof.Rows.Boot.max ?_ (by decide) (by decide))
 refine PyProof.Rows.callWith_builtin_kwB hpl hpk (PyProof.Rows.evalArgs_kw2 hall ?_ he)
 have A1:PA X [e] (bj te tNil):=cj ha.run i8 he
 have K1:PK X [⟨some "default",c,kpos⟩] (bj tc tNil):=a8l hd.run aa4
 refine thn (A1 pos pins s σ H (fun xs H1=>match xs with | [x]=>tc σ H1 fun y H2=>a0u X.K x y H2 Q|_=>False) I h) fun us s1 ⟨vs,H1,I1,r,q⟩=>?_
 obtain⟨x,rfl⟩:∃x,vs=[x]:=by
   match vs,q with
   | [x],_=>exact⟨x,rfl⟩
 refine thn (K1 pos pins s1 σ H1 (fun ys H2=>match ys with | [y]=>a0u X.K x y H2 Q|_=>False) I1 q) fun ws s2 ⟨zs,H2,I2,rz,q2⟩=>?_
 obtain⟨y,rfl⟩:∃y,zs=[y]:=by
   match zs,q2 with
   | [y],_=>exact⟨y,rfl⟩
 obtain⟨a,ns,d,rfl,rfl,hq,q0,q1⟩:=q2
 rw[hks]
 obtain⟨u,rfl,ru⟩:=r.one
 cases ru
 obtain⟨u2,rfl,t2,rfl⟩:=rz.one
 show wpAny _ _ (call (.builtin "max") [.ref a] [("default",.int d t2)]) _ _ _
 obtain⟨its,rv,p',_⟩:=I2.list hq
 have hl:its.length=ns.length:=by have:=rv.length;rw[List.length_map] at this;omega
 have hat:∀(i:Nat) (v:Value),its.toArray[i]? = some v->∃t,v=.int (ns.getD i 0) t:=fun i v hv=>by
   have hv':its[i]? = some v:=by simpa using hv
   have hi:i<ns.length:=by rw[<- hl];exact (List.getElem?_eq_some_iff.mp hv').1
   obtain⟨w',hw,rw'⟩:=rv.get (show (ns.map V.int)[i]? = some (.int ns[i]) by rw[List.getElem?_map,List.getElem?_eq_getElem hi];rfl)
   rw[hv'] at hw
   cases hw
   obtain⟨t,rfl⟩:=rw'
   exact⟨t,by rw[List.getD_eq_getElem?_getD,List.getElem?_eq_getElem hi];rfl⟩
 have hax:a<s2.heap.objs.size:=by obtain⟨o,ho,_⟩:=p'.isList;exact Heap.lt_size ho
 refine vt (wpAny_pyIter_list p'.isList ⟨s2.heap.objs.size,_,_,_,_,_,fun i j=>decide (ns.getD i 0>ns.getD j 0),rfl,Walks.list (show X.A.in1.handled=none from I2.ok.hd hc) s2.heap.objs.size a (Nat.ne_of_lt hax) its.toArray,⟨?_,?_⟩,fun b hb=>?_,CmpOf.ints_gt (fun i=>ns.getD i 0) hat,fun hn h' tk hk=>?_,fun hn v h' tk hv hk=>?_⟩)
 . exact⟨_,Heap.get?_push_size _ rfl,rfl,rfl⟩
 . exact p'.isList.push _
 . rw[Heap.size_push]
   simp only[List.mem_cons,List.not_mem_nil,or_false] at hb
   rcases hb with rfl|rfl
   . exact Nat.lt_succ_self _
   . exact Nat.lt_succ_of_lt hax
 . rw[List.size_toArray] at hn
   refine⟨.int d,H2,I2.kept (t':=tk) fun b o hbo=>hk b o (by simp only[List.mem_cons,List.not_mem_nil,or_false];exact Nat.ne_of_lt (Heap.lt_size hbo)) (Heap.get?_push_of_some _ hbo),⟨t2,rfl⟩,q0 (List.eq_nil_of_length_eq_zero (by omega))⟩
 . obtain⟨t,rfl⟩:=hat _ _ hv
   have hb:=argBest_gt (fun i=>ns.getD i 0) (its.toArray.size - 1)
   rw[List.size_toArray] at hb hv hn
   have hi:argBest (fun i j=>decide (ns.getD i 0>ns.getD j 0)) (its.length - 1)<ns.length:=by have:=hb.1;omega
   refine⟨.int _,H2,I2.kept (t':=tk) fun b o hbo=>hk b o (by simp only[List.mem_cons,List.not_mem_nil,or_false];exact Nat.ne_of_lt (Heap.lt_size hbo)) (Heap.get?_push_of_some _ hbo),⟨t,rfl⟩,q1 _ ?_ fun n hn'=>?_⟩
   . rw[List.size_toArray,List.getD_eq_getElem?_getD,List.getElem?_eq_getElem hi];exact List.getElem_mem hi
   . obtain⟨j,hj,rfl⟩:=List.getElem_of_mem hn'
     have:=hb.2 j (by omega)
     rw[List.getD_eq_getElem?_getD,List.getElem?_eq_getElem hj] at this
     rw[List.size_toArray]
     simpa using this
theorem nk (hc:X.calm=true):MtR X "str.index" (fun x vs H Q=>∃z y,x=.str z/\vs=[.str y]/\0<=Txt.find z y/\Q (.int (Txt.find z y)) H):=by
 intro pins s σ H x vs v us Q I rx rv h
 obtain⟨z,y,rfl,rfl,hz,q⟩:=h
 obtain⟨t,rfl⟩:=rx
 obtain⟨u,rfl,ru⟩:=rv.one
 obtain⟨t2,rfl⟩:=ru
 refine index_or (I.ok.hd hc) (fun hn=>absurd hz (by omega)) fun _ _=>⟨.int _,H,I.tok _,⟨_,rfl⟩,q⟩
noncomputable def AlV (K:PySem.W.Frag) (H:Hp) (v v':V):Prop:=(qw v=true/\v'=v)\/∃d,Dp K H v d/\Dp K H v' d/\EqOk d
inductive rNeAl (K:PySem.W.Frag) (x y:V) (H:Hp) (Q:VK):Prop
 | mk (a b:Addr) (kvs kws:List (Key×V)) (h1:x=.ref a) (h2:y=.ref b) (h3:H a=some (.dK kvs)) (h4:H b=some (.dK kws)) (h5:kvs.length=kws.length) (h6:∀k v,valV kvs k=some v->∃v',valV kws k=some v'/\AlV K H v v') (q:Q (.bl false) H):rNeAl K x y H Q
theorem yh {K:PySem.W.Frag}(hK:X.K=K) (hu:X.A.units+32<cLine):OpR X (compareOp .NotEq) (rNeAl K):=by
 subst hK
 intro pins s σ H x y v u Q I rx ry h
 obtain⟨a,b,kvs,kws,rfl,rfl,ha,hb,hln,hs,q⟩:=h
 cases rx
 cases ry
 obtain⟨z,da,va,ra,dda⟩:=ge I.hok (.inl ha)
 obtain⟨_,db,vb,rb,ddb⟩:=ge I.hok (.inl hb)
 have hl:va.length=vb.length:=by rw[<- ra.length,<- rb.length];exact hln
 refine PySem.W.keq_ne (r:=true) da db dda ddb (by omega) (fun _=>?_) ⟨.bl false,H,I,?_,q⟩
 . refine oz va fun p hp=>?_
   have e1:=j8 (k:=p.1) (v:=p.2) (qe dda) hp
   have r1:=ra.val p.1
   have r2:=rb.val p.1
   rw[e1] at r1
   cases hv:valV kvs p.1 with
   | none=>rw[hv] at r1;exact r1.elim
   | some v =>
     rw[hv] at r1
     obtain⟨v',hv',al⟩:=hs _ _ hv
     rw[hv'] at r2
     cases hy:valueAt vb p.1 with
     | none=>rw[hy] at r2;exact r2.elim
     | some y =>
       rw[hy] at r2
       refine⟨y,rfl,?_⟩
       rcases al with⟨h1,rfl⟩|⟨d,h1,h2,ok⟩
       . exact p8 h1 r1 r2
       . obtain⟨as,q1⟩:=Dp.reads I h1 r1
         obtain⟨bs,q2⟩:=Dp.reads I h2 r2
         have:=SeqAt.eqAt_reads d d X.A.in1 s p.2 y as bs q1 q2 ok.1 ok.1 (by have:=ok.2;have:X.A.in1.units=X.A.units+1:=rfl;rw[Nat.min_self];omega)
         rw[SeqAt.eqv_refl d ok.1] at this
         exact this
 . rw[hl]
   simp[RelV]
end
noncomputable def a98 (K:PySem.W.Frag):R2:=fun x y H Q=>∃a b xs ys,x=.ref a/\y=.ref b/\SqT K H a xs/\SqT K H b ys/\xs≠[]/\ys≠[]/\xs.length+ys.length<=sizeLine/\∀p,H p=none->Q (.ref p) (upd H p (.tup (xs++ys)))
theorem a4f {X:Cx}{K:PySem.W.Frag}(hK:X.K=K):OpR X (binaryOp .Add) (a98 K):=by
 subst hK
 intro pins s σ H x y v u Q I rx ry h
 obtain⟨a,b,xs,ys,rfl,rfl,ha,hb,hx,hy,hz,q⟩:=h
 exact my pins s σ H (.ref a) (.ref b) v u Q I rx ry ⟨a,b,xs,ys,rfl,rfl,ha,hb,hx,hz,fun z=>absurd z hy,fun _ p hp=>q p hp⟩
theorem oh {X:Cx}{K:PySem.W.Frag}(hK:X.K=K):SlR X (a1a K):=by subst hK;exact ig
theorem gz {X:Cx}:cf X (.type "int") (fun xs H Q=>∃b:Bool,xs=[.bl b]/\Q (.int (if b=true then 1 else 0)) H):=by
 intro pins s σ H xs us Q I r h
 obtain⟨b,rfl,q⟩:=h
 obtain⟨u,rfl,ru⟩:=r.one
 cases ru
 exact PySem.call_int_bool ⟨.int _,H,I.tok _,⟨_,rfl⟩,q⟩
theorem a7p {X:Cx}{K:PySem.W.Frag}(hK:X.K=K):OpR X (compareOp .In) (rIn K false):=by subst hK;exact ir
theorem uz {X:Cx}{K:PySem.W.Frag}{tg l:Expr}{tl:TE}(hK:X.K=K) (hl:QE X l tl):QI X tg l (a0e K tl):=by subst hK;exact fq hl
theorem rf {X:Cx}{K:PySem.W.Frag}{tg l:Expr}{tl:TE}(hK:X.K=K) (hl:QE X l tl):QI X tg l (iTup K tl):=by subst hK;exact a8w hl
theorem oi {X:Cx}{K:PySem.W.Frag}(hK:X.K=K):SlR X (rSlL K):=by subst hK;exact a8e
inductive rMaxL (K:PySem.W.Frag) (vs:List V) (H:Hp) (Q:VK):Prop
 | mk (a:Addr) (ns:List Int) (h0:vs=[.ref a]) (h1:SqL K H a (ns.map V.int)) (h2:ns≠[]) (q:∀M∈ns,(∀n∈ns,n<=M)->Q (.int M) H):rMaxL K vs H Q
theorem a1r {X:Cx}{K:PySem.W.Frag}(hK:X.K=K) (hc:X.calm=true):cf X (.builtin "max") (rMaxL K):=by
 subst hK
 intro pins s σ H vs us Q I r hh
 obtain⟨a,ns,e,h1,h2,h3⟩:=hh
 exact uj hc pins s σ H vs us Q I r ⟨a,ns,e,h1,h2,h3⟩
theorem a9g {β:Type}(b:β) (f:Nat->β->Sem (ForInStep β)):forIn [:min 2 2] b f=(do
   match<-f 0 b with
   | .done r=>pure r
   | .yield r =>
     match<-f 1 r with
     | .done r=>pure r
     | .yield r=>pure r):=by
 rw[Std.Legacy.Range.forIn_eq_forIn_range']
 show forIn [0,1] b f=_
 simp only[List.forIn_cons,List.forIn_nil]
 rfl
section
variable {X:Cx}
theorem ug (K:PySem.W.Frag) (hK:X.K=K):MtR X "tuple.index" (fun a vs H Q=>∃p x y z,a=.ref p/\vs=[.str z]/\SqT K H p [.str x,.str y]/\x≠y/\((z=x/\Q (.int 0) H)\/(z=y/\Q (.int 1) H))):=by
 subst hK
 intro pins s σ H a vs v us Q I ra rv h
 obtain⟨p,x,y,z,rfl,rfl,hp,hxy,h⟩:=h
 cases ra
 obtain⟨u,rfl,t,rfl⟩:=rv.one
 obtain⟨its,r,ht,_⟩:=I.tuple hp
 obtain⟨u1,u2,rfl,⟨t1,rfl⟩,⟨t2,rfl⟩⟩:∃u1 u2,its=[u1,u2]/\RelV (.str x) u1/\RelV (.str y) u2:=by
   cases r with
   | cons a1 b1=>cases b1 with
     | cons a2 b2=>cases b2;exact⟨_,_,rfl,a1,a2⟩
 obtain⟨o,ho,hc,n,hd⟩:=id ht
 refine wpAny_call_entry PySem.F.slot_tuple_index ht.typeIs PySem.F.entry_tuple_index ?_ (PySem.F.args_tuple_index_2 _ _)
 refine wpAny_bind (wpAny_of_eq (show selfAndSome "tuple.index" "index" 1 3 ⟨[.ref p,.str z t],[]⟩=pure (.ref p,[.str z t]) from rfl) ?_)
 refine wpAny_bind (wpAny_tupleItemsOf ho hd ?_)
 refine wpAny_bind (wpAny_pure (wpAny_bind (wpAny_pure ?_)))
 have e1:=SeqAt.EqAt.str_str (A:=X.A.in1) (s:=s) x t1 z t
 have e2:=SeqAt.EqAt.str_str (A:=X.A.in1) (s:=s) y t2 z t
 show wpAny _ _ ((forIn [0:min 2 2] _ _) >>= _) _ _ _
 rw[a9g]
 rcases h with⟨rfl,q⟩|⟨rfl,q⟩
 . refine wpAny_bind (wpAny_bind (wpAny_bind (e1 _ _ _ _ ?_)))
   rw[beq_self_eq_true,if_pos rfl]
   exact wpAny_bind (wpAny_bind (wpAny_mkInt (wpAny_pure (wpAny_pure (wpAny_pure (wpAny_pure ⟨_,rfl,.int 0,H,I.tok _,⟨_,rfl⟩,q⟩))))))
 . refine wpAny_bind (wpAny_bind (wpAny_bind (e1 _ _ _ _ ?_)))
   rw[beq_false_of_ne hxy,if_neg Bool.false_ne_true]
   refine wpAny_pure (wpAny_bind (wpAny_bind (e2 _ _ _ _ ?_)))
   rw[beq_self_eq_true,if_pos rfl]
   exact wpAny_bind (wpAny_bind (wpAny_mkInt (wpAny_pure (wpAny_pure (wpAny_pure (wpAny_pure ⟨_,rfl,.int 1,H,I.tok _,⟨_,rfl⟩,q⟩))))))
end
end L2
namespace K50
open PySem PySem.Spec L2 Mir
variable {P:Program}{w:World}{K:PySem.W.Frag}{mg:Str->Option Value}{base:Heap}{f g gS gN gA gW gI gL gF gO gT gB C fI CM CF fJ gD gE gC gM gK gH gR gU gV gP gX:Addr}{fd gd dS dN dA dW dI dL dF dO dT dB dD dE dC dM dK dH dR dU dV dP dX:FuncData}
noncomputable def numV (kvs:List (Key×V)) (x:Str):Option V:=if x = "nil" then some (.int 0) else valV kvs (Sum.inr x)
theorem ga {d:Addr}{H:Hp}{kvs:List (Key×V)}{x:Str}{v:V}{Q:VK}{E:XK}(h1:H d=some (.dK kvs)) (h2:numV kvs x=some v) (q:Q v H):spNumOf [.ref d,.str x] H Q E:=by
 unfold numV at h2
 by_cases hx:x = "nil"
 . rw[if_pos hx] at h2
   cases h2
   exact .nil d (by rw[hx]) q
 . rw[if_neg hx] at h2
   exact .name d kvs x v rfl hx h1 h2 q
inductive spChange (K:PySem.W.Frag) (CM CF:Addr) (vs:List V) (H:Hp) (Q:VK) (E:XK):Prop
 | set (m p dx pr pt nd t:Addr) (fs:List (Str×V)) (rc x y:Str) (kvs:List (Key×V)) (v:V) (h0:vs=[.ref m,.ref p,.ref t]) (h1:H p=some (.ins CF dx fs)) (h2:FFs fs pr pt nd rc) (h3:H t=some (.tup [.str "set",.str x,.str y])) (h4:H nd=some (.dK kvs)) (h5:kvs.length<=100) (h6:numV kvs y=some v) (q:Q .non (upd H nd (.dK (putK kvs (Sum.inr x) v)))):spChange K CM CF vs H Q E
 | free (m p dm dx pr pt nd pd fl cd t:Addr) (fm fs:List (Str×V)) (rc x:Str) (g:Int) (b:Bool) (kvs cvs:List (Key×V)) (i:Int) (c:V) (h0:vs=[.ref m,.ref p,.ref t]) (hm:H m=some (.ins CM dm fm)) (hM:MFs fm pd fl cd g b) (h1:H p=some (.ins CF dx fs)) (h2:FFs fs pr pt nd rc) (h3:H t=some (.tup [.str "free",.str x])) (h4:H nd=some (.dK kvs)) (h6:numV kvs x=some (.int i)) (h7:H cd=some (.dK cvs)) (h8:valV cvs (Sum.inl i)=some c) (q:Q .non (upd H cd (.dK (ia cvs (Sum.inl i))))):spChange K CM CF vs H Q E
 | new (m p dm dx pr pt nd pd fl cd t:Addr) (fm fs:List (Str×V)) (rc x y z:Str) (g:Int) (b:Bool) (kvs cvs:List (Key×V)) (v1 v2:V) (h0:vs=[.ref m,.ref p,.ref t]) (hm:H m=some (.ins CM dm fm)) (hM:MFs fm pd fl cd g b) (hl:fm.length<50) (hne:m≠p) (hnc:nd≠cd) (h1:H p=some (.ins CF dx fs)) (h2:FFs fs pr pt nd rc) (h3:H t=some (.tup [.str "new",.str x,.str y,.str z])) (h4:H nd=some (.dK kvs)) (h5:kvs.length<=100) (h6:numV kvs y=some v1) (h6':numV kvs z=some v2) (h7:H cd=some (.dK cvs)) (h8:cvs.length<=900) (q:∀c,H c=none->Q .non (upd (upd (upd (upd H c (.tup [v1,v2])) m (.ins CM dm (putF "greatest" (.int (g+1)) fm))) cd (.dK (putK cvs (Sum.inl (g+1)) (.ref c)))) nd (.dK (putK kvs (Sum.inr x) (.int (g+1)))))):spChange K CM CF vs H Q E
 | read (m p dm dx pr pt nd pd fl cd t c:Addr) (fm fs:List (Str×V)) (rc x y fld:Str) (g:Int) (b:Bool) (kvs cvs:List (Key×V)) (i:Int) (v0 v1 v:V) (h0:vs=[.ref m,.ref p,.ref t]) (hm:H m=some (.ins CM dm fm)) (hM:MFs fm pd fl cd g b) (h1:H p=some (.ins CF dx fs)) (h2:FFs fs pr pt nd rc) (h3:H t=some (.tup [.str "read",.str x,.str y,.str fld])) (h4:H nd=some (.dK kvs)) (h5:kvs.length<=100) (h6:numV kvs y=some (.int i)) (h7:H cd=some (.dK cvs)) (h8:valV cvs (Sum.inl i)=some (.ref c)) (h9:SqT K H c [v0,v1]) (h10:(fld = "first" /\ v=v0)\/(fld = "second" /\ v=v1)) (q:Q .non (upd H nd (.dK (putK kvs (Sum.inr x) v)))):spChange K CM CF vs H Q E
 | write (m p dm dx pr pt nd pd fl cd t c:Addr) (fm fs:List (Str×V)) (rc y fld z:Str) (g:Int) (b:Bool) (kvs cvs:List (Key×V)) (i:Int) (v0 v1 v w0 w1:V) (h0:vs=[.ref m,.ref p,.ref t]) (hm:H m=some (.ins CM dm fm)) (hM:MFs fm pd fl cd g b) (h1:H p=some (.ins CF dx fs)) (h2:FFs fs pr pt nd rc) (h3:H t=some (.tup [.str "write",.str y,.str fld,.str z])) (h4:H nd=some (.dK kvs)) (h6:numV kvs y=some (.int i)) (h6':numV kvs z=some v) (h7:H cd=some (.dK cvs)) (hl:cvs.length<=900) (h8:valV cvs (Sum.inl i)=some (.ref c)) (h9:SqT K H c [v0,v1]) (h10:(fld = "first" /\ w0=v/\w1=v1)\/(fld = "second" /\ w0=v0/\w1=v)) (q:∀r H',Same H H'->H r=none->H' r=some (.tup [w0,w1])->Q .non (upd H' cd (.dK (putK cvs (Sum.inl i) (.ref r))))):spChange K CM CF vs H Q E
theorem a8j:("procedures" : Str) ≠ "greatest" /\ ("frames" : Str) ≠ "greatest" /\ ("cells" : Str) ≠ "greatest" /\ ("fallen" : Str) ≠ "greatest" := by decide +kernel
theorem a9h:∀m∈j4,m≠("greatest" : Str):=by decide +kernel
theorem MFs.great {fs:List (Str×V)}{pd fl cd:Addr}{g:Int}{b:Bool}(h:MFs fs pd fl cd g b) (hl:fs.length<50) (g':Int):MFs (putF "greatest" (.int g') fs) pd fl cd g' b:=by
 obtain⟨n1,n2,n3,n4⟩:=a8j
 refine⟨?_,?_,?_,?_,?_,?_,fun m hm=>?_⟩
 . rw[aj,if_neg n1];exact h.procedures
 . rw[aj,if_neg n2];exact h.frames
 . rw[aj,if_neg n3];exact h.cells
 . rw[aj,if_pos rfl]
 . rw[aj,if_neg n4];exact h.fallen
 . have:=bb "greatest" (.int g') fs;omega
 . rw[aj,if_neg (a9h m hm)];exact h.meth m hm
theorem scChange:FnScope ["self","frame","deed","cell"] ["self","frame","deed"] (ao oa):=⟨rfl,rfl,rfl,by decide +kernel,rfl,by decide +kernel,by decide +kernel⟩
theorem a2m (C:Con K mg w) (T:TxM K mg CM fI) (U:TxF K mg CF fJ) (F:Fun K "change" "Machine.change" oa f fd) (GN:FnOk P w K mg base CX0 2 gN dN ["self","word"] (qz CF)) (cN:MCal K CF "number" gN dN ["self","word"]):FnOk P w K mg base CX0 3 f fd ["self","frame","deed"] (spChange K CM CF):=by
 refine F.okQ scChange (fun vs H Q E h=>?_) (fun cdv A outer s0 H vs Q E hr h=>?_)
 . rcases h with⟨_,_,_,_,_,_,_,_,_,_,_,_,_,rfl,_⟩|⟨_,_,_,_,_,_,_,_,_,_,_,_,_,_,_,_,_,_,_,_,_,rfl,_⟩|⟨_,_,_,_,_,_,_,_,_,_,_,_,_,_,_,_,_,_,_,_,_,_,_,rfl,_⟩|⟨_,_,_,_,_,_,_,_,_,_,_,_,_,_,_,_,_,_,_,_,_,_,_,_,_,_,rfl,_⟩|⟨_,_,_,_,_,_,_,_,_,_,_,_,_,_,_,_,_,_,_,_,_,_,_,_,_,_,_,_,rfl,_⟩<;>rfl
 have nd:=scChange.nd
 have hu1:=ft hr
 obtain⟨aF,gF,hF,oF,lF,cF,dF⟩:=C.fields
 refine⟨_,(ag (b6 (ar be (ah (ixTK (K:=K) rfl) (qv 2) ab (fun _ _=>rfl)) b0 (ax _)) (ag (cg hu1 (b5 (K:=K) rfl (qv 1)) (ah (ixTK (K:=K) rfl) (qv 2) ab (fun _ _=>rfl)) (df (qv 1) U.cl cN.meth GN hr cN.bind .nil am (aw (ah (ixTK (K:=K) rfl) (qv 2) ab (fun _ _=>rfl)) aa)))) (ag (b6 (ar be (ah (ixTK (K:=K) rfl) (qv 2) ab (fun _ _=>rfl)) b0 (ax _)) (ag (cg hu1 (b5 (K:=K) rfl (qv 1)) (ah (ixTK (K:=K) rfl) (qv 2) ab (fun _ _=>rfl)) (ah (ixTK (K:=K) rfl) (cw hu1 (b5 (K:=K) rfl (qv 0)) (df (qv 1) U.cl cN.meth GN hr cN.bind .nil am (aw (ah (ixTK (K:=K) rfl) (qv 2) ab (fun _ _=>rfl)) aa)) (fun _ _=>rfl)) (gk (K:=K) rfl PySem.F.plainAttrs_tuple PySem.F.slot_tuple_index PySem.F.type_tuple_index (ug K rfl) (qe_g gF) (aw (ah (ixTK (K:=K) rfl) (qv 2) ab (fun _ _=>rfl)) aa)) (fun _ _=>rfl)))) (ag (b6 (ar be (ah (ixTK (K:=K) rfl) (qv 2) ab (fun _ _=>rfl)) b0 (ax _)) (ae (aq (i:=3) nd rfl (Or.inl rfl) (b7 cv rfl C.list PyProof.Rows.boot_list (aw (cw hu1 (b5 (K:=K) rfl (qv 0)) (df (qv 1) U.cl cN.meth GN hr cN.bind .nil am (aw (ah (ixTK (K:=K) rfl) (qv 2) ab (fun _ _=>rfl)) aa)) (fun _ _=>rfl)) aa)))
   (ae (jo (df (qv 1) U.cl cN.meth GN hr cN.bind .nil am (aw (ah (ixTK (K:=K) rfl) (qv 2) ab (fun _ _=>rfl)) aa)) (wv (qv 3) (gk (K:=K) rfl PySem.F.plainAttrs_tuple PySem.F.slot_tuple_index PySem.F.type_tuple_index (ug K rfl) (qe_g gF) (aw (ah (ixTK (K:=K) rfl) (qv 2) ab (fun _ _=>rfl)) aa)) pf))
   (ag (cg hu1 (b5 (K:=K) rfl (qv 0)) (df (qv 1) U.cl cN.meth GN hr cN.bind .nil am (aw (ah (ixTK (K:=K) rfl) (qv 2) ab (fun _ _=>rfl)) aa)) (b7 lc rfl C.tuple PyProof.Rows.boot_tuple (af (qv 3) aa)))))) (ag (b6 (ar be (ah (ixTK (K:=K) rfl) (qv 2) ab (fun _ _=>rfl)) b0 (ax _)) (ae (aq (i:=3) nd rfl (Or.inl rfl) (bp (az (df (qv 1) U.cl cN.meth GN hr cN.bind .nil am (aw (ah (ixTK (K:=K) rfl) (qv 2) ab (fun _ _=>rfl)) aa)) (az (df (qv 1) U.cl cN.meth GN hr cN.bind .nil am (aw (ah (ixTK (K:=K) rfl) (qv 2) ab (fun _ _=>rfl)) aa)) aa))))
   (ae (dn (K:=K) rfl (qv 0) (ap bh (b5 (K:=K) rfl (qv 0)) ab))
   (ae (cg hu1 (b5 (K:=K) rfl (qv 0)) (b5 (K:=K) rfl (qv 0)) (qv 3))
   (ag (cg hu1 (b5 (K:=K) rfl (qv 1)) (ah (ixTK (K:=K) rfl) (qv 2) ab (fun _ _=>rfl)) (b5 (K:=K) rfl (qv 0))))))) (ag (dg (wf (b5 (K:=K) rfl (qv 0)) (df (qv 1) U.cl cN.meth GN hr cN.bind .nil am (aw (ah (ixTK (K:=K) rfl) (qv 2) ab (fun _ _=>rfl)) aa))))))))))))),?_⟩
 rcases h with⟨m,p,dx,pr,pt,nd',t,fs,rc,x,y,kvs,v,rfl,hp,hff,ht,hn,hl,hv,q⟩|⟨m,p,dm,dx,pr,pt,nd',pd,fl,cd,t,fm,fs,rc,x,g,b,kvs,cvs,i,c,rfl,hm,hM,hp,hff,ht,hn,hv,hc,hcv,q⟩|⟨m,p,dm,dx,pr,pt,nd',pd,fl,cd,t,fm,fs,rc,x,y,z,g,b,kvs,cvs,v1,v2,rfl,hm,hM,hl,hne,hnc,hp,hff,ht,hn,hkl,hv1,hv2,hc,hcl,q⟩|⟨m,p,dm,dx,pr,pt,nd',pd,fl,cd,t,c,fm,fs,rc,x,y,fld,g,b,kvs,cvs,i,v0,v1,v,rfl,hm,hM,hp,hff,ht,hn,hkl,hv,hc,hcv,hcc,hfld,q⟩|⟨m,p,dm,dx,pr,pt,nd',pd,fl,cd,t,c,fm,fs,rc,y,fld,z,g,b,kvs,cvs,i,v0,v1,v,w0,w1,rfl,hm,hM,hp,hff,ht,hn,hv,hv2,hc,hcl,hcv,hcc,hfld,q⟩
 . refine⟨_,rfl,t,_,0,_,rfl,rfl,SqT.of ht,rfl,rfl,_,rfl,iteB (fun _=>?_) (fun c=>absurd c (by decide +kernel))⟩
   refine⟨_,rfl,p,dx,fs,rfl,hp,hff.meth _ (by simp),_,rfl,t,_,2,_,rfl,rfl,SqT.of ht,rfl,p,dx,pr,pt,nd',fs,rc,y,rfl,hp,hff,ga hn hv ?_⟩
   exact⟨_,rfl,p,CF,dx,fs,_,rfl,hp,U.cl,U.nN,hff.numbers,_,rfl,t,_,1,_,rfl,rfl,SqT.of ht,rfl,nd',_,rfl,DPut.k (k:=Sum.inr x) hn (bx (by omega)),q⟩
 . refine⟨_,rfl,t,_,0,_,rfl,rfl,SqT.of ht,rfl,rfl,_,rfl,iteB (fun c=>absurd c (by decide +kernel)) (fun _=>?_)⟩
   refine⟨_,rfl,t,_,0,_,rfl,rfl,SqT.of ht,rfl,rfl,_,rfl,iteB (fun c=>absurd c (by decide +kernel)) (fun _=>?_)⟩
   refine⟨_,rfl,t,_,0,_,rfl,rfl,SqT.of ht,rfl,rfl,_,rfl,iteB (fun c=>absurd c (by decide +kernel)) (fun _=>?_)⟩
   refine⟨_,rfl,t,_,0,_,rfl,rfl,SqT.of ht,rfl,rfl,_,rfl,iteB (fun c=>absurd c (by decide +kernel)) (fun _=>?_)⟩
   refine⟨_,rfl,m,CM,dm,fm,_,rfl,hm,T.cl,T.nC,hM.cells,cd,rfl,.inl ⟨_,.inl hc⟩,?_⟩
   refine⟨_,rfl,p,dx,fs,rfl,hp,hff.meth _ (by simp),_,rfl,t,_,1,_,rfl,rfl,SqT.of ht,rfl,p,dx,pr,pt,nd',fs,rc,x,rfl,hp,hff,ga hn hv ?_⟩
   exact⟨cvs,Sum.inl i,c,hc,rfl,hcv,q⟩
 . refine⟨_,rfl,t,_,0,_,rfl,rfl,SqT.of ht,rfl,rfl,_,rfl,iteB (fun c=>absurd c (by decide +kernel)) (fun _=>?_)⟩
   refine⟨_,rfl,t,_,0,_,rfl,rfl,SqT.of ht,rfl,rfl,_,rfl,iteB (fun c=>absurd c (by decide +kernel)) (fun _=>?_)⟩
   refine⟨_,rfl,t,_,0,_,rfl,rfl,SqT.of ht,rfl,rfl,_,rfl,iteB (fun c=>absurd c (by decide +kernel)) (fun _=>?_)⟩
   refine⟨_,rfl,t,_,0,_,rfl,rfl,SqT.of ht,rfl,rfl,_,rfl,iteB (fun _=>?_) (fun c=>absurd c (by decide +kernel))⟩
   refine⟨_,rfl,p,dx,fs,rfl,hp,hff.meth _ (by simp),_,rfl,t,_,2,_,rfl,rfl,SqT.of ht,rfl,p,dx,pr,pt,nd',fs,rc,y,rfl,hp,hff,ga hn hv1 ?_⟩
   refine⟨_,rfl,p,dx,fs,rfl,hp,hff.meth _ (by simp),_,rfl,t,_,3,_,rfl,rfl,SqT.of ht,rfl,p,dx,pr,pt,nd',fs,rc,z,rfl,hp,hff,ga hn hv2 ?_⟩
   refine⟨(show 2<=sizeLine by decide),fun c hcn=>?_⟩
   have s1:=ad hcn (.tup [v1,v2])
   have q1:=q c hcn
   generalize upd H c (.tup [v1,v2])=H1 at s1 q1 |-
   have hm1:=s1 _ _ hm
   refine⟨_,rfl,m,CM,dm,fm,_,rfl,hm1,T.cl,T.nG,hM.greatest,_,_,rfl,rfl,_,rfl,m,CM,dm,fm,rfl,hm1,T.cl,T.nG,by omega,?_⟩
   have hM2:=hM.great hl (g+1)
   have k2:(upd H1 m (.ins CM dm (putF "greatest" (.int (g+1)) fm))) m=some (.ins CM dm (putF "greatest" (.int (g+1)) fm)):=a0
   have ncm:cd≠m:=fun w=>by rw[w,hm] at hc;cases hc
   have nnm:nd'≠m:=fun w=>by rw[w,hm] at hn;cases hn
   have ntm:t≠m:=fun w=>by rw[w,hm] at ht;cases ht
   have npc:p≠cd:=fun w=>by rw[w,hc] at hp;cases hp
   have ntc:t≠cd:=fun w=>by rw[w,hc] at ht;cases ht
   have hc2:(upd H1 m (.ins CM dm (putF "greatest" (.int (g+1)) fm))) cd=some (.dK cvs):=by rw[ac ncm];exact s1 _ _ hc
   have hn2:(upd H1 m (.ins CM dm (putF "greatest" (.int (g+1)) fm))) nd'=some (.dK kvs):=by rw[ac nnm];exact s1 _ _ hn
   have hp2:(upd H1 m (.ins CM dm (putF "greatest" (.int (g+1)) fm))) p=some (.ins CF dx fs):=by rw[ac (Ne.symm hne)];exact s1 _ _ hp
   have ht2:(upd H1 m (.ins CM dm (putF "greatest" (.int (g+1)) fm))) t=some (.tup [.str "new",.str x,.str y,.str z]):=by rw[ac ntm];exact s1 _ _ ht
   generalize upd H1 m (.ins CM dm (putF "greatest" (.int (g+1)) fm))=H2 at k2 hc2 hn2 hp2 ht2 q1 |-
   refine⟨_,rfl,_,rfl,m,CM,dm,_,_,rfl,k2,T.cl,T.nC,hM2.cells,_,rfl,m,CM,dm,_,_,rfl,k2,T.cl,T.nG,hM2.greatest,cd,_,rfl,DPut.k (k:=Sum.inl (g+1)) hc2 (bx (by omega)),?_⟩
   have k3:(upd H2 cd (.dK (putK cvs (Sum.inl (g+1)) (.ref c)))) m=some (.ins CM dm (putF "greatest" (.int (g+1)) fm)):=by rw[ac (Ne.symm ncm)];exact k2
   have hn3:(upd H2 cd (.dK (putK cvs (Sum.inl (g+1)) (.ref c)))) nd'=some (.dK kvs):=by rw[ac hnc];exact hn2
   have hp3:(upd H2 cd (.dK (putK cvs (Sum.inl (g+1)) (.ref c)))) p=some (.ins CF dx fs):=by rw[ac npc];exact hp2
   have ht3:(upd H2 cd (.dK (putK cvs (Sum.inl (g+1)) (.ref c)))) t=some (.tup [.str "new",.str x,.str y,.str z]):=by rw[ac ntc];exact ht2
   generalize upd H2 cd (.dK (putK cvs (Sum.inl (g+1)) (.ref c)))=H3 at k3 hn3 hp3 ht3 q1 |-
   exact⟨_,rfl,m,CM,dm,_,_,rfl,k3,T.cl,T.nG,hM2.greatest,_,rfl,p,CF,dx,fs,_,rfl,hp3,U.cl,U.nN,hff.numbers,_,rfl,t,_,1,_,rfl,rfl,SqT.of ht3,rfl,nd',_,rfl,DPut.k (k:=Sum.inr x) hn3 (bx (by omega)),q1⟩
 . refine⟨_,rfl,t,_,0,_,rfl,rfl,SqT.of ht,rfl,rfl,_,rfl,iteB (fun c=>absurd c (by decide +kernel)) (fun _=>?_)⟩
   refine⟨_,rfl,t,_,0,_,rfl,rfl,SqT.of ht,rfl,rfl,_,rfl,iteB (fun _=>?_) (fun c=>absurd c (by decide +kernel))⟩
   refine⟨_,rfl,m,CM,dm,fm,_,rfl,hm,T.cl,T.nC,hM.cells,_,rfl,p,dx,fs,rfl,hp,hff.meth _ (by simp),_,rfl,t,_,2,_,rfl,rfl,SqT.of ht,rfl,p,dx,pr,pt,nd',fs,rc,y,rfl,hp,hff,ga hn hv ?_⟩
   have hg:=DGet.k (k:=Sum.inl i) hc
   rw[hcv] at hg
   refine⟨cd,_,rfl,hg,.inr (.inl ⟨rfl,oF,lF,cF,dF⟩),_,rfl,t,_,3,_,rfl,rfl,SqT.of ht,rfl,aF,"first","second",fld,rfl,rfl,hF _,by decide +kernel,?_⟩
   rcases hfld with⟨h1,rfl⟩|⟨h1,rfl⟩
   . exact .inl ⟨h1,c,_,0,_,rfl,rfl,hcc,rfl,_,rfl,p,CF,dx,fs,_,rfl,hp,U.cl,U.nN,hff.numbers,_,rfl,t,_,1,_,rfl,rfl,SqT.of ht,rfl,nd',_,rfl,DPut.k (k:=Sum.inr x) hn (bx (by omega)),q⟩
   . exact .inr ⟨h1,c,_,1,_,rfl,rfl,hcc,rfl,_,rfl,p,CF,dx,fs,_,rfl,hp,U.cl,U.nN,hff.numbers,_,rfl,t,_,1,_,rfl,rfl,SqT.of ht,rfl,nd',_,rfl,DPut.k (k:=Sum.inr x) hn (bx (by omega)),q⟩
 . refine⟨_,rfl,t,_,0,_,rfl,rfl,SqT.of ht,rfl,rfl,_,rfl,iteB (fun c=>absurd c (by decide +kernel)) (fun _=>?_)⟩
   refine⟨_,rfl,t,_,0,_,rfl,rfl,SqT.of ht,rfl,rfl,_,rfl,iteB (fun c=>absurd c (by decide +kernel)) (fun _=>?_)⟩
   refine⟨_,rfl,t,_,0,_,rfl,rfl,SqT.of ht,rfl,rfl,_,rfl,iteB (fun _=>?_) (fun c=>absurd c (by decide +kernel))⟩
   refine⟨_,rfl,m,CM,dm,fm,_,rfl,hm,T.cl,T.nC,hM.cells,_,rfl,p,dx,fs,rfl,hp,hff.meth _ (by simp),_,rfl,t,_,1,_,rfl,rfl,SqT.of ht,rfl,p,dx,pr,pt,nd',fs,rc,y,rfl,hp,hff,ga hn hv ?_⟩
   have hg:=DGet.k (k:=Sum.inl i) hc
   rw[hcv] at hg
   refine⟨cd,_,rfl,hg,c,_,rfl,.inr hcc,fun l hl=>?_⟩
   have s1:=ad hl (.lst [v0,v1])
   have k1:(upd H l (.lst [v0,v1])) l=some (.lst [v0,v1]):=a0
   dsimp only[bi]
   generalize upd H l (.lst [v0,v1])=H1 at s1 k1 |-
   refine⟨_,rfl,p,dx,fs,rfl,s1 _ _ hp,hff.meth _ (by simp),_,rfl,t,_,3,_,rfl,rfl,SqT.of (s1 _ _ ht),rfl,p,dx,pr,pt,nd',fs,rc,z,rfl,s1 _ _ hp,hff,ga (s1 _ _ hn) hv2 ?_⟩
   have fin:∀H2,ck l H1 H2->H2 l=some (.lst [w0,w1])->∀r,H2 r=none->Q .non (upd (upd H2 r (.tup [w0,w1])) cd (.dK (putK cvs (Sum.inl i) (.ref r)))):=fun H2 e2 k2 r hr=>by
     refine q r _ (fun b o hb=>?_) ?_ a0
     . have nb:b≠l:=ai hb hl
       have:=e2 _ _ (s1 _ _ hb) nb
       rw[ac (ai this hr)];exact this
     . cases hh:H r with
       | none=>rfl
       | some o =>
         have:=e2 _ _ (s1 _ _ hh) (ai hh hl)
         rw[hr] at this;cases this
   have tail:∀H2,ck l H1 H2->H2 l=some (.lst [w0,w1])->a0q (tFld K (tVar 0) "cells") (q8 CF "number" (qz CF) [] E0 (tVar 1) (bj (tOp (rIxT K) (tVar 2) (tC (.int 1))) tNil)) (tCB (fun xs H Q=>∃p ys,xs=[V.ref p]/\((SqL K H p ys/\∀l,H l=none->Q (.ref l) (upd H l (.tup ys)))\/(SqT K H p ys/\Q (.ref p) H))) (bj (tVar 3) tNil)) { nx:=fun x H'=>Q V.non H',rt:=Q } [some (.ref m),some (.ref p),some (.ref t),some (.ref l)] H2:=fun H2 e2 k2=>by
     refine⟨_,rfl,l,_,rfl,.inl ⟨SqL.of k2,fun r hr=>?_⟩⟩
     have f:=fin H2 e2 k2 r hr
     have e3:∀{b:Addr} {o:HO},H b=some o->(upd H2 r (.tup [w0,w1])) b=some o:=fun {b o} hb=>by
       have:=e2 _ _ (s1 _ _ hb) (ai hb hl)
       rw[ac (ai this hr)];exact this
     exact⟨_,rfl,m,CM,dm,fm,_,rfl,e3 hm,T.cl,T.nC,hM.cells,_,rfl,p,dx,fs,rfl,e3 hp,hff.meth _ (by simp),_,rfl,t,_,1,_,rfl,rfl,SqT.of (e3 ht),rfl,p,dx,pr,pt,nd',fs,rc,y,rfl,e3 hp,hff,ga (e3 hn) hv ⟨cd,_,rfl,DPut.k (k:=Sum.inl i) (e3 hc) (bx (by omega)),f⟩⟩
   refine⟨_,rfl,.inr (.inl ⟨rfl,oF,lF,cF,dF⟩),_,rfl,t,_,2,_,rfl,rfl,SqT.of (s1 _ _ ht),rfl,aF,"first","second",fld,rfl,rfl,hF _,by decide +kernel,?_⟩
   rcases hfld with⟨h1,rfl,rfl⟩|⟨h1,rfl,rfl⟩
   . exact .inl ⟨h1,l,_,0,0,rfl,rfl,k1,rfl,tail _ (fun b o hb nb=>by rw[ac nb];exact hb) a0⟩
   . exact .inr ⟨h1,l,_,1,1,rfl,rfl,k1,rfl,tail _ (fun b o hb nb=>by rw[ac nb];exact hb) a0⟩
noncomputable def vj (CM:Addr):Sp:=fun vs H Q E=>∃(m dx pd fl cd p:Addr) (fs:List (Str×V)) (g:Int) (b:Bool),vs=[.ref m]/\H m=some (.ins CM dx fs)/\MFs fs pd fl cd g b/\H fl=some (.lst [.ref p])/\Q .non H
theorem scLeave:FnScope ["self","ended"] ["self"] (ao sm):=⟨rfl,rfl,rfl,by decide +kernel,rfl,by decide +kernel,by decide +kernel⟩
theorem a1d (C:Con K mg w) (T:TxM K mg CM fI) (U:TxF K mg CF fJ) (F:Fun K "leave_ended" "Machine.leave_ended" sm f fd) (GD:FnOk P w K mg base CX0 4 gD dD ["self"] (lz K CF)) (cD:MCal K CF "deed" gD dD ["self"]):FnOk P w K mg base CX0 5 f fd ["self"] (vj CM):=by
 refine F.okQ scLeave (fun vs H Q E h=>?_) (fun cdv A outer s0 H vs Q E hr h=>?_)
 . obtain⟨_,_,_,_,_,_,_,_,_,rfl,_⟩:=h;rfl
 obtain⟨m,dx,pd,fl,cd,p,fs,g,b,rfl,hm,hM,hfl,q⟩:=h
 have nd:=scLeave.nd
 have hu1:=ft hr
 refine⟨_,(ag (p6 PassesOwn.never (QW.qt (li (ar uq (ba dk rfl C.len PySem.boot_len (cn (b5 (K:=K) rfl (qv 0)) aa)) ab (ax _)) (jp (ar vz (cz (ah dq (b5 (K:=K) rfl (qv 0)) (et dh ab) (fun _ _=>rfl)) U.cl cD.meth GD hr cD.bind .nil am) i7 (ax _))))) (ae (aq (i:=1) nd rfl (Or.inl rfl) (a9c PySem.F.plainAttrs_list PySem.F.slot_list_pop PySem.F.type_list_pop a9r (b5 (K:=K) rfl (qv 0))))
   (ag (b6 (ar mx (b5 (K:=K) rfl (qv 1)) b0 (ax _)) (ag (cg hu1 (b5 (K:=K) rfl (ah dq (b5 (K:=K) rfl (qv 0)) (et dh ab) (fun _ _=>rfl))) (b5 (K:=K) rfl (qv 1)) (cw hu1 (b5 (K:=K) rfl (qv 1)) (ah ay (b5 (K:=K) rfl (qv 1)) ab (fun _ _=>rfl)) (fun _ _=>rfl)))) b9))))),?_⟩
 refine⟨fun _ σ H'=>σ=[some (.ref m),none]/\H'=H,⟨0,rfl,rfl⟩,?_⟩
 rintro k σ H' ⟨rfl,rfl⟩
 exact⟨_,rfl,m,CM,dx,fs,_,rfl,hm,T.cl,T.nF,hM.frames,fl,_,rfl,.inl (SqL.of hfl),_,_,rfl,rfl,_,rfl,iteB (fun c=>absurd c (by simp)) (fun _=>(if_neg Bool.false_ne_true).mpr q)⟩
noncomputable def sf:Sp:=fun _ _ _ _=>False
theorem zo {P:Program}{w:World}{K:PySem.W.Frag}{mg:Str->Option Value}{base:Heap}{CX:CXT}{k:Nat}{f:Addr}{fd:FuncData}{ps:List Str}:FnOk P w K mg base CX k f fd ps sf:=⟨fun _ _ _ _ h=>h.elim,fun _ _ _ _ _ _ _ _ _ _ _ _ _ h=>h.elim⟩
structure At1 (K:PySem.W.Frag) (CM CF:Addr) (H:Hp) (m pd fl cd p pr pt nd bd:Addr) (g:Int) (rc:Str) (ts:List Addr) (k:Nat):Prop where
 ma:MaAt CM CF H m pd fl cd p pr pt nd [] g false rc
 pr:∃v0 v1 v2 v3 v4,H pr=some (.tup [v0,v1,v2,v3,v4,.ref bd])
 pt:SqT K H pt [.int (k:Int)]
 bd:H bd=some (.lst (ts.map V.ref))
 ne:m≠p
theorem spChange.mono {K:PySem.W.Frag}{CM CF:Addr}{vs:List V}{H:Hp}{Q Q':VK}{E E':XK}(h:spChange K CM CF vs H Q E) (w:∀v H',Q v H'->Q' v H'):spChange K CM CF vs H Q' E':=by
 cases h with
 | set m p dx pr pt nd t fs rc x y kvs v h0 h1 h2 h3 h4 h5 h6 q=>exact .set m p dx pr pt nd t fs rc x y kvs v h0 h1 h2 h3 h4 h5 h6 (w _ _ q)
 | free m p dm dx pr pt nd pd fl cd t fm fs rc x g b kvs cvs i c h0 hm hM h1 h2 h3 h4 h6 h7 h8 q=>exact .free m p dm dx pr pt nd pd fl cd t fm fs rc x g b kvs cvs i c h0 hm hM h1 h2 h3 h4 h6 h7 h8 (w _ _ q)
 | new m p dm dx pr pt nd pd fl cd t fm fs rc x y z g b kvs cvs v1 v2 h0 hm hM hl hne hnc h1 h2 h3 h4 h5 h6 h6' h7 h8 q=>exact .new m p dm dx pr pt nd pd fl cd t fm fs rc x y z g b kvs cvs v1 v2 h0 hm hM hl hne hnc h1 h2 h3 h4 h5 h6 h6' h7 h8 fun c hc=>w _ _ (q c hc)
 | read m p dm dx pr pt nd pd fl cd t c fm fs rc x y fld g b kvs cvs i v0 v1 v h0 hm hM h1 h2 h3 h4 h5 h6 h7 h8 h9 h10 q=>exact .read m p dm dx pr pt nd pd fl cd t c fm fs rc x y fld g b kvs cvs i v0 v1 v h0 hm hM h1 h2 h3 h4 h5 h6 h7 h8 h9 h10 (w _ _ q)
 | write m p dm dx pr pt nd pd fl cd t c fm fs rc y fld z g b kvs cvs i v0 v1 v w0 w1 h0 hm hM h1 h2 h3 h4 h6 h6' h7 hl h8 h9 h10 q=>exact .write m p dm dx pr pt nd pd fl cd t c fm fs rc y fld z g b kvs cvs i v0 v1 v w0 w1 h0 hm hM h1 h2 h3 h4 h6 h6' h7 hl h8 h9 h10 fun r H' e hr h=>w _ _ (q r H' e hr h)
inductive spStep1 (K:PySem.W.Frag) (CM CF:Addr) (vs:List V) (H:Hp) (Q:VK) (E:XK):Prop
 | mk (m pd fl cd p pr pt nd bd t:Addr) (g:Int) (rc w:Str) (us:List V) (ts:List Addr) (k:Nat) (kvs cvs:List (Key×V)) (h0:vs=[.ref m]) (h1:At1 K CM CF H m pd fl cd p pr pt nd bd g rc ts k) (hk:ts[k]? = some t) (ht:H t=some (.tup (.str w::us))) (hw:w ≠ "if" /\ w ≠ "while" /\ w ≠ "call") (hn:H nd=some (.dK kvs)) (hc:H cd=some (.dK cvs))
     (hcell:places.lookup w=none\/∃(j:Nat) (x:Str) (i:Int) (c:V),places.lookup w=some (.int (j:Int))/\(V.str w::us)[j]? = some (.str x)/\numV kvs x=some (.int i)/\valV cvs (Sum.inl i)=some c)
     (q:∀H1,Same H H1->spChange K CM CF [.ref m,.ref p,.ref t] H1 (fun v H2=>v=.non/\(∃g',At1 K CM CF H2 m pd fl cd p pr pt nd bd g' rc ts k)/\∀q1 dx fs fs' H3,Same H2 H3->SqT K H3 q1 [.int ((k:Int)+1)]->H2 p=some (.ins CF dx fs)->FFs fs' pr q1 nd rc->fs'.length<=fs.length+1->Q .non (upd H3 p (.ins CF dx fs'))) E0):spStep1 K CM CF vs H Q E
 | fall (m dm pd fl cd p pr pt nd bd t:Addr) (fm:List (Str×V)) (g:Int) (rc w x:Str) (us:List V) (ts:List Addr) (k j:Nat) (kvs cvs:List (Key×V)) (i:Int) (h0:vs=[.ref m]) (h1:At1 K CM CF H m pd fl cd p pr pt nd bd g rc ts k) (hm:H m=some (.ins CM dm fm)) (hl:fm.length<50) (hk:ts[k]? = some t) (ht:H t=some (.tup (.str w::us))) (hn:H nd=some (.dK kvs)) (hc:H cd=some (.dK cvs)) (h2:places.lookup w=some (.int (j:Int))) (h3:(V.str w::us)[j]? = some (.str x)) (hx:numV kvs x=some (.int i)) (hi:valV cvs (Sum.inl i)=none) (q:∀H1,Same H H1->Q .non (upd H1 m (.ins CM dm (putF "fallen" (.bl true) fm)))):spStep1 K CM CF vs H Q E
 | fallen (m dx pd fl cd:Addr) (fs:List (Str×V)) (g:Int) (h0:vs=[.ref m]) (h1:H m=some (.ins CM dx fs)) (h2:MFs fs pd fl cd g true) (q:Q .non H):spStep1 K CM CF vs H Q E
 | ended (m pd fl cd p pr pt nd bd:Addr) (g:Int) (rc:Str) (ts:List Addr) (k:Nat) (h0:vs=[.ref m]) (h1:At1 K CM CF H m pd fl cd p pr pt nd bd g rc ts k) (hk:ts.length<=k) (q:∀H',Same H H'->Q .non H'):spStep1 K CM CF vs H Q E
theorem scStep:FnScope ["self","frame","deed","name"] ["self"] (ao x8):=⟨rfl,rfl,rfl,by decide +kernel,rfl,by decide +kernel,by decide +kernel⟩
theorem a4l (C:Con K mg w) (T:TxM K mg CM fI) (U:TxF K mg CF fJ) (F:Fun K "step" "Machine.step" x8 f fd) (GW:FnOk P w K mg base CX0 5 gW dW ["self"] (spWord K CM CF)) (cW:MCal K CM "word" gW dW ["self"]) (GD:FnOk P w K mg base CX0 4 gD dD ["self"] (lz K CF)) (cD:MCal K CF "deed" gD dD ["self"])
   (GN:FnOk P w K mg base CX0 2 gN dN ["self","word"] (qz CF)) (cN:MCal K CF "number" gN dN ["self","word"]) (cB:MCal K CM "branch" gB dB ["self","frame","deed"]) (cE:MCal K CM "enter" gE dE ["self","frame","deed"]) (GC:FnOk P w K mg base CX0 3 gC dC ["self","frame","deed"] (spChange K CM CF)) (cC:MCal K CM "change" gC dC ["self","frame","deed"])
   (GM:FnOk P w K mg base CX0 5 gM dM ["self","path"] (ze K CF)) (cM:MCal K CF "move" gM dM ["self","path"]) (GL:FnOk P w K mg base CX0 5 gL dL ["self"] (vj CM)) (cL:MCal K CM "leave_ended" gL dL ["self"]) (GK:FnOk P w K mg base CX0 1 gK dK ["deed"] (spCellName K)) (cK:Cal K mg "cell_name" gK dK ["deed"]) (GH:FnOk P w K mg base CX0 1 gH dH ["path"] (spBehind K)) (cH:Cal K mg "behind_deed" gH dH ["path"]):FnOk P w K mg base CX0 6 f fd ["self"] (spStep1 K CM CF):=by
 have GB:FnOk P w K mg base CX0 0 gB dB ["self","frame","deed"] sf:=zo
 have GE:FnOk P w K mg base CX0 0 gE dE ["self","frame","deed"] sf:=zo
 refine F.okQ scStep (fun vs H Q E h=>?_) (fun cdv A outer s0 H vs Q E hr h=>?_)
 . rcases h with⟨_,_,_,_,_,_,_,_,_,_,_,_,_,_,_,_,_,_,rfl,_⟩|⟨_,_,_,_,_,_,_,_,_,_,_,_,_,_,_,_,_,_,_,_,_,_,_,rfl,_⟩|⟨_,_,_,_,_,_,_,rfl,_⟩|⟨_,_,_,_,_,_,_,_,_,_,_,_,_,rfl,_⟩<;>rfl
 have nd:=scStep.nd
 have hu1:=ft hr
 have hr0:=hr.mono (j:=0) (by omega)
 have hr1:=hr.mono (j:=1) (by omega)
 have hr2:=hr.mono (j:=2) (by omega)
 have hr3:=hr.mono (j:=3) (by omega)
 have hr4:=hr.mono (j:=4) (by omega)
 refine⟨_,ae (b6 (ar mx (cz (qv 0) T.cl cW.meth GW hr cW.bind .nil am) b0 (ax _)) (ag xw) b9)
   (ae (aq (i:=1) nd rfl (Or.inl rfl) (ah (ixK (K:=K) rfl) (b5 (K:=K) rfl (qv 0)) (et dh ab) (fun _ _=>rfl)))
   (ae (aq (i:=2) nd rfl (Or.inl rfl) (cz (qv 1) U.cl cD.meth GD hr4 cD.bind .nil am))
   (ae (aq (i:=3) nd rfl (Or.inl rfl) (ak GK hr1 rfl cK.name cK.keep cK.bind .nil am (af (qv 2) aa)))
   (ae (b6 (QW.qt (li (ar a7b (qv 3) i7 (ax _)) (jp (tz hu1 (df (qv 1) U.cl cN.meth GN hr2 cN.bind .nil am (af (qv 3) aa)) (b5 (K:=K) rfl (qv 0)))))) (ae (dn (K:=K) rfl (qv 0) fb)
   (ag xw)) b9)
   (ae (b6 (ar (a7p (K:=K) rfl) (ah (ixTK (K:=K) rfl) (qv 2) ab (fun _ _=>rfl)) (bp (bg (bg aa))) (by with_unfolding_all rfl)) (ag (dg (df (qv 0) T.cl cB.meth GB hr0 cB.bind .nil am (af (qv 1) (af (qv 2) aa))))) (ag (b6 (ar be (ah (ixTK (K:=K) rfl) (qv 2) ab (fun _ _=>rfl)) b0 (ax _)) (ag (dg (df (qv 0) T.cl cE.meth GE hr0 cE.bind .nil am (af (qv 1) (af (qv 2) aa))))) (ae (dg (df (qv 0) T.cl cC.meth GC hr3 cC.bind .nil am (af (qv 1) (af (qv 2) aa))))
   (ag (dg (df (qv 1) U.cl cM.meth GM hr cM.bind .nil am (az (ak GH hr1 rfl cH.name cH.keep cH.bind .nil am (cn (b5 (K:=K) rfl (qv 1)) aa)) aa))))))))
   (ag (dg (cz (qv 0) T.cl cL.meth GL hr cL.bind .nil am)))))))),?_⟩
 rcases h with⟨m,pd,fl,cd,p,pr,pt,nd',bd,t,g,rc,wd,us,ts,k,kvs,cvs,rfl,h1,hk,ht,hw,hn,hc,hcell,q⟩|⟨m,dm,pd,fl,cd,p,pr,pt,nd',bd,t,fm,g,rc,wd,x,us,ts,k,j,kvs,cvs,i,rfl,h1,hm0,hl50,hk,ht,hn,hc,h2,h3,hx,hi,q⟩|⟨m,dx,pd,fl,cd,fs,g,rfl,hm,hM,q⟩|⟨m,pd,fl,cd,p,pr,pt,nd',bd,g,rc,ts,k,rfl,h1,hk,q⟩
 rotate_left
 . obtain⟨⟨⟨dx,fs,hm,hM⟩,hfl,⟨dx',fs',hp,hff,hf50⟩⟩,⟨v0,v1,v2,v3,v4,hpr⟩,hpt,hbd,hmp⟩:=id h1
   rw[hm0] at hm
   cases hm
   have hm:=hm0
   have hkl:=(List.getElem?_eq_some_iff.mp hk).1
   have hfl':H fl=some (.lst ([]++[V.ref p])):=hfl
   refine⟨_,rfl,m,dm,fm,rfl,hm,hM.meth _ (by decide +kernel),.fine m pd fl cd p pr pt nd' bd bd [] g rc v0 v1 v2 v3 v4 [] k ts rfl h1.ma hpr hpt rfl (Nat.zero_le _) hbd fun H1 e1=>?_⟩
   rw[if_pos hkl]
   refine⟨rfl,_,rfl,iteB (fun c=>absurd c (by simp)) (fun _=>?_)⟩
   refine⟨_,rfl,m,CM,dm,fm,_,rfl,e1 _ _ hm,T.cl,T.nF,hM.frames,_,rfl,fl,_,_,_,rfl,rfl,SqL.of (e1 _ _ hfl'),dj,?_⟩
   refine⟨_,rfl,p,dx',fs',rfl,e1 _ _ hp,hff.meth _ (by simp),p,dx',pr,pt,nd',bd,fs',rc,v0,v1,v2,v3,v4,rfl,e1 _ _ hp,hff,e1 _ _ hpr,bd,pt,bd,[],k,ts,rfl,e1.seqT hpt,rfl,Nat.zero_le _,e1 _ _ hbd,fun t' H2 ht' e2'=>?_,fun H2 hn' _=>by rw[hk] at hn';cases hn'⟩
   rw[hk] at ht';cases ht'
   have e2:=e1.trans e2'
   dsimp only[bi]
   have hg:=DGet.k (k:=Sum.inl i) (e2 _ _ hc)
   rw[hi] at hg
   refine⟨_,rfl,.some t wd us j (.str x) rfl (SqT.of (e2 _ _ ht)) h2 h3 ?_⟩
   refine⟨_,rfl,rfl,_,rfl,iteB (fun _=>?_) (fun c=>absurd c (by simp))⟩
   refine⟨_,rfl,p,dx',fs',rfl,e2 _ _ hp,hff.meth _ (by simp),_,rfl,p,dx',pr,pt,nd',fs',rc,x,rfl,e2 _ _ hp,hff,ga (e2 _ _ hn) hx ?_⟩
   refine⟨_,rfl,m,CM,dm,fm,_,rfl,e2 _ _ hm,T.cl,T.nC,hM.cells,cd,none,rfl,hg,_,rfl,(if_pos rfl).mpr ?_⟩
   exact⟨_,rfl,m,CM,dm,fm,rfl,e2 _ _ hm,T.cl,T.nL,by omega,q H2 e2⟩
 . refine⟨_,rfl,m,dx,fs,rfl,hm,hM.meth _ (by decide +kernel),.fall m dx pd fl cd fs g rfl hm hM ?_⟩
   exact⟨rfl,_,rfl,iteB (fun _=>q) (fun c=>absurd c (by decide +kernel))⟩
 . obtain⟨⟨⟨dx,fs,hm,hM⟩,hfl,⟨dx',fs',hp,hff,hf50⟩⟩,⟨v0,v1,v2,v3,v4,hpr⟩,hpt,hbd,hmp⟩:=id h1
   refine⟨_,rfl,m,dx,fs,rfl,hm,hM.meth _ (by decide +kernel),.fine m pd fl cd p pr pt nd' bd bd [] g rc v0 v1 v2 v3 v4 [] k ts rfl h1.ma hpr hpt rfl (Nat.zero_le _) hbd fun H1 e1=>?_⟩
   rw[if_neg (by omega)]
   exact⟨rfl,_,rfl,iteB (fun _=>q H1 e1) (fun c=>absurd c (by decide +kernel))⟩
 obtain⟨⟨⟨dx,fs,hm,hM⟩,hfl,⟨dx',fs',hp,hff,hf50⟩⟩,⟨v0,v1,v2,v3,v4,hpr⟩,hpt,hbd,hmp⟩:=id h1
 have hkl:=(List.getElem?_eq_some_iff.mp hk).1
 have hfl':H fl=some (.lst ([]++[V.ref p])):=hfl
 refine⟨_,rfl,m,dx,fs,rfl,hm,hM.meth _ (by decide +kernel),.fine m pd fl cd p pr pt nd' bd bd [] g rc v0 v1 v2 v3 v4 [] k ts rfl h1.ma hpr hpt rfl (Nat.zero_le _) hbd fun H1 e1=>?_⟩
 rw[if_pos hkl]
 refine⟨rfl,_,rfl,iteB (fun c=>absurd c (by simp)) (fun _=>?_)⟩
 refine⟨_,rfl,m,CM,dx,fs,_,rfl,e1 _ _ hm,T.cl,T.nF,hM.frames,_,rfl,fl,_,_,_,rfl,rfl,SqL.of (e1 _ _ hfl'),dj,?_⟩
 refine⟨_,rfl,p,dx',fs',rfl,e1 _ _ hp,hff.meth _ (by simp),p,dx',pr,pt,nd',bd,fs',rc,v0,v1,v2,v3,v4,rfl,e1 _ _ hp,hff,e1 _ _ hpr,bd,pt,bd,[],k,ts,rfl,e1.seqT hpt,rfl,Nat.zero_le _,e1 _ _ hbd,fun t' H2 ht' e2'=>?_,fun H2 hn' _=>by rw[hk] at hn';cases hn'⟩
 rw[hk] at ht';cases ht'
 have e2:=e1.trans e2'
 dsimp only[bi]
 refine au (a:=tAsg _ _) fun D2 hN2 hR2 hC2=>?_
 have tail:∀(nmv:V),(nmv=.non\/∃(x:Str) (i:Int) (c:V),nmv=.str x/\numV kvs x=some (.int i)/\valV cvs (Sum.inl i)=some c)->D2.nx [some (.ref m),some (.ref p),some (.ref t),some nmv] H2:=fun nmv hnm=>hN2 _ _ (by
   refine au (a:=tIfS _ _ _) fun D3 hN3 hR3 hC3=>?_
   have go:D3.nx [some (.ref m),some (.ref p),some (.ref t),some nmv] H2:=hN3 _ _ (by
     refine au (a:=tIfS _ _ _) fun D4 hN4 hR4 hC4=>?_
     refine⟨_,rfl,t,_,0,_,rfl,rfl,SqT.of (e2 _ _ ht),at0,(show 2<=sizeLine by decide),fun p2 hp2=>?_⟩
     have s3:=ad hp2 (.tup [.str "if",.str "while"])
     have k3:(upd H2 p2 (.tup [.str "if",.str "while"])) p2=some (.tup (([("if" : Str),"while"]:List Str).map V.str)):=a0
     generalize upd H2 p2 (.tup [.str "if",.str "while"])=H3 at s3 k3 |-
     have e3:=e2.trans s3
     refine⟨p2,_,rfl,.inr (SqT.of k3),rfl,i9 _,_,rfl,?_⟩
     rw[gx]
     refine iteB (fun c=>absurd (of_decide_eq_true c) (by simp[hw.1,hw.2.1])) (fun _=>?_)
     refine⟨_,rfl,t,_,0,_,rfl,rfl,SqT.of (e3 _ _ ht),at0,rfl,_,rfl,iteB (fun c=>absurd (V.str.inj (of_decide_eq_true c)) hw.2.2) (fun _=>?_)⟩
     refine⟨_,rfl,m,dx,fs,rfl,e3 _ _ hm,hM.meth _ (by decide +kernel),_,rfl,_,rfl,(q H3 e3).mono fun v H4 h4=>?_⟩
     obtain⟨rfl,⟨g',⟨⟨⟨dm4,fm4,hm4,hM4⟩,hfl4,⟨dx4,fs4,hp4,hff4,hf504⟩⟩,⟨u0,u1,u2,u3,u4,hpr4⟩,hpt4,hbd4,_⟩⟩,q4⟩:=h4
     refine⟨_,rfl,p,dx4,fs4,rfl,hp4,hff4.meth _ (by simp),?_⟩
     refine⟨_,rfl,p,CF,dx4,fs4,_,rfl,hp4,U.cl,U.nA,hff4.path,pt,[],(k:Int),rfl,hpt4,Nat.zero_le _,fun q0 H5 e5 hq0=>?_⟩
     have hst:∃e,Stands H5 bd [] (k+1) ([],k+1) e:=by
       by_cases z:k+1<ts.length
       . exact⟨_,.own bd _ ts rfl (e5 _ _ hbd4) (List.getElem?_eq_getElem z) rfl rfl⟩
       . have z':ts.length=k+1:=by omega
         have:=LEnd.top (H:=H5) (bd:=bd) ts (e5 _ _ hbd4)
         rw[z'] at this
         exact⟨_,.fin bd ts this (e5 _ _ hbd4) z'.symm⟩
     obtain⟨eo,hst⟩:=hst
     have hq0':SqT K H5 q0 ((flat []++[((k+1:Nat):Int)]).map V.int):=hq0
     refine⟨p,dx4,pr,pt,nd',bd,q0,fs4,rc,u0,u1,u2,u3,u4,[],k+1,([],k+1),eo,rfl,e5 _ _ hp4,hff4,hf504,e5 _ _ hpr4,hq0',hst,Nat.zero_le _,fun q1 fs6 H6 e6 hq1 hff6 hl6 _=>?_⟩
     refine hN4 _ _ ?_
     have e46:=e5.trans e6
     have nfp:fl≠p:=fun z=>by rw[z,hp4] at hfl4;cases hfl4
     have hfl6:(upd H6 p (.ins CF dx4 fs6)) fl=some (.lst [.ref p]):=by rw[ac nfp];exact e46 _ _ hfl4
     have hm6:(upd H6 p (.ins CF dx4 fs6)) m=some (.ins CM dm4 fm4):=by rw[ac hmp];exact e46 _ _ hm4
     exact⟨_,rfl,m,dm4,fm4,rfl,hm6,hM4.meth _ (by decide +kernel),m,dm4,pd,fl,cd,p,fm4,g',false,rfl,hm6,hM4,hfl6,q4 q1 dx4 fs4 fs6 H6 e46 hq1 hp4 hff6 hl6⟩)
   rcases hnm with rfl|⟨x,i,c,rfl,hx,hi⟩
   . exact⟨_,rfl,rfl,_,rfl,iteB (fun c=>absurd c (by simp)) (fun _=>(if_neg Bool.false_ne_true).mpr go)⟩
   . refine⟨_,rfl,rfl,_,rfl,iteB (fun _=>?_) (fun c=>absurd c (by simp))⟩
     have hn2:=e2 _ _ hn
     have hc2:=e2 _ _ hc
     have hg:=DGet.k (k:=Sum.inl i) hc2
     rw[hi] at hg
     refine⟨_,rfl,p,dx',fs',rfl,e2 _ _ hp,hff.meth _ (by simp),_,rfl,p,dx',pr,pt,nd',fs',rc,x,rfl,e2 _ _ hp,hff,ga hn2 hx ?_⟩
     exact⟨_,rfl,m,CM,dx,fs,_,rfl,e2 _ _ hm,T.cl,T.nC,hM.cells,cd,some c,rfl,hg,_,rfl,(if_neg Bool.false_ne_true).mpr go⟩)
 rcases hcell with h2|⟨j,x,i,c,h2,h3,hx,hi⟩
 . exact⟨_,rfl,.none t wd us rfl (SqT.of (e2 _ _ ht)) h2 (tail _ (.inl rfl))⟩
 . exact⟨_,rfl,.some t wd us j (.str x) rfl (SqT.of (e2 _ _ ht)) h2 h3 (tail _ (.inr ⟨x,i,c,rfl,hx,hi⟩))⟩
structure MNew (K:PySem.W.Frag) (CM CF:Addr) (bs:List Nat) (G H:Hp) (m dx:Addr) (pcs:List Prc) (pc:Prc) (j:Nat) (kvs cvs:List (Key×V)) (due:Pre×Nat) (ns:List Int) (G1:Hp) (pd fl p dxp q1 nd cd pr bd:Addr) (prs:List Addr) (fsm fs:List (Str×V)) (zs:List Str) (g:Int):Prop where
 g1:Same G G1
 gH:Same G1 H
 n1:G1 m=none
 n2:G1 p=none
 n3:G1 nd=none
 n4:G1 cd=none
 n5:G1 fl=none
 nc:nd≠cd
 mp:m≠p
 hps:Paired (PrcAt K G1 bs) prs pcs
 hpr:prs[j]? = some pr
 hpd:G1 pd=some (.dK ((byK (pcs.map (·.name)) prs).map kk))
 hbd:∃v0 v1 v2 v3 v4,G1 pr=some (.tup [v0,v1,v2,v3,v4,.ref bd])
 body:ListX K G1 bs bd pc.body
 hm:H m=some (.ins CM dx fsm)
 mf:MFs fsm pd fl cd g false
 lm:fsm.length<=5
 hfl:H fl=some (.lst [.ref p])
 hp:H p=some (.ins CF dxp fs)
 ff:FFs fs pr q1 nd ""
 lf:fs.length<=4
 hq1:SqT K H q1 ((flat due.1++[(due.2:Int)]).map V.int)
 hnd:H nd=some (.dK ((fz kvs zs).map kk))
 zn:zs.Nodup
 zm:∀y,y∈zs↔bm y=true/\y∈allW bs pc
 hcd:H cd=some (.dK cvs)
 g0:ns=[]->g=0
 gm:ns≠[]->g∈ns/\∀n∈ns,n<=g
inductive spMInit (K:PySem.W.Frag) (CM CF:Addr) (bs:List Nat) (vs:List V) (H:Hp) (Q:VK) (E:XK):Prop
 | mk (G:Hp) (m dx l q0 nm hd:Addr) (x:Str) (ts:List Addr) (pcs:List Prc) (j:Nat) (pc:Prc) (xs:List Str) (kvs cvs:List (Key×V)) (ns:List Int) (pp:Pre) (k:Nat) (due:Pre×Nat)
     (h0:vs=[.ref m,.ref l,.str x,.ref q0,.ref nm,.ref hd]) (eG:Same G H) (hm:G m=none) (hm1:H m=some (.ins CM dx []))
     (hl:G l=some (.lst (ts.map V.ref))) (hp:Paired (PrcAt K G bs) ts pcs) (hn:(pcs.map (·.name)).Nodup) (h10:pcs.length<=10) (hj:pcs[j]? = some pc) (hx:pc.name=x) (hok:PrcOk bs xs pc)
     (hq:SqT K G q0 ((flat pp++[(k:Int)]).map V.int)) (hst:∀G' bd,ListX K G' bs bd pc.body->∃e,Stands G' bd pp k due e) (hpp:pp.length<=40) (hnm:G nm=some (.dK kvs)) (hhd:G hd=some (.dK cvs)) (hns:cvs.map (·.1)=ns.map Sum.inl)
     (q:∀G1 pd fl p dxp q1 nd cd pr bd prs fsm fs zs g H',MNew K CM CF bs G H' m dx pcs pc j kvs cvs due ns G1 pd fl p dxp q1 nd cd pr bd prs fsm fs zs g->Q .non H'):spMInit K CM CF bs vs H Q E
theorem a4y:("procedures" : Str) ≠ "frames" /\ ("procedures" : Str) ≠ "cells" /\ ("procedures" : Str) ≠ "greatest" /\ ("procedures" : Str) ≠ "fallen" /\ ("frames" : Str) ≠ "cells" /\ ("frames" : Str) ≠ "greatest" /\ ("frames" : Str) ≠ "fallen" /\ ("cells" : Str) ≠ "greatest" /\ ("cells" : Str) ≠ "fallen" /\ ("greatest" : Str) ≠ "fallen" := by decide +kernel
theorem a79:∀m∈j4,m≠("procedures" : Str)/\m≠("frames" : Str)/\m≠("cells" : Str)/\m≠("greatest" : Str)/\m≠("fallen" : Str):=by decide +kernel
noncomputable def mf1 (pd:Addr):List (Str×V):=putF "procedures" (.ref pd) []
noncomputable def mf2 (pd fl:Addr):List (Str×V):=putF "frames" (.ref fl) (mf1 pd)
noncomputable def mf3 (pd fl cd:Addr):List (Str×V):=putF "cells" (.ref cd) (mf2 pd fl)
noncomputable def mf4 (pd fl cd:Addr) (g:Int):List (Str×V):=putF "greatest" (.int g) (mf3 pd fl cd)
noncomputable def mf5 (pd fl cd:Addr) (g:Int):List (Str×V):=putF "fallen" (.bl false) (mf4 pd fl cd g)
theorem je (pd fl cd:Addr) (g:Int):(mf1 pd).length<=1/\(mf2 pd fl).length<=2/\(mf3 pd fl cd).length<=3/\(mf4 pd fl cd g).length<=4/\(mf5 pd fl cd g).length<=5:=by
 have h1:=bb "procedures" (.ref pd) []
 have h2:=bb "frames" (.ref fl) (mf1 pd)
 have h3:=bb "cells" (.ref cd) (mf2 pd fl)
 have h4:=bb "greatest" (.int g) (mf3 pd fl cd)
 have h5:=bb "fallen" (.bl false) (mf4 pd fl cd g)
 simp only[List.length_nil] at h1
 unfold mf5 mf4 mf3 mf2 mf1 at*
 omega
theorem a9d (pd fl cd:Addr) (g:Int):MFs (mf5 pd fl cd g) pd fl cd g false:=by
 obtain⟨n1,n2,n3,n4,n5,n6,n7,n8,n9,n10⟩:=a4y
 refine⟨?_,?_,?_,?_,?_,by have:=je pd fl cd g;omega,fun m hm=>?_⟩
 . unfold mf5 mf4 mf3 mf2 mf1;rw[aj,if_neg n4,aj,if_neg n3,aj,if_neg n2,aj,if_neg n1,aj,if_pos rfl]
 . unfold mf5 mf4 mf3 mf2;rw[aj,if_neg n7,aj,if_neg n6,aj,if_neg n5,aj,if_pos rfl]
 . unfold mf5 mf4 mf3;rw[aj,if_neg n9,aj,if_neg n8,aj,if_pos rfl]
 . unfold mf5 mf4;rw[aj,if_neg n10,aj,if_pos rfl]
 . unfold mf5;rw[aj,if_pos rfl]
 . obtain⟨m1,m2,m3,m4,m5⟩:=a79 m hm
   unfold mf5 mf4 mf3 mf2 mf1
   rw[aj,if_neg m5,aj,if_neg m4,aj,if_neg m3,aj,if_neg m2,aj,if_neg m1];rfl
theorem a3k:∀{ns:List Str}{ts:List Addr}{j:Nat}{n:Str}{t:Addr},ns.Nodup->ns[j]? = some n->ts[j]? = some t->valV ((byK ns ts).map kk) (Sum.inr n)=some (.ref t)
 | [],_,_,_,_,_,h,_=>by simp at h
 | _::_,[],_,_,_,_,_,h=>by simp at h
 | m::ns,u::ts,0,n,t,hn,h1,h2=>by
   simp at h1 h2
   subst h1;subst h2
   unfold valV byK
   simp[kk]
 | m::ns,u::ts,j+1,n,t,hn,h1,h2=>by
   have h1':ns[j]? = some n:=by simpa using h1
   have h2':ts[j]? = some t:=by simpa using h2
   have ne:m≠n:=fun z=>(List.nodup_cons.mp hn).1 (by rw[z];exact List.mem_of_getElem? h1')
   have ih:=a3k (List.nodup_cons.mp hn).2 h1' h2'
   unfold valV byK at ih |-
   simp only[List.zip_cons_cons,List.map_cons,List.find?_cons,kk]
   rw[decide_eq_false (fun z=>ne (Sum.inr.inj z))]
   exact ih
theorem scMInit:FnScope ["self","program","name","path","values","heap"] ["self","program","name","path","values","heap"] (ao xl):=⟨rfl,rfl,rfl,by decide +kernel,rfl,by decide +kernel,by decide +kernel⟩
theorem a6b {n:Nat}{bs:List Nat}(C:Con K mg w) (T:TxM K mg CM fI) (U:TxF K mg CF fJ) (F:Fun K "__init__" "Machine.__init__" xl f fd) (GO:FnOk P w K mg base CX0 n gO dO ["deeds"] (spCopy K bs)) (cO:Cal K mg "own_deeds" gO dO ["deeds"]) (GB:FnOk P w K mg base CX0 1 gB dB ["program"] (spBy K)) (cB:Cal K mg "by_names" gB dB ["program"])
   (GI:FnOk P w K mg base CX0 n fJ dI ["self","procedure","path","numbers","receiver"] (spFInit K CF bs)) (bI:Binds K dI ["self","procedure","path","numbers","receiver"] []):FnOk P w K mg base CX0 (n+1+1) f fd ["self","program","name","path","values","heap"] (spMInit K CM CF bs):=by
 refine F.okQ scMInit (fun vs H Q E h=>?_) (fun cdv A outer s0 H vs Q E hr h=>?_)
 . obtain⟨_,_,_,_,_,_,_,_,_,_,_,_,_,_,_,_,_,_,_,rfl,_⟩:=h;rfl
 obtain⟨G,m,dx,l,q0,nm,hd,x,ts,pcs,j,pc,xs,kvs,cvs,ns,pp,k,due,rfl,eG,hm,hm1,hl,hp,hnn,h10,hj,hx,hok,hq,hst,hpp,hnm,hhd,hns,q⟩:=h
 have nd:=scMInit.nd
 have hu1:=ft hr
 have hr1:=hr.mono (j:=1) (by omega)
 have hrn:=hr.mono (j:=n) (by omega)
 refine⟨_,ae (dn (K:=K) rfl (qv 0) (ak GB hr1 rfl cB.name cB.keep cB.bind .nil am (cn (gw (fq (qv 1)) (fun _ _ _ _=>ii) (fun _ _ _ _=>(ap (a4f (K:=K) rfl) (bz (oh (K:=K) rfl) (qv 0) cy (cb ab)) (bp (az (ak GO hrn rfl cO.name cO.keep cO.bind .nil am (aw (ah (ixTK (K:=K) rfl) (qv 0) ab (fun _ _=>rfl)) aa)) aa))))) aa)))
   (ae (dn (K:=K) rfl (qv 0) (bc (az (zg U.mkC GI hr rfl U.mgC bI .nil am (aw (cw hu1 (b5 (K:=K) rfl (qv 0)) (qv 2) (fun _ _=>rfl)) (af (qv 3) (af (qv 4) (bg aa))))) aa)))
   (ae (dn (K:=K) rfl (qv 0) (b7 dz rfl C.dict PyProof.Rows.boot_dict (af (qv 5) aa)))
   (ae (dn (K:=K) rfl (qv 0) (a8d (K:=K) rfl rfl rfl C.max (b7 (jn rfl) rfl C.list PyProof.Rows.boot_list (af (qv 5) aa)) ab))
   (ag (dn (K:=K) rfl (qv 0) fb))))),?_⟩
 have hpl:=Paired.length hp
 refine⟨_,rfl,l,rfl,⟨_,SqL.of (eG _ _ hl)⟩,?_⟩
 have gR:∀{D:Addr} {H2:Hp},H D=none->Same H H2->Same G (rm (fun c=>c=D\/c=m) H2):=fun {D H2} hD e b o z=>by
   rw[er (fun y=>y.elim (ai (eG _ _ z) hD) (ai z hm))];exact e _ _ (eG _ _ z)
 refine iz (ts.map V.ref) pcs (fun D G' y pc=>∃b,y=V.ref b/\PrcAt K (rm (fun c=>c=D\/c=m) G') bs b pc) id i3 (SqL.of (eG _ _ hl)) (by rw[List.length_map];omega) (by rw[List.length_map];exact hpl.symm) (fun D G1 G2 y x z e=>?_) (fun D hD i x r hx hr' H2 e2 hD2 Q' q'=>?_) (fun D H2 ys hD e2 hD2 hpt=>?_)
 . obtain⟨b,rfl,hb⟩:=z
   exact⟨b,rfl,hb.same (wk e (.inl rfl))⟩
 . rw[List.getElem?_map] at hx
   obtain⟨t,ht,rfl⟩:=Option.map_eq_some_iff.mp hx
   obtain⟨r',hr2,at',t1,t2,f1,p1,f2,p2,bd,px⟩:=Paired.nth hp ht
   rw[hr'] at hr2;cases hr2
   have eH:=eG.trans e2
   refine⟨_,rfl,_,rfl,t,_,rfl,SqT.of (eH _ _ px.tup),fun u1 H3 e3 hu=>?_⟩
   have eH3:=eH.trans e3
   refine⟨_,rfl,t,_,5,_,rfl,rfl,SqT.of (eH3 _ _ px.tup),rfl,.mk (fun c=>c=D\/c=m) bd r.body rfl (fun c z y=>?_) (px.body.same (gR hD (e2.trans e3))) fun l' H4 e4 h4=>?_⟩
   . rcases z with rfl|rfl
     . exact hD2 (e3.free y)
     . rw[(e2.trans e3) _ _ hm1] at y;cases y
   refine⟨(show 1<=sizeLine by decide),fun u2 hu2=>?_⟩
   have s5:=ad hu2 (.tup [V.ref l'])
   have k5:(upd H4 u2 (.tup [V.ref l'])) u2=some (.tup [V.ref l']):=a0
   generalize upd H4 u2 (.tup [V.ref l'])=H5 at s5 k5 |-
   refine⟨u1,u2,_,_,rfl,rfl,(e4.trans s5).seqT hu,SqT.of k5,List.cons_ne_nil _ _,List.cons_ne_nil _ _,bn (show 5+1<=1000 by decide),fun u3 hu3=>?_⟩
   have e6:=ad hu3 (.tup (cutV [V.str r.name,V.ref at',V.str r.res,V.ref t1,V.ref t2,V.ref bd] none (some 5)++[V.ref l']))
   have h6:(upd H5 u3 (.tup (cutV [V.str r.name,V.ref at',V.str r.res,V.ref t1,V.ref t2,V.ref bd] none (some 5)++[V.ref l']))) u3=some (.tup [V.str r.name,V.ref at',V.str r.res,V.ref t1,V.ref t2,V.ref l']):=a0
   have e25:Same H2 H5:=(e3.trans e4).trans s5
   have nu:¬ (u3=D\/u3=m):=by
     rintro (rfl|rfl)
     . exact hD2 (e25.free hu3)
     . rw[(e2.trans e25) _ _ hm1] at hu3;cases hu3
   generalize upd H5 u3 (.tup (cutV [V.str r.name,V.ref at',V.str r.res,V.ref t1,V.ref t2,V.ref bd] none (some 5)++[V.ref l']))=H6 at e6 h6 |-
   have e26:Same H2 H6:=e25.trans e6
   have gg:=gR hD (e2.trans e26)
   refine q' (.ref u3) H6 e26 ⟨u3,rfl,at',t1,t2,f1,p1,f2,p2,l',?_,gg _ _ px.pt,gg _ _ px.t1,gg _ _ px.t2,px.f1.same gg,px.p1.same gg,px.f2.same gg,px.p2.same gg,h4.same (du (s5.trans e6)),px.okn,px.okr,px.okp,px.ok1,px.ok2,px.l1,px.l2⟩
   rw[er nu];exact h6
 rw[List.map_id] at hpt
 obtain⟨us,rfl,hpp⟩:=g8 (R:=fun b pc=>PrcAt K (rm (fun c=>c=D\/c=m) H2) bs b pc) hpt
 have hul:=Paired.length hpp
 have hus:Paired (fun t n=>∃vs,H2 t=some (.tup (.str n::vs))) us (pcs.map (·.name)):=by
   have:∀{us:List Addr} {pcs:List Prc},Paired (PrcAt K (rm (fun c=>c=D\/c=m) H2) bs) us pcs->Paired (fun t n=>∃vs,H2 t=some (.tup (.str n::vs))) us (pcs.map (·.name)):=fun {us pcs} h=>by
     induction h with
     | nil=>exact .nil
     | cons h1 _ ih=>obtain⟨_,_,_,_,_,_,_,_,px⟩:=h1;exact .cons ⟨_,fk _ _ px.tup⟩ ih
   exact this hpp
 refine .mk D us (pcs.map (·.name)) rfl hD2 hus hnn (by omega) fun pd H3 e3 hpd=>?_
 refine⟨_,rfl,m,CM,dx,[],rfl,(e2.trans e3) _ _ hm1,T.cl,T.nP,(by decide),?_⟩
 have hm3:=(e2.trans e3) _ _ hm1
 have g1:Same G (rm (fun c=>c=m) H3):=fun b o z=>by rw[er (X:=fun c=>c=m) (ai z hm)];exact (e2.trans e3) _ _ (eG _ _ z)
 have npd:pd≠m:=fun z=>by rw[z,hm3] at hpd;cases hpd
 have hpd1:rm (fun c=>c=m) H3 pd=some (.dK ((byK (pcs.map (·.name)) us).map kk)):=by rw[er (X:=fun c=>c=m) npd];exact hpd
 have hps1:Paired (PrcAt K (rm (fun c=>c=m) H3) bs) us pcs:=Paired.mapP hpp fun _ _ z=>z.same fun b o y=>by
   obtain⟨y1,y2⟩:=gu y
   rw[er (X:=fun c=>c=m) (fun z=>y1 (.inr z))];exact e3 _ _ y2
 have gH3:Same (rm (fun c=>c=m) H3) (upd H3 m (.ins CM dx (mf1 pd))):=fun b o z=>by
   obtain⟨y1,y2⟩:=gu z
   rw[ac y1];exact y2
 have nm1:rm (fun c=>c=m) H3 m=none:=by unfold rm;rw[if_pos rfl]
 have hm4:(upd H3 m (.ins CM dx (mf1 pd))) m=some (.ins CM dx (mf1 pd)):=a0
 change tSeq _ _ _ _ (upd H3 m (.ins CM dx (mf1 pd)))
 generalize rm (fun c=>c=m) H3=G1 at g1 hpd1 hps1 gH3 nm1
 generalize upd H3 m (.ins CM dx (mf1 pd))=H4 at gH3 hm4 |-
 clear hpt hpp hus hD2 hpd hm3 e2 e3
 have hjl:j<us.length:=by rw[hul];exact (List.getElem?_eq_some_iff.mp hj).1
 have hpr:us[j]? = some us[j]:=List.getElem?_eq_getElem hjl
 generalize us[j]=pr at hpr
 obtain⟨pc',hpc',hPr⟩:=Paired.nth hps1 hpr
 rw[hj] at hpc';cases hpc'
 have hnj:(pcs.map (·.name))[j]? = some x:=by rw[List.getElem?_map,hj];show some pc.name=_;rw[hx]
 have hg:=DGet.k (k:=Sum.inr x) (gH3 _ _ hpd1)
 rw[a3k hnn hnj hpr] at hg
 have lk1:(mf1 pd).lookup ("procedures" : Str)=some (.ref pd):=by unfold mf1;rw[aj,if_pos rfl]
 obtain⟨at',t1,t2,f1,p1,f2,p2,bd,px⟩:=id hPr
 obtain⟨eo,hst'⟩:=hst G1 bd px.body
 have eGH:=g1.trans gH3
 refine⟨_,rfl,m,CM,dx,_,_,rfl,hm4,T.cl,T.nP,lk1,_,rfl,pd,.ref pr,rfl,hg,_,rfl,_,rfl,fun p dxp hpn hdn hne=>?_⟩
 have s5:Same H4 (upd (upd H4 dxp (.own p)) p (.ins CF dxp [])):=fun b o z=>by rw[ac (ai z hpn),ac (ai z hdn)];exact z
 refine .mk H4 p dxp pr q0 nm bd "" pc xs _ _ _ _ _ kvs pp k due eo rfl s5 hpn a0 (hPr.same gH3) hok (gH3 _ _ px.tup) (eGH.seqT hq) (hst'.same gH3) hpp (eGH _ _ hnm) fun q1 nd' fs zs H5 e5 hp5 hff hfl hq1 hndn hnd hzn hzs hzm=>⟨rfl,?_⟩
 have hmp:m≠p:=fun z=>by rw[<- z,hm4] at hpn;cases hpn
 have hndG:H4 nd'=none:=s5.free hndn
 refine⟨(show 1<=sizeLine by decide),fun fl hfln=>?_⟩
 have s6:=ad hfln (.lst [V.ref p])
 have k6:(upd H5 fl (.lst [V.ref p])) fl=some (.lst [V.ref p]):=a0
 dsimp only
 generalize upd H5 fl (.lst [V.ref p])=H6 at s6 k6 |-
 obtain⟨l1,l2,_⟩:=je pd fl fl 0
 have hm6:=(e5.trans s6) _ _ hm4
 refine⟨_,rfl,m,CM,dx,_,rfl,hm6,T.cl,T.nF,(by omega),?_⟩
 have hm7:(upd H6 m (.ins CM dx (mf2 pd fl))) m=some (.ins CM dx (mf2 pd fl)):=a0
 have up:∀{H':Hp} {fs':List (Str×V)} {b:Addr} {o:HO},b≠m->H' b=some o->(upd H' m (.ins CM dx fs')) b=some o:=fun hb z=>by rw[ac hb];exact z
 have upT:∀{H':Hp} {fs0 fs':List (Str×V)} {a:Addr} {ys:List V},H' m=some (.ins CM dx fs0)->SqT K H' a ys->SqT K (upd H' m (.ins CM dx fs')) a ys:=fun {H' fs0 fs' a ys} hp' h=>by
   rcases h with (h|⟨o,h⟩)|h
   . exact .inl (.inl (by rw[ac (fun z=>by rw[z,hp'] at h;cases h)];exact h))
   . exact .inl (.inr ⟨o,by rw[ac (fun z=>by rw[z,hp'] at h;cases h)];exact h⟩)
   . exact .inr h
 have upG:∀{H':Hp} {fs':List (Str×V)},Same G1 H'->Same G1 (upd H' m (.ins CM dx fs')):=fun {H' fs'} e b o z=>up (ai z nm1) (e _ _ z)
 have g7:Same G1 (upd H6 m (.ins CM dx (mf2 pd fl))):=upG ((gH3.trans e5).trans s6)
 have nfm:fl≠m:=fun z=>by rw[z,hm6] at k6;cases k6
 have k7:(upd H6 m (.ins CM dx (mf2 pd fl))) fl=some (.lst [V.ref p]):=up nfm k6
 have p7:(upd H6 m (.ins CM dx (mf2 pd fl))) p=some (.ins CF dxp fs):=up (Ne.symm hmp) (s6 _ _ hp5)
 have nnm:nd'≠m:=fun z=>by rw[z,hm4] at hndG;cases hndG
 have n7:(upd H6 m (.ins CM dx (mf2 pd fl))) nd'=some (.dK ((fz kvs zs).map kk)):=up nnm (s6 _ _ hnd)
 have q7:SqT K (upd H6 m (.ins CM dx (mf2 pd fl))) q1 ((flat due.1++[(due.2:Int)]).map V.int):=upT hm6 (s6.seqT hq1)
 change tSeq _ _ _ _ (upd H6 m (.ins CM dx (mf2 pd fl)))
 have nfl:G1 fl=none:=(gH3.trans e5).free hfln
 have npn:G1 p=none:=gH3.free hpn
 have nnd:G1 nd'=none:=gH3.free hndG
 generalize upd H6 m (.ins CM dx (mf2 pd fl))=H7 at hm7 g7 k7 p7 n7 q7 |-
 refine⟨_,rfl,hd,cvs,rfl,(g1.trans g7) _ _ hhd,fun cd hcdn=>?_⟩
 have s8:=ad hcdn (.dK cvs)
 have k8:(upd H7 cd (.dK cvs)) cd=some (.dK cvs):=a0
 generalize upd H7 cd (.dK cvs)=H8 at s8 k8 |-
 have hm8:=s8 _ _ hm7
 have ncm:cd≠m:=fun z=>by rw[z,hm8] at k8;cases k8
 have ncd:G1 cd=none:=g7.free hcdn
 have ncn:nd'≠cd:=ai n7 hcdn
 obtain⟨_,_,l3,l4,l5⟩:=je pd fl cd 0
 refine⟨_,rfl,m,CM,dx,_,rfl,hm8,T.cl,T.nC,(by omega),?_⟩
 have hm9:(upd H8 m (.ins CM dx (mf3 pd fl cd))) m=some (.ins CM dx (mf3 pd fl cd)):=a0
 have g9:Same G1 (upd H8 m (.ins CM dx (mf3 pd fl cd))):=upG (g7.trans s8)
 have k9:(upd H8 m (.ins CM dx (mf3 pd fl cd))) fl=some (.lst [V.ref p]):=up nfm (s8 _ _ k7)
 have p9:(upd H8 m (.ins CM dx (mf3 pd fl cd))) p=some (.ins CF dxp fs):=up (Ne.symm hmp) (s8 _ _ p7)
 have n9:(upd H8 m (.ins CM dx (mf3 pd fl cd))) nd'=some (.dK ((fz kvs zs).map kk)):=up nnm (s8 _ _ n7)
 have c9:(upd H8 m (.ins CM dx (mf3 pd fl cd))) cd=some (.dK cvs):=up ncm k8
 have q9:SqT K (upd H8 m (.ins CM dx (mf3 pd fl cd))) q1 ((flat due.1++[(due.2:Int)]).map V.int):=upT hm8 (s8.seqT q7)
 change tSeq _ _ _ _ (upd H8 m (.ins CM dx (mf3 pd fl cd)))
 generalize upd H8 m (.ins CM dx (mf3 pd fl cd))=H9 at hm9 g9 k9 p9 n9 c9 q9 |-
 refine⟨_,rfl,hd,cvs,rfl,(g1.trans g9) _ _ hhd,fun ll hll=>?_⟩
 have eks:cvs.map (fun kv=>kV kv.1)=ns.map V.int:=by
   have:cvs.map (fun kv=>kV kv.1)=(cvs.map (·.1)).map kV:=by rw[List.map_map];rfl
   rw[this,hns,List.map_map];rfl
 rw[eks]
 have s10:=ad hll (.lst (ns.map V.int))
 have k10:(upd H9 ll (.lst (ns.map V.int))) ll=some (.lst (ns.map V.int)):=a0
 generalize upd H9 ll (.lst (ns.map V.int))=H10 at s10 k10 |-
 have hm10:=s10 _ _ hm9
 have fin:∀g:Int,(ns=[]->g=0)->(ns≠[]->g∈ns/\∀n∈ns,n<=g)->Q .non (upd (upd H10 m (.ins CM dx (mf4 pd fl cd g))) m (.ins CM dx (mf5 pd fl cd g))):=fun g h1 h2=>by
   refine q G1 pd fl p dxp q1 nd' cd pr bd us (mf5 pd fl cd g) fs zs g _ ?_
   obtain⟨_,_,_,_,l6⟩:=je pd fl cd g
   exact⟨g1,upG (upG (g9.trans s10)),nm1,npn,nnd,ncd,nfl,ncn,hmp,hps1,hpr,hpd1,⟨_,_,_,_,_,px.tup⟩,px.body,a0,a9d pd fl cd g,l6,up nfm (up nfm (s10 _ _ k9)),up (Ne.symm hmp) (up (Ne.symm hmp) (s10 _ _ p9)),hff,hfl,upT a0 (upT hm10 (s10.seqT q9)),up nnm (up nnm (s10 _ _ n9)),hzn,hzm,up ncm (up ncm (s10 _ _ c9)),h1,h2⟩
 refine⟨ll,ns,0,rfl,rfl,SqL.of k10,fun h0=>?_,fun M hM hle=>?_⟩
 . obtain⟨_,_,_,l6,_⟩:=je pd fl cd 0
   exact⟨_,rfl,m,CM,dx,_,rfl,hm10,T.cl,T.nG,(by omega),_,rfl,m,CM,dx,_,rfl,a0,T.cl,T.nL,Nat.lt_of_le_of_lt l6 (by decide),fin 0 (fun _=>rfl) (fun z=>absurd h0 z)⟩
 . obtain⟨_,_,_,l6,_⟩:=je pd fl cd M
   exact⟨_,rfl,m,CM,dx,_,rfl,hm10,T.cl,T.nG,(by omega),_,rfl,m,CM,dx,_,rfl,a0,T.cl,T.nL,Nat.lt_of_le_of_lt l6 (by decide),fin M (fun z=>by rw[z] at hM;cases hM) (fun _=>⟨hM,hle⟩)⟩
noncomputable abbrev a0j:Stmt:=top 33
noncomputable abbrev sFed:Stmt:=top 34
noncomputable abbrev x9:Stmt:=top 35
noncomputable abbrev rg:Stmt:=top 36
noncomputable def mw (c:Int) (k:Nat):Int:=(c % 2147483629*48271+69621*(k:Int)+11) % 2147483587
noncomputable def mz (c:Int) (k:Nat):Int:=mw c k*(mw c k / 7+39373) % 2147483563
noncomputable def a6g (c:Int) (k:Nat):Int:=mz c k*(mz c k / 5+16807+(k:Int)) % 2147483399
noncomputable def a6y (c:Int) (k:Nat):Int:=(mw c k*2147483563+mz c k)*2147483399+a6g c k
noncomputable def a2u:Sp:=fun vs H Q _=>∃(c:Int) (k:Nat),vs=[.int c,.int (k:Int)]/\Q (.int (a6y c k)) H
noncomputable def fedF (c:Int) (k:Nat):Int:=if c % 2=1 then a6y (c / 2) k else c / 2
noncomputable def ql:Sp:=fun vs H Q _=>∃(c:Int) (k:Nat),vs=[.int c,.int (k:Int)]/\∀l,H l=none->Q (.ref l) (upd H l (.lst [.int (fedF c k)]))
noncomputable def fu:Sp:=fun vs H Q _=>∃(l:Addr) (n:Int) (m:Int),vs=[.ref l,.int m]/\H l=some (.lst [.int n])/\0<m/\m<=10 ^ 60/\Q (.int (n % m)) (upd H l (.lst [.int (n / m)]))
theorem scRich:FnScope ["_law_cell","_law_k","_law_one","_law_two","_law_three"] ["_law_cell","_law_k"] (ao a0j):=⟨rfl,rfl,rfl,by decide +kernel,rfl,by decide +kernel,by decide +kernel⟩
theorem a7k (F:Fun K "_law_rich" "_law_rich" a0j f fd):FnOk P w K mg base CX0 1 f fd ["_law_cell","_law_k"] a2u:=by
 refine F.okQ scRich (fun vs H Q E h=>?_) (fun cdv A outer s0 H vs Q E hr h=>?_)
 . obtain⟨c,k,rfl,_⟩:=h;rfl
 obtain⟨c,k,rfl,q⟩:=h
 have nd:=scRich.nd
 refine⟨_,ae (aq (i:=2) nd rfl (Or.inl rfl) (ap cr (ap bh (ap bh (ap ik (ap cr (qv 0) ab) ab) (ap ik ab (qv 1))) ab) ab))
   (ae (aq (i:=3) nd rfl (Or.inl rfl) (ap cr (ap ik (qv 2) (ap bh (ap fc (qv 2) ab) ab)) ab))
   (ae (aq (i:=4) nd rfl (Or.inl rfl) (ap cr (ap ik (qv 3) (ap bh (ap bh (ap fc (qv 3) ab) ab) (qv 1))) ab))
   (ag (av (ap bh (ap ik (ap bh (ap ik (qv 2) ab) (qv 3)) ab) (qv 4)))))),?_⟩
 have m1:0<=mw c k:=Int.emod_nonneg _ (show (2147483587:Int)≠0 by decide)
 have m2:mw c k<2147483587:=Int.emod_lt_of_pos _ (show (0:Int)<2147483587 by decide)
 have m3:0<=mz c k:=Int.emod_nonneg _ (show (2147483563:Int)≠0 by decide)
 have m4:mz c k<2147483563:=Int.emod_lt_of_pos _ (show (0:Int)<2147483563 by decide)
 refine⟨_,rfl,_,_,rfl,rfl,(show (0:Int)<2147483629 by decide),_,_,rfl,rfl,.inr ⟨by decide,by decide⟩,_,rfl,_,_,rfl,rfl,.inl ⟨by decide,by decide⟩,_,_,rfl,rfl,_,_,rfl,rfl,_,_,rfl,rfl,(show (0:Int)<2147483587 by decide),?_⟩
 change bi 2 (.int (mw c k)) _ _ _
 refine⟨_,rfl,_,rfl,_,_,rfl,rfl,(show CDiv _ 7 from⟨by decide,by decide⟩),_,_,rfl,rfl,_,_,rfl,rfl,.inl ⟨by omega,by omega⟩,_,_,rfl,rfl,(show (0:Int)<2147483563 by decide),?_⟩
 change bi 3 (.int (mz c k)) _ _ _
 refine⟨_,rfl,_,rfl,_,_,rfl,rfl,(show CDiv _ 5 from⟨by decide,by decide⟩),_,_,rfl,rfl,_,rfl,_,_,rfl,rfl,_,_,rfl,rfl,.inl ⟨by omega,by omega⟩,_,_,rfl,rfl,(show (0:Int)<2147483399 by decide),?_⟩
 change bi 4 (.int (a6g c k)) _ _ _
 exact⟨_,rfl,_,_,rfl,rfl,.inr ⟨by decide,by decide⟩,_,rfl,_,_,rfl,rfl,_,_,rfl,rfl,.inr ⟨by decide,by decide⟩,_,rfl,_,_,rfl,rfl,q⟩
theorem scFed:FnScope ["_law_cell","_law_k"] ["_law_cell","_law_k"] (ao sFed):=⟨rfl,rfl,rfl,by decide +kernel,rfl,by decide +kernel,by decide +kernel⟩
theorem a9w (F:Fun K "_law_fed" "_law_fed" sFed f fd) (GR:FnOk P w K mg base CX0 1 gR dR ["_law_cell","_law_k"] a2u) (cR:Cal K mg "_law_rich" gR dR ["_law_cell","_law_k"]):FnOk P w K mg base CX0 2 f fd ["_law_cell","_law_k"] ql:=by
 refine F.okQ scFed (fun vs H Q E h=>?_) (fun cdv A outer s0 H vs Q E hr h=>?_)
 . obtain⟨c,k,rfl,_⟩:=h;rfl
 obtain⟨c,k,rfl,q⟩:=h
 have nd:=scFed.nd
 refine⟨_,ae (b6 (ar be (ap cr (qv 0) ab) ab (ax _)) (ag (av (bc (az (ak GR hr rfl cR.name cR.keep cR.bind .nil am (ce (ap fc (qv 0) ab) (af (qv 1) aa))) aa)))) b9)
   (ag (av (bc (ce (ap fc (qv 0) ab) aa)))),?_⟩
 refine⟨_,rfl,_,_,rfl,rfl,(show (0:Int)<2 by decide),rfl,_,rfl,iteB (fun hc=>?_) (fun hc=>?_)⟩
 . have hc1:c % 2=1:=V.int.inj (of_decide_eq_true hc)
   unfold fedF at q
   rw[if_pos hc1] at q
   exact⟨_,rfl,_,_,rfl,rfl,(show CDiv _ 2 from⟨by decide,by decide⟩),_,rfl,c / 2,k,rfl,(show 1<=sizeLine by decide),q⟩
 . have hc1:¬ c % 2=1:=fun z=>by rw[decide_eq_true (congrArg V.int z)] at hc;cases hc
   unfold fedF at q
   rw[if_neg hc1] at q
   exact⟨_,rfl,_,_,rfl,rfl,(show CDiv _ 2 from⟨by decide,by decide⟩),(show 1<=sizeLine by decide),q⟩
theorem scDigit:FnScope ["_law_digits","_law_many","_law_found"] ["_law_digits","_law_many"] (ao x9):=⟨rfl,rfl,rfl,by decide +kernel,rfl,by decide +kernel,by decide +kernel⟩
theorem a61 (F:Fun K "_law_digit" "_law_digit" x9 f fd):FnOk P w K mg base CX0 1 f fd ["_law_digits","_law_many"] fu:=by
 refine F.okQ scDigit (fun vs H Q E h=>?_) (fun cdv A outer s0 H vs Q E hr h=>?_)
 . obtain⟨g,n,m,rfl,_⟩:=h;rfl
 obtain⟨g,n,m,rfl,hG,hm,hm2,q⟩:=h
 have nd:=scDigit.nd
 refine⟨_,ae (aq (i:=2) nd rfl (Or.inl rfl) (ap cr (ah dq (qv 0) ab (fun _ _=>rfl)) (qv 1)))
   (ae (jo (ap a4k (ah dq (qv 0) ab (fun _ _=>rfl)) (qv 1)) (wv (qv 0) ab pf))
   (ag (av (qv 2)))),?_⟩
 refine⟨_,rfl,g,_,0,.int n,rfl,rfl,SqL.of hG,rfl,_,rfl,_,_,rfl,rfl,hm,?_⟩
 refine⟨_,rfl,g,_,0,.int n,rfl,rfl,SqL.of hG,rfl,_,rfl,_,_,rfl,rfl,⟨hm,hm2⟩,?_⟩
 exact⟨_,rfl,g,[.int n],0,0,rfl,rfl,hG,rfl,_,rfl,q⟩
noncomputable def signsT:Str := "abcdefghijklmnopqrstuvwxyz0123456789"
noncomputable def sgs:List Nat:=signsT.cps.toList
noncomputable def lts:List Nat:=sgs.take 26
theorem gi:signsT.length<=sizeLine:=by decide +kernel
theorem me:sgs.length=36:=by decide +kernel
structure PreOk (pre:List Nat):Prop where
 len:pre.length<=7
 sg:∀c∈pre,c∈sgs
 hd:∀c r,pre=c::r->c∈lts
theorem a4c:∀c∈sgs,d0 c=true:=by decide +kernel
theorem a3l:∀c∈lts,ip [c]=true:=by decide +kernel
theorem xt (c:Nat) (r:List Nat):ip (c::r)=ip [c]:=rfl
noncomputable def sg (t:Nat):Nat:=sgs.getD t 0
noncomputable def br (pre:List Nat):Nat:=if pre=[] then 26 else 36
noncomputable def wd (pre:List Nat) (t:Nat):Str:=⟨(pre++[sg t]).toArray⟩
theorem xa {t:Nat}(h:t<36):sg t∈sgs:=by
 unfold sg
 rw[List.getD_eq_getElem?_getD,List.getElem?_eq_getElem (by rw[me];exact h)]
 exact List.getElem_mem _
theorem la {t:Nat}(h:t<36):sgs[t]? = some (sg t):=by
 unfold sg
 rw[List.getD_eq_getElem?_getD,List.getElem?_eq_getElem (by rw[me];exact h)];rfl
theorem uk {t:Nat}(h:t<26):sg t∈lts:=by
 have h1:lts[t]? = some (sg t):=by show (sgs.take 26)[t]? = _;rw[List.getElem?_take_of_lt h];exact la (by omega)
 exact List.mem_of_getElem? h1
theorem mi:∀t,t<36->Txt.find signsT ⟨#[sg t]⟩=(t:Int):=by decide +kernel
theorem a9n:sgs.Nodup:=by decide +kernel
theorem a97 {a b:Nat}(ha:a<36) (hb:b<36) (h:sg a=sg b):a=b:=by
 have h1:=la ha
 have h2:=la hb
 rw[h] at h1
 exact (List.getElem?_inj (by rw[me];exact ha) a9n).mp (h1.trans h2.symm)
theorem a2c {c:Nat}(h:c∈sgs):∃t,t<36/\c=sg t:=by
 obtain⟨t,ht,rfl⟩:=List.getElem_of_mem h
 have ht':t<36:=by rw[<- me];exact ht
 refine⟨t,ht',?_⟩
 have:=la ht'
 rw[List.getElem?_eq_getElem ht] at this
 exact Option.some.inj this
theorem a9q {c:Nat}(h:c∈lts):∃t,t<26/\c=sg t:=by
 obtain⟨t,ht,rfl⟩:=List.getElem_of_mem h
 have hl:lts.length=26:=by decide +kernel
 have ht':t<26:=by rw[<- hl];exact ht
 refine⟨t,ht',?_⟩
 have h1:lts[t]? = some (sg t):=by show (sgs.take 26)[t]? = _;rw[List.getElem?_take_of_lt ht'];exact la (by omega)
 rw[List.getElem?_eq_getElem ht] at h1
 exact Option.some.inj h1
theorem a7n {pre:List Nat}{t:Nat}(hp:PreOk pre) (ht:t<br pre) (hn:¬ wd pre t∈Mir.noNames):bm (wd pre t)=true:=by
 have ht36:t<36:=by unfold br at ht;split at ht<;>omega
 unfold bm
 have hl:(wd pre t).length=pre.length+1:=by show (pre++[sg t]).toArray.size=_;simp
 have h1:=hp.len
 rw[if_neg ?_]
 . rw[Bool.and_eq_true]
   constructor
   . show ip (pre++[sg t])=true
     cases hpre:pre with
     | nil=>exact a3l _ (uk (by unfold br at ht;rw[if_pos hpre] at ht;exact ht))
     | cons d r=>rw[List.cons_append,xt];exact a3l d (hp.hd d r hpre)
   . show (pre++[sg t]).all d0=true
     refine List.all_eq_true.mpr fun d hd=>?_
     rcases List.mem_append.mp hd with z|z
     . exact a4c d (hp.sg d z)
     . rw[List.mem_singleton.mp z];exact a4c _ (xa ht36)
 . rintro (z|z|z)
   . have:=congrArg Str.length z
     rw[hl] at this
     have h0:("" : Str).length=0:=by decide +kernel
     omega
   . omega
   . exact hn z
theorem a94 {pre:List Nat}{a b:Nat}(ha:a<36) (hb:b<36) (h:wd pre a=wd pre b):a=b:=by
 have e2:=congrArg (fun s:Str=>s.cps.toList) h
 have e3:pre++[sg a]=pre++[sg b]:=e2
 exact a97 ha hb (by simpa using e3)
theorem a0b {pre:List Nat}{bad:List Str}{i0 many:Nat}(hm:many<=36) (h0:0<many) (hb:bad.length<many):¬ ∀j,j<many->wd pre ((i0+j) % many)∈bad:=by
 intro h
 have h1:((List.range many).map fun j=>wd pre j).Nodup:=by
   refine List.pairwise_map.mpr ((List.nodup_range (n:=many)).imp_of_mem fun {a b} ha hb' hab e=>hab (a94 ?_ ?_ e))
   . have:=List.mem_range.mp ha;omega
   . have:=List.mem_range.mp hb';omega
 have h2:=List.Nodup.length_le_of_subset h1 (l₂:=bad) fun x hx=>by
   obtain⟨t,ht,rfl⟩:=List.mem_map.mp hx
   have ht':=List.mem_range.mp ht
   have hi:=Nat.mod_lt i0 h0
   have:=h ((t+(many - i0 % many)) % many) (Nat.mod_lt _ h0)
   have e:(i0+(t+(many - i0 % many)) % many) % many=t:=by
     rw[Nat.add_mod,Nat.mod_mod,<- Nat.add_mod]
     have e1:i0=many*(i0 / many)+i0 % many:=(Nat.div_add_mod i0 many).symm
     have e2:i0+(t+(many - i0 % many))=t+many*(i0 / many+1):=by rw[Nat.mul_add,Nat.mul_one];omega
     rw[e2,Nat.add_mul_mod_self_left,Nat.mod_eq_of_lt ht']
   rw[e] at this
   exact this
 rw[List.length_map,List.length_range] at h2
 omega
theorem aab (pre:List Nat) (t u:Nat):cutS (wd pre t) none (some (-1))++(⟨#[sg u]⟩:Str)=wd pre u:=by
 have hl:(wd pre t).length=pre.length+1:=by show (pre++[sg t]).toArray.size=_;simp
 have h1:(cutS (wd pre t) none (some (-1))).cps=pre.toArray:=by
   show (List.take (HT.sIx (wd pre t).length (wd pre t).length (some (-1)) - HT.sIx (wd pre t).length 0 none) (List.drop (HT.sIx (wd pre t).length 0 none) (pre++[sg t]))).toArray=_
   have e1:HT.sIx (wd pre t).length (wd pre t).length (some (-1))=pre.length:=by
     unfold HT.sIx
     simp only[hl]
     rw[if_pos (by decide)]
     omega
   have e2:HT.sIx (wd pre t).length 0 none=0:=rfl
   rw[e1,e2,List.drop_zero,Nat.sub_zero,List.take_left']
   rfl
 have h2:(cutS (wd pre t) none (some (-1))++(⟨#[sg u]⟩:Str)).cps=(cutS (wd pre t) none (some (-1))).cps ++ #[sg u]:=Str.cps_append _ _
 have h3:∀a b:Str,a.cps=b.cps->a=b:=fun a b e=>by cases a;cases b;cases e;rfl
 refine h3 _ _ ?_
 rw[h2,h1]
 show pre.toArray ++ #[sg u]=(pre++[sg u]).toArray
 simp
theorem aan {K:PySem.W.Frag}{σ:St}{H:Hp}{Q:Bool->Hp->Prop}{i j k:Nat}{x:Str}{l m:Addr}{ns ms:List Str}(hi:σ[i]? = some (some (.str x))) (hj:σ[j]? = some (some (.ref l))) (hk:σ[k]? = some (some (.ref m))) (h1:H l=some (.lst (ns.map V.str))) (h2:H m=some (.lst (ms.map V.str))) (q:Q (decide (x∈ns++ms)) H) :
   tOr (qd (tOp (rIn K false) (tVar i) (tVar j))) (qd (tOp (rIn K false) (tVar i) (tVar k))) σ H Q:=by
 refine⟨_,hi,_,hj,l,_,rfl,.inl (SqL.of h1),rfl,i9 _,_,rfl,?_⟩
 rw[if_neg Bool.false_ne_true,gx]
 refine iteB (fun c=>?_) (fun c=>⟨_,hi,_,hk,m,_,rfl,.inl (SqL.of h2),rfl,i9 _,_,rfl,?_⟩)
 . rw[decide_eq_true (List.mem_append_left _ (of_decide_eq_true c))] at q;exact q
 . rw[if_neg Bool.false_ne_true,gx]
   have e:decide (x∈ns++ms)=decide (x∈ms):=by
     rw[Bool.eq_iff_iff,decide_eq_true_eq,decide_eq_true_eq,List.mem_append]
     exact⟨fun z=>z.elim (fun y=>absurd y (of_decide_eq_false c)) id,.inr⟩
   rw[e] at q;exact q
inductive spUnlike (K:PySem.W.Frag) (vs:List V) (H:Hp) (Q:VK) (E:XK):Prop
 | mk (pre:List Nat) (t:Nat) (l:Addr) (ns:List Str) (h0:vs=[.str (wd pre t),.ref l]) (hp:PreOk pre) (ht:t<br pre) (hl:H l=some (.lst (ns.map V.str))) (hn:ns.length<=12)
     (q:∀x H',Same H H'->¬ x∈ns->bm x=true->Q (.str x) H'):spUnlike K vs H Q E
theorem scUnlike:FnScope ["_law_name","_law_names_here","_law_signs","_law_odd","_law_many"] ["_law_name","_law_names_here"] (ao rg):=⟨rfl,rfl,rfl,by decide +kernel,rfl,by decide +kernel,by decide +kernel⟩
theorem a2a (C:Con K mg w) (F:Fun K "_law_unlike" "_law_unlike" rg f fd):FnOk P w K mg base CX0 1 f fd ["_law_name","_law_names_here"] (spUnlike K):=by
 refine F.okQ scUnlike (fun vs H Q E h=>?_) (fun cdv A outer s0 H vs Q E hr h=>?_)
 . obtain⟨pre,t,l,ns,rfl,_⟩:=h;rfl
 obtain⟨pre,t,l,ns,rfl,hp,ht,hl,hn,q⟩:=h
 have nd:=scUnlike.nd
 refine⟨_,ae (aq (i:=2) nd rfl (Or.inl rfl) b0)
   (ae (aq (i:=3) nd rfl (Or.inl rfl) (bc (bg (bg (bg (bg (bg (bg (bg (bg (bg (bg aa))))))))))))
   (ae (aq (i:=4) nd rfl (Or.inl rfl) (ah dq (bc (b8 (b8 aa))) (b7 gz rfl C.int PyProof.Rows.boot_int (cn (jm be (ba le rfl C.len PySem.boot_len (af (qv 0) aa)) ab (ax _)) aa)) (fun _ _=>rfl)))
   (ae (p6 PassesOwn.never (QW.qt (iw (ar ir (qv 0) (qv 1) (by with_unfolding_all rfl)) (ij (ar ir (qv 0) (qv 3) (by with_unfolding_all rfl))))) (ag (aq (i:=0) nd rfl (Or.inl rfl) (ap gl (bz vc (qv 0) cy (cb (et dh ab))) (ah gn (qv 2) (ap cr (ap bh (gk (K:=K) rfl PySem.F.plainAttrs_str PySem.F.slot_str_index PySem.F.type_str_index (nk rfl) (qv 2) (aw (ah gn (qv 0) (et dh ab) (fun _ _=>rfl)) aa)) ab) (qv 4)) (fun _ _=>rfl))))))
   (ag (av (qv 0)))))),?_⟩
 refine⟨(by decide),fun l0 hl0=>?_⟩
 have s1:=ad hl0 (.lst (Mir.noNames.map V.str))
 have k1:(upd H l0 (.lst (Mir.noNames.map V.str))) l0=some (.lst (Mir.noNames.map V.str)):=a0
 change tSeq _ _ _ _ (upd H l0 (.lst (Mir.noNames.map V.str)))
 generalize upd H l0 (.lst (Mir.noNames.map V.str))=H1 at s1 k1 |-
 have hwl:(wd pre t).length=pre.length+1:=by show (pre++[sg t]).toArray.size=_;simp
 have hpl:=hp.len
 have hm36:br pre<=36/\26<=br pre:=by unfold br;split<;>omega
 refine⟨(by decide),fun l1 hl1=>?_⟩
 have s2:=ad hl1 (.lst [V.int 36,V.int 26])
 have k2:(upd H1 l1 (.lst [V.int 36,V.int 26])) l1=some (.lst [V.int 36,V.int 26]):=a0
 generalize upd H1 l1 (.lst [V.int 36,V.int 26])=H2 at s2 k2 |-
 refine⟨_,rfl,wd pre t,rfl,bn (by omega),rfl,_,rfl,l1,_,_,.int (br pre),rfl,rfl,SqL.of k2,?_,?_⟩
 . rw[hwl]
   unfold br
   by_cases hpr:pre=[]
   . rw[if_pos hpr,hpr];rfl
   . have:pre.length≠0:=fun z=>hpr (List.eq_nil_of_length_eq_zero z)
     rw[if_neg hpr,if_neg (by intro z;have:=V.int.inj (of_decide_eq_true z);omega)];rfl
 dsimp only[bi]
 have hl2:=(s1.trans s2) _ _ hl
 have hbl:(ns++Mir.noNames).length<br pre:=by rw[List.length_append,show Mir.noNames.length=10 by decide];omega
 refine⟨fun m σ H'=>H'=H2/\∃j,m=br pre - j/\(∀i,i<j->wd pre ((t+i) % br pre)∈ns++Mir.noNames)/\σ=[some (.str (wd pre ((t+j) % br pre))),some (.ref l),some (.str signsT),some (.ref l0),some (.int (br pre))],⟨_,rfl,0,rfl,fun i hi=>absurd hi (Nat.not_lt_zero _),?_⟩,?_⟩
 . rw[Nat.add_zero,Nat.mod_eq_of_lt ht];rfl
 rintro m σ H' ⟨rfl,j,rfl,hall,rfl⟩
 have hj:j<br pre:=Nat.lt_of_not_le fun z=>a0b hm36.1 (by omega) hbl fun i hi=>hall i (by omega)
 have hmod:=Nat.mod_lt (t+j) (show 0<br pre by omega)
 generalize hu:(t+j) % br pre=u at hmod
 have hul:(wd pre u).length=pre.length+1:=by show (pre++[sg u]).toArray.size=_;simp
 have k1':=s2 _ _ k1
 have hlast:atI (wd pre u).cps.toList (-1)=some (sg u):=by show atI (pre++[sg u]) (-1)=_;exact dj
 have hu36:u<36:=by omega
 refine aan rfl rfl rfl hl2 k1' ?_
 refine iteB (fun hc=>?_) (fun hc=>?_)
 . have hin:=of_decide_eq_true hc
   refine⟨fun σ' H9=>H9=H'/\σ'=[some (.str (wd pre ((t+(j+1)) % br pre))),some (.ref l),some (.str signsT),some (.ref l0),some (.int (br pre))],?_,?_⟩
   . rintro σ' H9 ⟨rfl,rfl⟩
     refine⟨br pre - (j+1),by omega,rfl,j+1,rfl,fun i hi=>?_,rfl⟩
     by_cases e:i=j
     . rw[e,hu];exact hin
     . exact hall i (by omega)
   . have hmu:=Nat.mod_lt (u+1) (show 0<br pre by omega)
     have e1:(t+(j+1)) % br pre=(u+1) % br pre:=by rw[<- hu,Nat.mod_add_mod,Nat.add_assoc]
     have e2:((u:Int)+1) % (br pre:Int)=(((u+1) % br pre:Nat):Int):=(Int.natCast_emod (u+1) (br pre)).symm
     have hcutl:(cutS (wd pre u) none (some (-1))).length<=8:=by
       have e:(cutS (wd pre u) none (some (-1))).length<=(wd pre u).length:=by
         show (((wd pre u).cps.toList.drop (HT.sIx (wd pre u).length 0 none)).take _).toArray.size<=(wd pre u).cps.size
         rw[List.size_toArray,List.length_take,List.length_drop,Array.length_toList]
         omega
       omega
     refine⟨_,rfl,_,rfl,_,rfl,wd pre u,rfl,bn (by omega),_,rfl,_,rfl,rfl,_,rfl,_,rfl,wd pre u,_,sg u,rfl,rfl,bn (by omega),hlast,signsT,⟨#[sg u]⟩,rfl,rfl,by rw[mi u hu36];omega,?_⟩
     rw[mi u hu36]
     refine⟨_,_,rfl,rfl,_,rfl,_,_,rfl,rfl,(show (0:Int)<(br pre:Int) by omega),signsT,_,sg ((u+1) % br pre),rfl,rfl,gi,?_,_,_,rfl,rfl,bn (by show _+1<=1000;omega),rfl,?_⟩
     . rw[e2];exact ca (la (by omega))
     . rw[aab,e1]
       rfl
 . have hout:=of_decide_eq_false hc
   exact⟨_,rfl,q _ _ (s1.trans s2) (fun z=>hout (List.mem_append_left _ z)) (a7n hp hmod fun z=>hout (List.mem_append_right _ z))⟩
noncomputable abbrev vp:Stmt:=top 37
structure WOk (w:List Nat):Prop where
 len:w.length<=8
 ne:w≠[]
 sg:∀c∈w,c∈sgs
 hd:∀c r,w=c::r->c∈lts
noncomputable def toS (w:List Nat):Str:=⟨w.toArray⟩
theorem fe (w:List Nat):(toS w).length=w.length:=by show w.toArray.size=_;simp
theorem WOk.wd {w:List Nat}(h:WOk w):∃pre t,toS w=wd pre t/\PreOk pre/\t<br pre:=by
 obtain⟨pre,c,rfl⟩:∃pre c,w=pre++[c]:=⟨w.dropLast,w.getLast h.ne,(List.dropLast_concat_getLast h.ne).symm⟩
 have hc:=h.sg c (List.mem_append_right _ (List.mem_singleton.mpr rfl))
 have hl:=h.len
 rw[List.length_append,List.length_singleton] at hl
 have hp:PreOk pre:=⟨by omega,fun d hd=>h.sg d (List.mem_append_left _ hd),fun d r e=>h.hd d (r++[c]) (by rw[e];rfl)⟩
 by_cases e:pre=[]
 . subst e
   obtain⟨t,ht,rfl⟩:=a9q (h.hd c [] rfl)
   exact⟨[],t,rfl,hp,by unfold br;rw[if_pos rfl];exact ht⟩
 . obtain⟨t,ht,rfl⟩:=a2c hc
   exact⟨pre,t,rfl,hp,by unfold br;rw[if_neg e];exact ht⟩
theorem WOk.one {c:Nat}(h:c∈lts):WOk [c]:=⟨by simp,by simp,fun d hd=>by rw[List.mem_singleton.mp hd];exact List.mem_of_mem_take h,fun d r e=>by rw[<- (List.cons.inj e).1];exact h⟩
theorem WOk.snoc {w:List Nat}{c:Nat}(h:WOk w) (hc:c∈sgs) (hl:w.length<=7):WOk (w++[c]):=by
 refine⟨by rw[List.length_append,List.length_singleton];omega,by simp,fun d hd=>?_,fun d r e=>?_⟩
 . rcases List.mem_append.mp hd with z|z
   . exact h.sg d z
   . rw[List.mem_singleton.mp z];exact hc
 . cases hw:w with
   | nil=>exact absurd hw h.ne
   | cons d' r'=>rw[hw] at e;rw[<- (List.cons.inj e).1];exact h.hd d' r' hw
theorem WOk.at {w:List Nat}{c i:Nat}(h:WOk w) (hc:c∈lts) (hi:i<w.length):WOk (w.take i++[c]++w.drop (i+1)):=by
 have hcs:c∈sgs:=List.mem_of_mem_take hc
 refine⟨?_,by simp,fun d hd=>?_,fun d r e=>?_⟩
 . have:=h.len
   simp only[List.length_append,List.length_take,List.length_drop,List.length_singleton];omega
 . rcases List.mem_append.mp hd with z|z
   . rcases List.mem_append.mp z with z|z
     . exact h.sg d (List.mem_of_mem_take z)
     . rw[List.mem_singleton.mp z];exact hcs
   . exact h.sg d (List.mem_of_mem_drop z)
 . cases i with
   | zero=>simp at e;rw[<- e.1];exact hc
   | succ i =>
     cases hw:w with
     | nil=>exact absurd hw h.ne
     | cons d' r'=>rw[hw] at e;simp at e;rw[<- e.1];exact h.hd d' r' hw
theorem nv (w:List Nat) (c:Nat):toS w++(⟨#[c]⟩:Str)=toS (w++[c]):=by
 have h3:∀a b:Str,a.cps=b.cps->a=b:=fun a b e=>by cases a;cases b;cases e;rfl
 refine h3 _ _ ?_
 rw[Str.cps_append]
 show w.toArray ++ #[c]=(w++[c]).toArray
 simp
theorem a7y (a b:List Nat):toS a++toS b=toS (a++b):=by
 have h3:∀a b:Str,a.cps=b.cps->a=b:=fun a b e=>by cases a;cases b;cases e;rfl
 refine h3 _ _ ?_
 rw[Str.cps_append]
 show a.toArray++b.toArray=(a++b).toArray
 simp
theorem aa1 (w:List Nat) (i:Nat):cutS (toS w) none (some (i:Int))=toS (w.take i):=by
 unfold cutS
 rw[HT.sIx_nat,show HT.sIx (toS w).length 0 none=0 from rfl,fe]
 show toS ((w.drop 0).take _)=_
 rw[List.drop_zero,Nat.sub_zero]
 by_cases h:i<=w.length
 . rw[Nat.min_eq_left h]
 . rw[Nat.min_eq_right (by omega),List.take_length,List.take_of_length_le (by omega)]
theorem a65 (w:List Nat) (i:Nat) (h:i<=w.length):cutS (toS w) (some (i:Int)) none=toS (w.drop i):=by
 unfold cutS
 rw[HT.sIx_nat,show HT.sIx (toS w).length (toS w).length none=(toS w).length from rfl,fe,Nat.min_eq_left h]
 show toS ((w.drop i).take _)=_
 rw[List.take_of_length_le (by rw[List.length_drop];omega)]
noncomputable def DI (H:Hp) (dl:Addr) (H':Hp):Prop:=Same H H'/\∃n:Int,H' dl=some (.lst [.int n])
theorem DI.put {H H':Hp}{dl:Addr}(h:DI H dl H') (hd:H dl=none) (n:Int):DI H dl (upd H' dl (.lst [.int n])):=⟨fun b o z=>by rw[ac (ai z hd)];exact h.1 _ _ z,n,a0⟩
theorem DI.same {H H' H'':Hp}{dl:Addr}(h:DI H dl H') (e:Same H' H''):DI H dl H'':=⟨h.1.trans e,by obtain⟨n,hn⟩:=h.2;exact⟨n,e _ _ hn⟩⟩
theorem pq (n:Int) {m:Int}(h0:0<m) (hm:m<=36):∃t:Nat,(t:Int)<m/\atI signsT.cps.toList (n % m)=some (sg t):=by
 have h1:=Int.emod_nonneg n (show m≠0 by omega)
 have h2:=Int.emod_lt_of_pos n h0
 obtain⟨t,ht⟩:∃t:Nat,n % m=(t:Int):=⟨(n % m).toNat,by omega⟩
 rw[ht] at h2 |-
 exact⟨t,h2,ca (la (by omega))⟩
inductive spNm (vs:List V) (H:Hp) (Q:VK) (E:XK):Prop
 | mk (b p:Int) (n:Nat) (h0:vs=[.int b,.int p,.int (n:Int)]) (hn:n<=8) (q:∀l xs H',Same H H'->H' l=some (.lst ((xs:List Str).map V.str))->xs.length=n->xs.Nodup->(∀x∈xs,bm x=true)->Q (.ref l) H'):spNm vs H Q E
inductive NW (H:Hp) (dl:Addr) (b p:Int) (n sz:Nat) (i:Nat) (σ:St) (H':Hp):Prop
 | mk (w:List Nat) (z7:Option V) (D:DI H dl H') (hw:WOk w) (hl:w.length=i+1) (hσ:σ=[some (.int b),some (.int p),some (.int (n:Int)),some (.str signsT),some (.ref dl),some (.int (1+(sz:Int))),some (.str (toS w)),z7,none,none,none,none,none])
inductive NL (H:Hp) (dl nl:Addr) (b p:Int) (n sz:Nat) (w:List Nat) (i:Nat) (σ:St) (H':Hp):Prop
 | mk (xs:List Str) (z7 z9 z10 z11 z12:Option V) (D:DI H dl H') (k:H' nl=some (.lst (xs.map V.str))) (hl:xs.length=i) (hn:xs.Nodup) (hx:∀x∈xs,bm x=true) (hσ:σ=[some (.int b),some (.int p),some (.int (n:Int)),some (.str signsT),some (.ref dl),some (.int (1+(sz:Int))),some (.str (toS w)),z7,some (.ref nl),z9,z10,z11,z12])
inductive NJ (H:Hp) (dl nl:Addr) (b p:Int) (n sz:Nat) (w:List Nat) (xs:List Str) (z9 z10 z11:Option V) (i:Nat) (σ:St) (H':Hp):Prop
 | mk (v:List Nat) (z7:Option V) (D:DI H dl H') (k:H' nl=some (.lst (xs.map V.str))) (hv:WOk v) (hl:v.length=i+1) (hσ:σ=[some (.int b),some (.int p),some (.int (n:Int)),some (.str signsT),some (.ref dl),some (.int (1+(sz:Int))),some (.str (toS w)),z7,some (.ref nl),z9,z10,z11,some (.str (toS v))])
theorem scNames:FnScope ["_law_base","_law_place","_law_many","_law_signs","_law_digits","_law_size","_law_word","_law_j","_law_names_here","_law_k","_law_at","_law_letter","_law_name"] ["_law_base","_law_place","_law_many"] (ao vp):=⟨rfl,rfl,rfl,by decide +kernel,rfl,by decide +kernel,by decide +kernel⟩
theorem a68 (C:Con K mg w) (F:Fun K "_law_names" "_law_names" vp f fd) (GF:FnOk P w K mg base CX0 2 gF dF ["_law_cell","_law_k"] ql) (cF:Cal K mg "_law_fed" gF dF ["_law_cell","_law_k"]) (GD:FnOk P w K mg base CX0 1 gD dD ["_law_digits","_law_many"] fu) (cD:Cal K mg "_law_digit" gD dD ["_law_digits","_law_many"]) (GU:FnOk P w K mg base CX0 1 gU dU ["_law_name","_law_names_here"] (spUnlike K)) (cU:Cal K mg "_law_unlike" gU dU ["_law_name","_law_names_here"]):FnOk P w K mg base CX0 3 f fd ["_law_base","_law_place","_law_many"] spNm:=by
 refine F.okQ scNames (fun vs H Q E h=>?_) (fun cdv A outer s0 H vs Q E hr h=>?_)
 . obtain⟨b,p,n,rfl,_⟩:=h;rfl
 obtain⟨b,p,n,rfl,hn,q⟩:=h
 have nd:=scNames.nd
 have hr1:=hr.mono (j:=1) (by omega)
 refine⟨_,ae (aq (i:=3) nd rfl (Or.inl rfl) b0)
   (ae (aq (i:=4) nd rfl (Or.inl rfl) (ak GF hr rfl cF.name cF.keep cF.bind .nil am (af (qv 0) (b8 aa))))
   (ae (aq (i:=5) nd rfl (Or.inl rfl) (ap bh ab (ak GD hr1 rfl cD.name cD.keep cD.bind .nil am (af (qv 4) (b8 aa)))))
   (ae (aq (i:=6) nd rfl (Or.inl rfl) (ah gn (qv 3) (ak GD hr1 rfl cD.name cD.keep cD.bind .nil am (af (qv 4) (b8 aa))) (fun _ _=>rfl)))
   (ae (de PassesOwn.never rfl (a3j rfl C.range (b8 (af (qv 5) aa))) (bq (i:=7) nd rfl (Or.inl rfl)) (ag (aq (i:=6) nd rfl (Or.inl rfl) (ap gl (qv 6) (ah gn (qv 3) (ak GD hr1 rfl cD.name cD.keep cD.bind .nil am (af (qv 4) (b8 aa))) (fun _ _=>rfl))))))
   (ae (aq (i:=8) nd rfl (Or.inl rfl) (bc aa))
   (ae (de PassesOwn.never rfl (fi rfl C.range (af (qv 2) aa)) (bq (i:=9) nd rfl (Or.inl rfl)) (ae (aq (i:=10) nd rfl (Or.inl rfl) (ap cr (qv 1) (qv 5)))
   (ae (aq (i:=11) nd rfl (Or.inl rfl) (ah gn (qv 3) (ap cr (ap bh (gk (K:=K) rfl PySem.F.plainAttrs_str PySem.F.slot_str_index PySem.F.type_str_index (nk rfl) (qv 3) (aw (ah gn (qv 6) (qv 10) (fun _ _=>rfl)) aa)) (qv 9)) ab) (fun _ _=>rfl)))
   (ae (aq (i:=12) nd rfl (Or.inl rfl) (ap gl (ap gl (bz vc (qv 6) cy (cb (qv 10))) (qv 11)) (bz vc (qv 6) (cb (ap bh (qv 10) ab)) cy)))
   (ae (b6 (ar be (ap cr (qv 0) ab) ab (ax _)) (ae (aq (i:=12) nd rfl (Or.inl rfl) (ah gn (qv 3) (ak GD hr1 rfl cD.name cD.keep cD.bind .nil am (af (qv 4) (b8 aa))) (fun _ _=>rfl)))
   (ag (de PassesOwn.never rfl (fi rfl C.range (az (ak GD hr1 rfl cD.name cD.keep cD.bind .nil am (af (qv 4) (b8 aa))) aa)) (bq (i:=7) nd rfl (Or.inl rfl)) (ag (aq (i:=12) nd rfl (Or.inl rfl) (ap gl (qv 12) (ah gn (qv 3) (ak GD hr1 rfl cD.name cD.keep cD.bind .nil am (af (qv 4) (b8 aa))) (fun _ _=>rfl)))))))) b9)
   (ag (dg (gk (K:=K) rfl PySem.F.plainAttrs_list PySem.F.slot_list_append PySem.F.type_list_append i4 (qv 8) (az (ak GU hr1 rfl cU.name cU.keep cU.bind .nil am (af (qv 12) (af (qv 8) aa))) aa)))))))))
   (ag (av (qv 8))))))))),?_⟩
 refine⟨_,rfl,b,3,rfl,fun dl hdl=>?_⟩
 have D0:DI H dl (upd H dl (.lst [.int (fedF b 3)])):=⟨ad hdl _,_,a0⟩
 generalize upd H dl (.lst [.int (fedF b 3)])=H1 at D0 |-
 obtain⟨e1,n1,k1⟩:=id D0
 refine⟨_,rfl,dl,n1,8,rfl,k1,(by decide),(by decide),_,_,rfl,rfl,?_⟩
 have hs0:=Int.emod_nonneg n1 (show (8:Int)≠0 by decide)
 have hs1:=Int.emod_lt_of_pos n1 (show (0:Int)<8 by decide)
 obtain⟨sz,hsz⟩:∃sz:Nat,n1 % 8=(sz:Int):=⟨(n1 % 8).toNat,by omega⟩
 rw[hsz] at hs1 |-
 have D2:=D0.put hdl (n1 / 8)
 generalize upd H1 dl (.lst [.int (n1 / 8)])=H2 at D2 |-
 obtain⟨e2,n2,k2⟩:=id D2
 obtain⟨t2,ht2,hat2⟩:=pq n2 (m:=26) (by decide) (by decide)
 refine⟨_,rfl,_,rfl,dl,n2,26,rfl,k2,(by decide),(by decide),signsT,_,sg t2,rfl,rfl,gi,hat2,?_⟩
 have D3:=D2.put hdl (n2 / 26)
 generalize upd H2 dl (.lst [.int (n2 / 26)])=H3 at D3 |-
 dsimp only[bi]
 refine au (a:=tFor _ _ _) fun F1 hF1 _ _=>?_
 refine⟨_,rfl,1,1+(sz:Int),rfl,⟨by decide,by decide,by omega,by omega⟩,?_⟩
 refine gj (lo:=1) (n:=(1+(sz:Int) - 1).toNat) (NW H dl b p n sz) ⟨[sg t2],none,D3,WOk.one (uk (by omega)),rfl,rfl⟩ ?_ ?_
 . rintro i σ H' hi ⟨wl,z7,D4,hw,hwl,rfl⟩
   obtain⟨e4,n4,k4⟩:=id D4
   obtain⟨t4,ht4,hat4⟩:=pq n4 (m:=36) (by decide) (by decide)
   refine⟨_,rfl,_,rfl,_,rfl,dl,n4,36,rfl,k4,(by decide),(by decide),signsT,_,sg t4,rfl,rfl,gi,hat4,toS wl,_,rfl,rfl,bn (by rw[fe];show _+1<=1000;omega),wl++[sg t4],some (.int (1+(i:Int))),D4.put hdl _,hw.snoc (xa (by omega)) (by omega),by rw[List.length_append,List.length_singleton];omega,?_⟩
   rw[nv];rfl
 rintro σ H4 ⟨wl,z7,D4,hw,hwl,rfl⟩
 refine hF1 _ _ ?_
 have hwl':wl.length=sz+1:=by omega
 refine⟨(by decide),fun nl hnl=>?_⟩
 have D5:DI H dl (upd H4 nl (.lst [])):=D4.same (ad hnl _)
 have k5:(upd H4 nl (.lst [])) nl=some (.lst (([]:List Str).map V.str)):=a0
 have nnd:nl≠dl:=fun z=>by obtain⟨_,n,k⟩:=D4;rw[z,k] at hnl;cases hnl
 have nnH:H nl=none:=D4.1.free hnl
 dsimp only[bi]
 generalize upd H4 nl (.lst [])=H5 at D5 k5 |-
 refine au (a:=tFor _ _ _) fun F2 hF2 _ _=>?_
 refine⟨_,rfl,_,rfl,by omega,by omega,?_⟩
 refine gj (lo:=0) (n:=(n:Int).toNat) (NL H dl nl b p n sz wl) ⟨[],z7,none,none,none,none,D5,k5,rfl,.nil,(fun x hx=>by cases hx),rfl⟩ ?_ ?_
 . rintro i σ H6 hi ⟨xs,z7,z9,z10,z11,z12,D6,k6,hxl,hxn,hxs,rfl⟩
   have hpm0:=Int.emod_nonneg p (show (1+(sz:Int))≠0 by omega)
   have hpm1:=Int.emod_lt_of_pos p (show (0:Int)<1+(sz:Int) by omega)
   refine⟨_,rfl,_,rfl,_,_,rfl,rfl,(show (0:Int)<1+(sz:Int) by omega),?_⟩
   show bi 10 (.int (p % (1+(sz:Int)))) _ _ _
   obtain⟨a,ha⟩:∃a:Nat,p % (1+(sz:Int))=(a:Int):=⟨(p % (1+(sz:Int))).toNat,by omega⟩
   rw[ha] at hpm1 |-
   have hal:a<wl.length:=by omega
   obtain⟨u,hu,hwu⟩:=a2c (hw.sg _ (List.getElem_mem hal))
   have hata:atI (toS wl).cps.toList (a:Int)=some (sg u):=by show atI wl (a:Int)=_;exact ca (by rw[List.getElem?_eq_getElem hal,hwu])
   obtain⟨t7,ht7,hat7⟩:=pq ((u:Int)+(0+(i:Int))) (m:=26) (by decide) (by decide)
   dsimp only[bi]
   refine⟨_,rfl,_,rfl,rfl,_,rfl,_,rfl,toS wl,_,sg u,rfl,rfl,bn (by rw[fe];omega),hata,signsT,⟨#[sg u]⟩,rfl,rfl,by rw[mi u hu];omega,?_⟩
   rw[mi u hu]
   refine⟨_,rfl,_,_,rfl,rfl,_,_,rfl,rfl,(show (0:Int)<26 by decide),signsT,_,sg t7,rfl,rfl,gi,hat7,?_⟩
   dsimp only[bi]
   refine⟨_,rfl,_,rfl,_,rfl,toS wl,rfl,bn (by rw[fe];omega),?_⟩
   rw[aa1]
   refine⟨_,rfl,_,_,rfl,rfl,bn (by rw[fe,List.length_take];show _+1<=1000;omega),_,rfl,_,rfl,_,_,rfl,rfl,_,rfl,toS wl,rfl,bn (by rw[fe];omega),?_⟩
   have ea:((a:Int)+1)=((a+1:Nat):Int):=rfl
   rw[ea,a65 _ _ (by omega),nv]
   refine⟨_,_,rfl,rfl,bn (by rw[fe,fe,List.length_append,List.length_take,List.length_drop,List.length_singleton];omega),?_⟩
   rw[a7y]
   have hv:WOk (wl.take a++[sg t7]++wl.drop (a+1)):=hw.at (uk (by omega)) hal
   generalize wl.take a++[sg t7]++wl.drop (a+1)=v at hv |-
   dsimp only[bi]
   refine au (a:=tIfS _ _ _) fun F3 hF3 _ _=>?_
   have tail:∀(v:List Nat) (H7:Hp) (z7':Option V),DI H dl H7->H7 nl=some (.lst (xs.map V.str))->WOk v->F3.nx [some (.int b),some (.int p),some (.int (n:Int)),some (.str signsT),some (.ref dl),some (.int (1+(sz:Int))),some (.str (toS wl)),z7',some (.ref nl),some (.int (0+(i:Int))),some (.int (a:Int)),some (.str ⟨#[sg t7]⟩),some (.str (toS v))] H7:=fun v H7 z7' D7 k7 hv=>hF3 _ _ (by
     obtain⟨pre,t,e,hp,ht⟩:=hv.wd
     refine⟨_,rfl,.inl ⟨rfl,_,SqL.of k7⟩,_,rfl,_,rfl,.mk pre t nl xs (by rw[e];rfl) hp ht k7 (by omega) fun x H8 e8 hx hn=>?_⟩
     refine⟨nl,xs.map V.str,.str x,rfl,rfl,e8 _ _ k7,bx (by rw[List.length_map];omega),xs++[x],_,_,_,_,_,?_,?_,?_,?_,?_,rfl⟩
     . obtain⟨d1,m,d2⟩:=D7.same e8
       refine⟨fun c o z=>?_,m,?_⟩
       . rw[ac (ai z nnH)];exact d1 _ _ z
       . rw[ac (Ne.symm nnd)];exact d2
     . rw[a0,List.map_append];rfl
     . rw[List.length_append,List.length_singleton,hxl]
     . exact List.nodup_append.mpr ⟨hxn,List.pairwise_singleton _ _,fun y hy z hz e=>hx (by rw[<- List.mem_singleton.mp hz,<- e];exact hy)⟩
     . intro y hy
       rcases List.mem_append.mp hy with hy|hy
       . exact hxs y hy
       . rw[List.mem_singleton.mp hy];exact hn)
   refine⟨_,rfl,_,_,rfl,rfl,(show (0:Int)<2 by decide),rfl,_,rfl,iteB (fun _=>?_) (fun _=>tail v H6 z7 D6 k6 hv)⟩
   obtain⟨e6,n6,d6⟩:=id D6
   obtain⟨t8,ht8,hat8⟩:=pq n6 (m:=26) (by decide) (by decide)
   refine⟨_,rfl,_,rfl,dl,n6,26,rfl,d6,(by decide),(by decide),signsT,_,sg t8,rfl,rfl,gi,hat8,?_⟩
   have D8:=D6.put hdl (n6 / 26)
   have k8:(upd H6 dl (.lst [.int (n6 / 26)])) nl=some (.lst (xs.map V.str)):=by rw[ac nnd];exact k6
   generalize upd H6 dl (.lst [.int (n6 / 26)])=H8 at D8 k8 |-
   obtain⟨e8,n8,d8⟩:=id D8
   have hs8:=Int.emod_nonneg n8 (show (8:Int)≠0 by decide)
   have hs9:=Int.emod_lt_of_pos n8 (show (0:Int)<8 by decide)
   dsimp only[bi]
   refine⟨_,rfl,dl,n8,8,rfl,d8,(by decide),(by decide),_,rfl,by omega,by omega,?_⟩
   have D9:=D8.put hdl (n8 / 8)
   have k9:(upd H8 dl (.lst [.int (n8 / 8)])) nl=some (.lst (xs.map V.str)):=by rw[ac nnd];exact k8
   generalize upd H8 dl (.lst [.int (n8 / 8)])=H9 at D9 k9 |-
   refine gj (lo:=0) (n:=(n8 % 8).toNat) (NJ H dl nl b p n sz wl xs (some (.int (0+(i:Int)))) (some (.int (a:Int))) (some (.str ⟨#[sg t7]⟩))) ⟨[sg t8],z7,D9,k9,WOk.one (uk (by omega)),rfl,rfl⟩ ?_ ?_
   . rintro j σ H' hj ⟨v,z7',D4,k4',hv4,hvl,rfl⟩
     obtain⟨e4,n4,k4⟩:=id D4
     obtain⟨t4,ht4,hat4⟩:=pq n4 (m:=36) (by decide) (by decide)
     refine⟨_,rfl,_,rfl,_,rfl,dl,n4,36,rfl,k4,(by decide),(by decide),signsT,_,sg t4,rfl,rfl,gi,hat4,toS v,_,rfl,rfl,bn (by rw[fe];show _+1<=1000;omega),v++[sg t4],some (.int (0+(j:Int))),D4.put hdl _,by rw[ac nnd];exact k4',hv4.snoc (xa (by omega)) (by omega),by rw[List.length_append,List.length_singleton];omega,?_⟩
     rw[nv];rfl
   rintro σ H10 ⟨v,z7',D10,k10,hv10,hvl,rfl⟩
   exact tail v H10 z7' D10 k10 hv10
 rintro σ H6 ⟨xs,z7,z9,z10,z11,z12,D6,k6,hxl,hxn,hxs,rfl⟩
 exact hF2 _ _ ⟨_,rfl,q nl xs H6 D6.1 k6 (by omega) hxn hxs⟩
noncomputable def vK (xs:List Str) (f:Str->Int):List (Key×V):=xs.map fun x=>(Sum.inr x,.int (f x))
noncomputable def upF (f:Str->Int) (x:Str) (v:Int):Str->Int:=fun y=>if y=x then v else f y
noncomputable def hK (hp:List (Int×Addr)):List (Key×V):=hp.map fun p=>(Sum.inl p.1,.ref p.2)
noncomputable def bK (xs:List Str):List (Key×V):=xs.map fun x=>(Sum.inr x,.bl true)
theorem ml {f:Str->Int}{x:Str}:∀{xs:List Str},x∈xs->valV (vK xs f) (Sum.inr x)=some (.int (f x))
 | [],h=>by cases h
 | y::xs,h=>by
   by_cases e:y=x
   . subst e;exact gh rfl
   . rcases List.mem_cons.mp h with z|z
     . exact absurd z.symm e
     . have ih:=ml (f:=f) z
       unfold valV vK at ih |-
       rw[List.map_cons,List.find?_cons]
       rw[decide_eq_false (fun w=>e (Sum.inr.inj w))]
       exact ih
theorem lu {β:Type}{g:Str->β}{xs:List Str}{x:Str}:((xs.map fun y=>((Sum.inr y:Key),g y)).any fun kv=>decide (kv.1=(Sum.inr x:Key)))=decide (x∈xs):=by
 rw[Bool.eq_iff_iff,List.any_eq_true,decide_eq_true_eq]
 constructor
 . rintro⟨kv,hk,he⟩
   obtain⟨y,hy,rfl⟩:=List.mem_map.mp hk
   rw[<- Sum.inr.inj (of_decide_eq_true he)];exact hy
 . intro h
   exact⟨_,List.mem_map.mpr ⟨x,h,rfl⟩,decide_eq_true rfl⟩
theorem j9 {f:Str->Int}{x:Str}{v:Int}{xs:List Str}(h:x∈xs):putK (vK xs f) (Sum.inr x) (.int v)=vK xs (upF f x v):=by
 unfold putK vK
 rw[lu,decide_eq_true h,if_pos rfl,List.map_map]
 refine List.map_congr_left fun y _=>?_
 show (if (Sum.inr y:Key)=Sum.inr x then _ else _)=_
 unfold upF
 by_cases e:y=x
 . rw[if_pos (by rw[e]),if_pos e]
 . rw[if_neg (fun z=>e (Sum.inr.inj z)),if_neg e]
theorem a1x {f:Str->Int}{x:Str}{v:Int}{xs:List Str}(h:¬ x∈xs):putK (vK xs f) (Sum.inr x) (.int v)=vK (xs++[x]) (upF f x v):=by
 unfold putK vK
 rw[lu,decide_eq_false h,if_neg Bool.false_ne_true,List.map_append]
 congr 1
 . refine List.map_congr_left fun y hy=>?_
   unfold upF;rw[if_neg (fun z=>h (by rw[<- z];exact hy))]
 . show _=[((Sum.inr x:Key),V.int (upF f x v x))]
   unfold upF;rw[if_pos rfl]
noncomputable def addL (L:List Str) (x:Str):List Str:=if x∈L then L else L++[x]
theorem a6c {L:List Str}{x y:Str}:y∈addL L x↔y∈L\/y=x:=by
 unfold addL
 split
 . exact⟨.inl,fun h=>h.elim id fun e=>by rw[e];assumption⟩
 . rw[List.mem_append,List.mem_singleton]
theorem a3i {xs:List Str}{x:Str}:putK (bK xs) (Sum.inr x) (.bl true)=bK (addL xs x):=by
 unfold putK bK addL
 rw[lu (g:=fun _=>V.bl true)]
 by_cases h:x∈xs
 . rw[decide_eq_true h,if_pos rfl,if_pos h,List.map_map]
   refine List.map_congr_left fun y _=>?_
   show (if (Sum.inr y:Key)=Sum.inr x then _ else _)=_
   by_cases e:y=x
   . rw[if_pos (by rw[e])]
   . rw[if_neg (fun z=>e (Sum.inr.inj z))]
 . rw[decide_eq_false h,if_neg Bool.false_ne_true,if_neg h,List.map_append];rfl
theorem a9v {hp:List (Int×Addr)}{x:Int}{r:Addr}(h:¬ x∈hp.map (·.1)):putK (hK hp) (Sum.inl x) (.ref r)=hK (hp++[(x,r)]):=by
 unfold putK hK
 have e:((hp.map fun p=>((Sum.inl p.1:Key),V.ref p.2)).any fun kv=>decide (kv.1=(Sum.inl x:Key)))=false:=by
   rw[Bool.eq_false_iff]
   intro z
   obtain⟨kv,hk,he⟩:=List.any_eq_true.mp z
   obtain⟨y,hy,rfl⟩:=List.mem_map.mp hk
   exact h (List.mem_map.mpr ⟨y,hy,Sum.inl.inj (of_decide_eq_true he)⟩)
 rw[e,if_neg Bool.false_ne_true,List.map_append];rfl
theorem a8s {hp:List (Int×Addr)}{x:Int}:ia (hK hp) (Sum.inl x)=hK (hp.filter fun p=>decide (p.1≠x)):=by
 unfold ia hK
 rw[List.filter_map]
 congr 1
 refine List.filter_congr fun y _=>?_
 show decide ((Sum.inl y.1:Key)≠Sum.inl x)=_
 exact decide_eq_decide.mpr ⟨fun h z=>h (by rw[z]),fun h z=>h (Sum.inl.inj z)⟩
theorem a7i {hp:List (Int×Addr)}:(hK hp).map (·.1)=(hp.map (·.1)).map Sum.inl:=by unfold hK;rw[List.map_map,List.map_map];rfl
theorem a6j {x:Int}:∀{hp:List (Int×Addr)},x∈hp.map (·.1)->∃r,(x,r)∈hp/\valV (hK hp) (Sum.inl x)=some (.ref r)
 | [],h=>by cases h
 | p::hp,h=>by
   by_cases e:p.1=x
   . exact⟨p.2,by rw[<- e];exact List.mem_cons_self ..,gh (show (Sum.inl p.1:Key)=Sum.inl x by rw[e])⟩
   . rw[List.map_cons] at h
     rcases List.mem_cons.mp h with z|z
     . exact absurd z.symm e
     . obtain⟨r,h1,h2⟩:=a6j z
       refine⟨r,List.mem_cons_of_mem _ h1,?_⟩
       unfold valV hK at h2 |-
       rw[List.map_cons,List.find?_cons]
       rw[decide_eq_false (fun w=>e (Sum.inl.inj w))]
       exact h2
noncomputable abbrev sk:Stmt:=cx (top 30) 2
noncomputable abbrev wt:Stmt:=top 39
inductive spWhere (K:PySem.W.Frag) (CM CF:Addr) (vs:List V) (H:Hp) (Q:VK) (E:XK):Prop
 | fin (m pd fl cd p pr pt nd bd:Addr) (g:Int) (rc:Str) (ts:List Addr) (k:Nat) (h0:vs=[.ref m]) (h1:At1 K CM CF H m pd fl cd p pr pt nd bd g rc ts k) (hk:ts.length<=k) (q:∀H',Same H H'->Q .non H'):spWhere K CM CF vs H Q E
 | on (m pd fl cd p pr pt nd bd:Addr) (g:Int) (rc nm:Str) (us:List V) (ts:List Addr) (k:Nat) (h0:vs=[.ref m]) (h1:At1 K CM CF H m pd fl cd p pr pt nd bd g rc ts k) (hk:k<ts.length) (hpr:H pr=some (.tup (.str nm::us))) (q:∀r H',Same H H'->H' r=some (.tup [.str nm,.ref pt])->Q (.ref r) H'):spWhere K CM CF vs H Q E
 | fall (m pd fl cd p pr pt nd:Addr) (fps:List Addr) (g:Int) (rc nm:Str) (us:List V) (h0:vs=[.ref m]) (h1:MaAt CM CF H m pd fl cd p pr pt nd fps g true rc) (hpr:H pr=some (.tup (.str nm::us))) (q:∀r H',Same H H'->H' r=some (.tup [.str nm,.ref pt])->Q (.ref r) H'):spWhere K CM CF vs H Q E
theorem scWhere:FnScope ["self"] ["self"] (ao sk):=⟨rfl,rfl,rfl,by decide +kernel,rfl,by decide +kernel,by decide +kernel⟩
theorem a62 (C:Con K mg w) (T:TxM K mg CM fI) (U:TxF K mg CF fJ) (F:Fun K "where" "Machine.where" sk f fd) (GW:FnOk P w K mg base CX0 5 gW dW ["self"] (spWord K CM CF)) (cW:MCal K CM "word" gW dW ["self"]):FnOk P w K mg base CX0 6 f fd ["self"] (spWhere K CM CF):=by
 refine F.okQ scWhere (fun vs H Q E h=>?_) (fun cdv A outer s0 H vs Q E hr h=>?_)
 . rcases h with⟨_,_,_,_,_,_,_,_,_,_,_,_,_,rfl,_⟩|⟨_,_,_,_,_,_,_,_,_,_,_,_,_,_,_,rfl,_⟩|⟨_,_,_,_,_,_,_,_,_,_,_,_,_,rfl,_⟩<;>rfl
 have nd:=scWhere.nd
 refine⟨_,ae (b6 (ar be (cz (qv 0) T.cl cW.meth GW hr cW.bind .nil am) b0 (ax _)) (ag (av i7)) b9)
   (ag (av (bp (aw (ah (ixTK (K:=K) rfl) (b5 (K:=K) rfl (ah (ixK (K:=K) rfl) (b5 (K:=K) rfl (qv 0)) (et dh ab) (fun _ _=>rfl))) ab (fun _ _=>rfl)) (cn (b5 (K:=K) rfl (ah (ixK (K:=K) rfl) (b5 (K:=K) rfl (qv 0)) (et dh ab) (fun _ _=>rfl))) aa))))),?_⟩
 have go:∀{m pd fl cd p pr pt nd':Addr} {fps:List Addr} {g:Int} {b:Bool} {rc nm:Str} {us:List V} {H1:Hp},MaAt CM CF H1 m pd fl cd p pr pt nd' fps g b rc->H1 pr=some (.tup (.str nm::us))->(∀r H',Same H1 H'->H' r=some (.tup [.str nm,.ref pt])->Q (.ref r) H')->tRet (tTup (bj (tOp (rIxT K) (tFld K (tOp (rIxL K) (tFld K (tVar 0) "frames") (tUn (rU fun i=>.int (-i)) (tC (.int 1)))) "procedure") (tC (.int 0))) (bj (tFld K (tOp (rIxL K) (tFld K (tVar 0) "frames") (tUn (rU fun i=>.int (-i)) (tC (.int 1)))) "path") tNil))) { nx:=fun x H'=>Q V.non H',rt:=Q } [some (.ref m)] H1:=fun {m pd fl cd p pr pt nd' fps g b rc nm us H1} ma hpr q=>by
   obtain⟨⟨dx,fs,hm,hM⟩,hfl,⟨dx',fs',hp,hff,_⟩⟩:=ma
   rw[List.map_append] at hfl
   exact⟨_,rfl,m,CM,dx,fs,_,rfl,hm,T.cl,T.nF,hM.frames,_,rfl,fl,_,_,_,rfl,rfl,SqL.of hfl,dj,p,CF,dx',fs',_,rfl,hp,U.cl,U.nP,hff.procedure,pr,_,0,_,rfl,rfl,SqT.of hpr,at0,_,rfl,m,CM,dx,fs,_,rfl,hm,T.cl,T.nF,hM.frames,_,rfl,fl,_,_,_,rfl,rfl,SqL.of hfl,dj,p,CF,dx',fs',_,rfl,hp,U.cl,U.nA,hff.path,(show 2<=sizeLine by decide),fun r hr=>q r _ (ad hr _) a0⟩
 rcases h with⟨m,pd,fl,cd,p,pr,pt,nd',bd,g,rc,ts,k,rfl,h1,hk,q⟩|⟨m,pd,fl,cd,p,pr,pt,nd',bd,g,rc,nm,us,ts,k,rfl,h1,hk,hpr,q⟩|⟨m,pd,fl,cd,p,pr,pt,nd',fps,g,rc,nm,us,rfl,h1,hpr,q⟩
 . obtain⟨⟨⟨dx,fs,hm,hM⟩,hfl,⟨dx',fs',hp,hff,hf50⟩⟩,⟨v0,v1,v2,v3,v4,hpr⟩,hpt,hbd,hmp⟩:=id h1
   refine⟨_,rfl,m,dx,fs,rfl,hm,hM.meth _ (by decide +kernel),.fine m pd fl cd p pr pt nd' bd bd [] g rc v0 v1 v2 v3 v4 [] k ts rfl h1.ma hpr hpt rfl (Nat.zero_le _) hbd fun H1 e1=>?_⟩
   rw[if_neg (by omega)]
   exact⟨rfl,_,rfl,iteB (fun _=>q H1 e1) (fun c=>absurd c (by decide +kernel))⟩
 . obtain⟨⟨⟨dx,fs,hm,hM⟩,hfl,⟨dx',fs',hp,hff,hf50⟩⟩,⟨v0,v1,v2,v3,v4,hpr'⟩,hpt,hbd,hmp⟩:=id h1
   refine⟨_,rfl,m,dx,fs,rfl,hm,hM.meth _ (by decide +kernel),.fine m pd fl cd p pr pt nd' bd bd [] g rc v0 v1 v2 v3 v4 [] k ts rfl h1.ma hpr' hpt rfl (Nat.zero_le _) hbd fun H1 e1=>?_⟩
   rw[if_pos hk]
   refine⟨rfl,_,rfl,iteB (fun c=>absurd c (by decide +kernel)) (fun _=>?_)⟩
   have ma1:MaAt CM CF H1 m pd fl cd p pr pt nd' [] g false rc:=⟨⟨dx,fs,e1 _ _ hm,hM⟩,e1 _ _ hfl,⟨dx',fs',e1 _ _ hp,hff,hf50⟩⟩
   exact go ma1 (e1 _ _ hpr) fun r H' e h=>q r H' (e1.trans e) h
 . obtain⟨⟨dx,fs,hm,hM⟩,hfl,hfr⟩:=id h1
   refine⟨_,rfl,m,dx,fs,rfl,hm,hM.meth _ (by decide +kernel),.fall m dx pd fl cd fs g rfl hm hM ?_⟩
   refine⟨rfl,_,rfl,iteB (fun c=>absurd c (by decide +kernel)) (fun _=>go h1 hpr q)⟩
inductive spValue (vs:List V) (H:Hp) (Q:VK) (E:XK):Prop
 | mk (dl sl:Addr) (n:Int) (ss:List Int) (h0:vs=[.ref dl,.ref sl]) (h1:H dl=some (.lst [.int n])) (h2:H sl=some (.lst (ss.map V.int))) (h3:ss.length=6) (q:∀(v n':Int) H',ck dl H H'->H' dl=some (.lst [.int n'])->Q (.int v) H'):spValue vs H Q E
theorem scValue:FnScope ["_law_digits","_law_spots","_law_at"] ["_law_digits","_law_spots"] (ao wt):=⟨rfl,rfl,rfl,by decide +kernel,rfl,by decide +kernel,by decide +kernel⟩
theorem a5e (C:Con K mg w) (F:Fun K "_law_value" "_law_value" wt f fd) (GD:FnOk P w K mg base CX0 1 gD dD ["_law_digits","_law_many"] fu) (cD:Cal K mg "_law_digit" gD dD ["_law_digits","_law_many"]):FnOk P w K mg base CX0 2 f fd ["_law_digits","_law_spots"] spValue:=by
 refine F.okQ scValue (fun vs H Q E h=>?_) (fun cdv A outer s0 H vs Q E hr h=>?_)
 . obtain⟨_,_,_,_,rfl,_⟩:=h;rfl
 obtain⟨dl,sl,n,ss,rfl,h1,h2,h3,q⟩:=h
 have nd:=scValue.nd
 refine⟨_,ae (aq (i:=2) nd rfl (Or.inl rfl) (ak GD hr rfl cD.name cD.keep cD.bind .nil am (af (qv 0) (b8 aa))))
   (ae (b6 (ar be (qv 2) ab (ax _)) (ag (av (ak GD hr rfl cD.name cD.keep cD.bind .nil am (af (qv 0) (ce (ap qr ab ab) aa))))) b9)
   (ag (av (ah (ixK (K:=K) rfl) (ap g6 (qv 1) (bc (b8 (b8 aa)))) (qv 2) (fun _ _=>rfl))))),?_⟩
 have nsd:sl≠dl:=fun z=>by
   rw[z,h1] at h2
   have:=congrArg List.length (HO.lst.inj (Option.some.inj h2))
   rw[List.length_map,h3] at this
   simp at this
 refine⟨_,rfl,dl,n,9,rfl,h1,(by decide),(by decide),?_⟩
 have k1:(upd H dl (.lst [.int (n / 9)])) dl=some (.lst [.int (n / 9)]):=a0
 have s1:ck dl H (upd H dl (.lst [.int (n / 9)])):=fun b o z nb=>by rw[ac nb];exact z
 dsimp only[bi]
 generalize upd H dl (.lst [.int (n / 9)])=H1 at s1 k1 |-
 have h90:=Int.emod_nonneg n (show (9:Int)≠0 by decide)
 have h91:=Int.emod_lt_of_pos n (show (0:Int)<9 by decide)
 refine⟨_,rfl,rfl,_,rfl,iteB (fun _=>?_) (fun hc=>?_)⟩
 . refine⟨_,rfl,_,_,rfl,rfl,(show CPow 10 60 from⟨by decide,by decide,by decide⟩),dl,_,_,rfl,k1,(by decide +kernel),(by decide +kernel),?_⟩
   exact q _ _ _ (fun b o z nb=>by rw[ac nb];exact s1 b o z nb) a0
 . have hlt:n % 9<8:=by
     rcases Int.lt_or_eq_of_le (show n % 9<=8 by omega) with z|z
     . exact z
     . rw[z] at hc;exact absurd hc (by decide +kernel)
   refine⟨_,rfl,(show 2<=sizeLine by decide),fun p hp=>?_⟩
   have s2:=ad hp (.lst [V.int 0,V.int 7])
   have k2:(upd H1 p (.lst [V.int 0,V.int 7])) p=some (.lst [V.int 0,V.int 7]):=a0
   generalize upd H1 p (.lst [V.int 0,V.int 7])=H2 at s2 k2 |-
   refine⟨sl,p,_,_,rfl,rfl,s2 _ _ (s1 _ _ h2 nsd),k2,bn (by rw[List.length_map,h3];decide),fun p3 hp3=>?_⟩
   have s3:=ad hp3 (.lst (ss.map V.int++[V.int 0,V.int 7]))
   have k3:(upd H2 p3 (.lst (ss.map V.int++[V.int 0,V.int 7]))) p3=some (.lst (ss.map V.int++[V.int 0,V.int 7])):=a0
   generalize upd H2 p3 (.lst (ss.map V.int++[V.int 0,V.int 7]))=H3 at s3 k3 |-
   have em:ss.map V.int++[V.int 0,V.int 7]=(ss++[0,7]).map V.int:=by rw[List.map_append];rfl
   obtain⟨j,hj⟩:∃j:Nat,n % 9=(j:Int):=⟨(n % 9).toNat,by omega⟩
   have hj8:j<(ss++[0,7]).length:=by rw[List.length_append,h3];show j<6+2;omega
   refine⟨_,rfl,p3,_,_,.int (ss++[0,7])[j],rfl,rfl,SqL.of k3,?_,?_⟩
   . rw[hj,em];exact ca (by rw[List.getElem?_map,List.getElem?_eq_getElem hj8];rfl)
   . exact q _ _ _ (fun b o z nb=>s3 _ _ (s2 _ _ (s1 b o z nb))) (s3 _ _ (s2 _ _ k1))
noncomputable abbrev zw:Stmt:=top 40
noncomputable def CellsU (H:Hp) (hp:List (Int×Addr)):Prop:=∀p∈hp,∃u v:Int,H p.2=some (.tup [.int u,.int v])
theorem CellsU.same {H H':Hp}{hp:List (Int×Addr)}(h:CellsU H hp) (e:Same H H'):CellsU H' hp:=fun p z=>by obtain⟨u,v,y⟩:=h p z;exact⟨u,v,e _ _ y⟩
theorem CellsU.keep {H H':Hp}{hp:List (Int×Addr)}(h:CellsU H hp) (e:∀b vs,H b=some (.tup vs)->H' b=some (.tup vs)):CellsU H' hp:=fun p z=>by obtain⟨u,v,y⟩:=h p z;exact⟨u,v,e _ _ y⟩
noncomputable def putH (hp:List (Int×Addr)) (x:Int) (r:Addr):List (Int×Addr):=if x∈hp.map (·.1) then hp.map (fun p=>if p.1=x then (p.1,r) else p) else hp++[(x,r)]
theorem a3h (hp:List (Int×Addr)) (x:Int) (r:Addr):putK (hK hp) (Sum.inl x) (.ref r)=hK (putH hp x r):=by
 unfold putH
 by_cases h:x∈hp.map (·.1)
 . rw[if_pos h]
   unfold putK hK
   have e:((hp.map fun p=>((Sum.inl p.1:Key),V.ref p.2)).any fun kv=>decide (kv.1=(Sum.inl x:Key)))=true:=by
     obtain⟨p,hp',rfl⟩:=List.mem_map.mp h
     exact List.any_eq_true.mpr ⟨_,List.mem_map.mpr ⟨p,hp',rfl⟩,decide_eq_true rfl⟩
   rw[e,if_pos rfl,List.map_map,List.map_map]
   refine List.map_congr_left fun p _=>?_
   show (if (Sum.inl p.1:Key)=Sum.inl x then _ else _)=((Sum.inl (if p.1=x then (p.1,r) else p).1:Key),V.ref (if p.1=x then (p.1,r) else p).2)
   by_cases e:p.1=x
   . rw[if_pos (by rw[e]),if_pos e]
   . rw[if_neg (fun z=>e (Sum.inl.inj z)),if_neg e]
 . rw[if_neg h];exact a9v h
theorem u8 {hp:List (Int×Addr)}{x:Int}{r:Addr}:(putH hp x r).map (·.1)=if x∈hp.map (·.1) then hp.map (·.1) else hp.map (·.1)++[x]:=by
 unfold putH
 split
 . rw[List.map_map]
   refine List.map_congr_left fun p _=>?_
   show (if p.1=x then (p.1,r) else p).1=p.1
   split<;>rfl
 . rw[List.map_append];rfl
theorem a4z {hp:List (Int×Addr)}{x:Int}{r:Addr}{p:Int×Addr}(h:p∈putH hp x r):p∈hp\/p.2=r:=by
 unfold putH at h
 split at h
 . obtain⟨q,hq,rfl⟩:=List.mem_map.mp h
   split
   . exact .inr rfl
   . exact .inl hq
 . rcases List.mem_append.mp h with h|h
   . exact .inl h
   . exact .inr (by rw[List.mem_singleton.mp h])
theorem a5h {hp:List (Int×Addr)}{x:Int}{r:Addr}:(putH hp x r).length<=hp.length+1:=by
 unfold putH
 split
 . rw[List.length_map];omega
 . rw[List.length_append,List.length_singleton];omega
theorem a0s {hp:List (Int×Addr)}{x:Int}{r:Addr}(h:(hp.map (·.1)).Nodup):((putH hp x r).map (·.1)).Nodup:=by
 rw[u8]
 split
 . exact h
 . rename_i hn
   exact List.nodup_append.mpr ⟨h,List.pairwise_singleton _ _,fun y hy z hz e=>hn (by rw[<- List.mem_singleton.mp hz,<- e];exact hy)⟩
theorem a6a {hp:List (Int×Addr)}{x:Int}{r:Addr}{k:Int}(h:k∈(putH hp x r).map (·.1)):k∈hp.map (·.1)\/k=x:=by
 rw[u8] at h
 split at h
 . exact .inl h
 . exact (List.mem_append.mp h).imp id List.mem_singleton.mp
structure HpL (H':Hp) (d sl:Addr) (hp:List (Int×Addr)) (ss:List Int):Prop where
 hd:H' d=some (.dK (hK hp))
 hs:H' sl=some (.lst (ss.map V.int))
 ls:ss.length=6
 cu:CellsU H' hp
 nd:(hp.map (·.1)).Nodup
 pos:∀k∈hp.map (·.1),0<k
 sp:∀s∈ss,0<s
theorem HpL.same {H' H'':Hp}{d sl:Addr}{hp:List (Int×Addr)}{ss:List Int}(h:HpL H' d sl hp ss) (e:Same H' H''):HpL H'' d sl hp ss:=⟨e _ _ h.hd,e _ _ h.hs,h.ls,h.cu.same e,h.nd,h.pos,h.sp⟩
theorem HpL.x {H' H'':Hp}{d sl dl:Addr}{hp:List (Int×Addr)}{ss:List Int}{xs:List V}(h:HpL H' d sl hp ss) (hdl:H' dl=some (.lst xs)) (ne:sl≠dl) (e:ck dl H' H''):HpL H'' d sl hp ss :=
 ⟨e _ _ h.hd (fun z=>by have:=h.hd;rw[z,hdl] at this;cases this),e _ _ h.hs ne,h.ls,h.cu.keep fun b vs hb=>e _ _ hb (fun z=>by rw[z,hdl] at hb;cases hb),h.nd,h.pos,h.sp⟩
inductive spHeapL (K:PySem.W.Frag) (vs:List V) (H:Hp) (Q:VK) (E:XK):Prop
 | mk (a:Addr) (ns:List Int) (st:Nat) (h0:vs=[.ref a,.int (st:Int)]) (hS:SqL K H a (ns.map V.int)) (q:∀t d sl hp ss H',Same H H'->H d=none->H sl=none->H' t=some (.tup [.ref d,.ref sl])->HpL H' d sl hp ss->hp.length<=6->Q (.ref t) H'):spHeapL K vs H Q E
inductive HL (H:Hp) (a d sl:Addr) (st:Nat) (z3 z4 z5:Option V) (i:Nat) (σ:St) (H':Hp):Prop
 | mk (dl:Addr) (n:Int) (hp:List (Int×Addr)) (ss:List Int) (z8:Option V) (e:Same H H') (nd:H dl=none) (ne:sl≠dl) (hdl:H' dl=some (.lst [.int n])) (I:HpL H' d sl hp ss) (hl:hp.length<=i) (hσ:σ=[some (.ref a),some (.int (st:Int)),some (.ref dl),z3,z4,z5,some (.ref sl),some (.ref d),z8])
theorem scHeapL:FnScope ["_law_script","_law_start","_law_digits","_law_ways","_law_step","_law_base","_law_spots","_law_heap_here","_law_k"] ["_law_script","_law_start"] (ao zw):=⟨rfl,rfl,rfl,by decide +kernel,rfl,by decide +kernel,by decide +kernel⟩
theorem a59 (C:Con K mg w) (F:Fun K "_law_heap" "_law_heap" zw f fd) (GC:FnOk P w K mg base CX0 1 gC dC ["_law_script","_law_k"] (qh K)) (cC:Cal K mg "_law_cell_at" gC dC ["_law_script","_law_k"]) (GF:FnOk P w K mg base CX0 2 gF dF ["_law_cell","_law_k"] ql) (cF:Cal K mg "_law_fed" gF dF ["_law_cell","_law_k"]) (GD:FnOk P w K mg base CX0 1 gD dD ["_law_digits","_law_many"] fu) (cD:Cal K mg "_law_digit" gD dD ["_law_digits","_law_many"]) (GV:FnOk P w K mg base CX0 2 gV dV ["_law_digits","_law_spots"] spValue) (cV:Cal K mg "_law_value" gV dV ["_law_digits","_law_spots"]):FnOk P w K mg base CX0 3 f fd ["_law_script","_law_start"] (spHeapL K):=by
 refine F.okQ scHeapL (fun vs H Q E h=>?_) (fun cdv A outer s0 H vs Q E hr h=>?_)
 . obtain⟨_,_,_,rfl,_⟩:=h;rfl
 obtain⟨a,ns,st,rfl,hS,q⟩:=h
 have nd:=scHeapL.nd
 have hu1:=ft hr
 have hr1:=hr.mono (j:=1) (by omega)
 refine⟨_,ae (aq (i:=2) nd rfl (Or.inl rfl) (ak GF hr rfl cF.name cF.keep cF.bind .nil am (az (ak GC hr1 rfl cC.name cC.keep cC.bind .nil am (af (qv 0) (af (qv 1) aa))) (b8 aa))))
   (ae (aq (i:=3) nd rfl (Or.inl rfl) (bc (az (ak GD hr1 rfl cD.name cD.keep cD.bind .nil am (af (qv 2) (b8 aa))) (az (ak GD hr1 rfl cD.name cD.keep cD.bind .nil am (af (qv 2) (b8 aa))) aa))))
   (ae (aq (i:=4) nd rfl (Or.inr rfl) (ah (ixK (K:=K) rfl) (bc (b8 (b8 (ce (ap bh ab (ak GD hr1 rfl cD.name cD.keep cD.bind .nil am (af (qv 2) (ce (ap qr ab ab) aa)))) aa)))) (ah (ixK (K:=K) rfl) (qv 3) ab (fun _ _=>rfl)) (fun _ _=>rfl)))
   (ae (aq (i:=5) nd rfl (Or.inr rfl) (ah (ixK (K:=K) rfl) (bc (b8 (b8 (ce (ap bh ab (ak GD hr1 rfl cD.name cD.keep cD.bind .nil am (af (qv 2) (ce (ap qr ab ab) aa)))) aa)))) (ah (ixK (K:=K) rfl) (qv 3) ab (fun _ _=>rfl)) (fun _ _=>rfl)))
   (ae (wx ["_law_k","_law_step","_law_base"] [4,5] (i:=6) nd rfl (Or.inl rfl) (fi rfl C.range (b8 aa)) (fun _ _ _ _=>ii) (fun _ _ _ _=>(ap bh (qv 2) (ap ik (qv 0) (qv 1)))))
   (ae (aq (i:=7) nd rfl (Or.inl rfl) se)
   (ae (de PassesOwn.never rfl (fi rfl C.range (b8 aa)) (bq (i:=8) nd rfl (Or.inl rfl)) (ae (b6 (ar be (ap cr (qv 8) ab) ab (ax _)) (ag (aq (i:=2) nd rfl (Or.inl rfl) (ak GF hr rfl cF.name cF.keep cF.bind .nil am (az (ak GC hr1 rfl cC.name cC.keep cC.bind .nil am (af (qv 0) (ce (ap bh (ap bh (qv 1) ab) (ap fc (qv 8) ab)) aa))) (ce (ap bh ab (qv 8)) aa))))) b9)
   (ae (b6 (ar be (ak GD hr1 rfl cD.name cD.keep cD.bind .nil am (af (qv 2) (b8 aa))) ab (ax _)) (ag (jo (ap bh ab (ak GD hr1 rfl cD.name cD.keep cD.bind .nil am (af (qv 2) (ce (ap x3 (ap qr ab ab) ab) aa)))) (wv (qv 6) (qv 8) pf))) b9)
   (ag (b6 (ar uq (ak GD hr1 rfl cD.name cD.keep cD.bind .nil am (af (qv 2) (b8 aa))) ab (ax _)) (ag (cg hu1 (qv 7) (ah (ixK (K:=K) rfl) (qv 6) (qv 8) (fun _ _=>rfl)) (bp (az (ak GV hr rfl cV.name cV.keep cV.bind .nil am (af (qv 2) (af (qv 6) aa))) (az (ak GV hr rfl cV.name cV.keep cV.bind .nil am (af (qv 2) (af (qv 6) aa))) aa))))) b9)))))
   (ag (av (bp (af (qv 7) (af (qv 6) aa))))))))))),?_⟩
 have pow50:(0:Int)<10 ^ (50:Int).toNat/\(10:Int) ^ (50:Int).toNat<=10 ^ 60:=by decide +kernel
 have pow59:(0:Int)<10 ^ (59:Int).toNat - 1/\(10:Int) ^ (59:Int).toNat - 1<=10 ^ 60:=by decide +kernel
 have h3:∀n:Int,∃j:Nat,n % 3=(j:Int)/\j<3:=fun n=>⟨(n % 3).toNat,by have:=Int.emod_nonneg n (show (3:Int)≠0 by decide);omega,by have:=Int.emod_lt_of_pos n (show (0:Int)<3 by decide);omega⟩
 refine au (a:=tAsg _ _) fun A1 hA1 _ _=>?_
 refine⟨_,rfl,_,rfl,a,ns,st,rfl,hS,_,1,rfl,fun dl hdl=>?_⟩
 have D1:DI H dl (upd H dl (.lst [.int (fedF (gb ns st) 1)])):=⟨ad hdl _,_,a0⟩
 generalize upd H dl (.lst [.int (fedF (gb ns st) 1)])=H1 at D1 |-
 refine hA1 _ _ ?_
 clear hA1
 refine au (a:=tAsg _ _) fun A2 hA2 _ _=>?_
 obtain⟨e1,n1,k1⟩:=id D1
 obtain⟨j1,hj1,hj1'⟩:=h3 n1
 refine⟨_,rfl,dl,n1,3,rfl,k1,(by decide),(by decide),?_⟩
 rw[hj1]
 have D2:=D1.put hdl (n1 / 3)
 generalize upd H1 dl (.lst [.int (n1 / 3)])=H2 at D2 |-
 obtain⟨e2,n2,k2⟩:=id D2
 obtain⟨j2,hj2,hj2'⟩:=h3 n2
 refine⟨_,rfl,dl,n2,3,rfl,k2,(by decide),(by decide),?_⟩
 rw[hj2]
 have D3:=D2.put hdl (n2 / 3)
 generalize upd H2 dl (.lst [.int (n2 / 3)])=H3 at D3 |-
 refine⟨(show 2<=sizeLine by decide),fun wl hwl=>?_⟩
 have D4:=D3.same (ad hwl (.lst [.int (j1:Int),.int (j2:Int)]))
 have k4:(upd H3 wl (.lst [.int (j1:Int),.int (j2:Int)])) wl=some (.lst [.int (j1:Int),.int (j2:Int)]):=a0
 generalize upd H3 wl (.lst [.int (j1:Int),.int (j2:Int)])=H4 at D4 k4 |-
 have nwd:wl≠dl:=fun z=>by obtain⟨_,n,k⟩:=D3;rw[z,k] at hwl;cases hwl
 refine hA2 _ _ ?_
 clear hA2
 refine au (a:=tAsg _ _) fun A3 hA3 _ _=>?_
 obtain⟨e4,n4,d4⟩:=id D4
 refine⟨_,rfl,_,_,rfl,rfl,(show CPow 10 50 from⟨by decide,by decide,by decide⟩),dl,n4,_,rfl,d4,pow50.1,pow50.2,_,_,rfl,rfl,(show 3<=sizeLine by decide),fun l1 hl1=>?_⟩
 have g1:=Int.emod_nonneg n4 (Int.ne_of_gt pow50.1)
 dsimp only at hl1 |-
 generalize n4 % 10 ^ (50:Int).toNat=r1 at g1
 have D50:=D4.put hdl (n4 / 10 ^ (50:Int).toNat)
 have kw1:(upd H4 dl (.lst [.int (n4 / 10 ^ (50:Int).toNat)])) wl=some (.lst [.int (j1:Int),.int (j2:Int)]):=by rw[ac nwd];exact k4
 generalize upd H4 dl (.lst [.int (n4 / 10 ^ (50:Int).toNat)])=G1 at D50 kw1 hl1 |-
 have s1:=ad hl1 (.lst [V.int 1,V.int 2,V.int (1+r1)])
 have kl1:(upd G1 l1 (.lst [V.int 1,V.int 2,V.int (1+r1)])) l1=some (.lst [V.int 1,V.int 2,V.int (1+r1)]):=a0
 generalize upd G1 l1 (.lst [V.int 1,V.int 2,V.int (1+r1)])=H5 at s1 kl1 |-
 have D5:=D50.same s1
 have kw1':=s1 _ _ kw1
 obtain⟨sv,hv1,hp1⟩:∃v:Int,atI [V.int 1,V.int 2,V.int (1+r1)] (j1:Int)=some (.int v)/\0<v:=by
   match j1,hj1' with
   | 0,_=>exact⟨1,rfl,by decide⟩
   | 1,_=>exact⟨2,rfl,by decide⟩
   | 2,_=>exact⟨1+r1,rfl,by omega⟩
 refine⟨_,rfl,wl,_,0,.int (j1:Int),rfl,rfl,SqL.of kw1',rfl,l1,_,_,.int sv,rfl,rfl,SqL.of kl1,hv1,?_⟩
 refine hA3 _ _ ?_
 clear hA3
 refine au (a:=tAsg _ _) fun A4 hA4 _ _=>?_
 obtain⟨e5,n5,d5⟩:=id D5
 refine⟨_,rfl,_,_,rfl,rfl,(show CPow 10 50 from⟨by decide,by decide,by decide⟩),dl,n5,_,rfl,d5,pow50.1,pow50.2,_,_,rfl,rfl,(show 3<=sizeLine by decide),fun l2 hl2=>?_⟩
 have g2:=Int.emod_nonneg n5 (Int.ne_of_gt pow50.1)
 dsimp only at hl2 |-
 generalize n5 % 10 ^ (50:Int).toNat=r2 at g2
 have D60:=D5.put hdl (n5 / 10 ^ (50:Int).toNat)
 have kw2:(upd H5 dl (.lst [.int (n5 / 10 ^ (50:Int).toNat)])) wl=some (.lst [.int (j1:Int),.int (j2:Int)]):=by rw[ac nwd];exact kw1'
 generalize upd H5 dl (.lst [.int (n5 / 10 ^ (50:Int).toNat)])=G2 at D60 kw2 hl2 |-
 have s2:=ad hl2 (.lst [V.int 1,V.int 5,V.int (1+r2)])
 have kl2:(upd G2 l2 (.lst [V.int 1,V.int 5,V.int (1+r2)])) l2=some (.lst [V.int 1,V.int 5,V.int (1+r2)]):=a0
 generalize upd G2 l2 (.lst [V.int 1,V.int 5,V.int (1+r2)])=H6 at s2 kl2 |-
 have D6:=D60.same s2
 have kw2':=s2 _ _ kw2
 obtain⟨bv,hv2,hp2⟩:∃v:Int,atI [V.int 1,V.int 5,V.int (1+r2)] (j2:Int)=some (.int v)/\0<v:=by
   match j2,hj2' with
   | 0,_=>exact⟨1,rfl,by decide⟩
   | 1,_=>exact⟨5,rfl,by decide⟩
   | 2,_=>exact⟨1+r2,rfl,by omega⟩
 refine⟨_,rfl,wl,_,1,.int (j2:Int),rfl,rfl,SqL.of kw2',rfl,l2,_,_,.int bv,rfl,rfl,SqL.of kl2,hv2,?_⟩
 refine hA4 _ _ ?_
 clear hA4
 refine au (a:=tAsg _ _) fun A5 hA5 _ _=>?_
 refine⟨_,rfl,(by decide),(by decide),?_⟩
 refine a8i (nums 0 (6:Int).toNat) ((List.range 6).map fun (k:Nat)=>V.int (bv+(0+(k:Int))*sv)) xk trivial (by decide) (by rfl) (fun i x y hx hy H2 e2 Q' q'=>?_) fun sl H7 hsl e7 ksl=>?_
 . unfold nums at hx
   rw[show (6:Int).toNat=6 from rfl,List.getElem?_map] at hx
   rw[List.getElem?_map] at hy
   cases hi:(List.range 6)[i]? with
   | none=>rw[hi] at hx;cases hx
   | some k =>
     rw[hi] at hx hy
     have hk:k<6:=List.mem_range.mp (List.mem_of_getElem? hi)
     have hx':x=.int (0+(k:Int)):=(Option.some.inj hx).symm
     have hy':y=.int (bv+(0+(k:Int))*sv):=(Option.some.inj hy).symm
     subst hx' hy'
     exact⟨_,rfl,_,rfl,_,rfl,_,_,rfl,rfl,.inl ⟨by omega,by omega⟩,_,_,rfl,rfl,q' H2 (Same.refl _)⟩
 have ksl':H7 sl=some (.lst (((List.range 6).map fun (k:Nat)=>bv+(0+(k:Int))*sv).map V.int)):=by rw[ksl,List.map_map];rfl
 have hsp:∀s∈(List.range 6).map fun (k:Nat)=>bv+(0+(k:Int))*sv,0<s:=fun s hs=>by
   obtain⟨k,_,rfl⟩:=List.mem_map.mp hs
   have:0<=(0+(k:Int))*sv:=Int.mul_nonneg (by omega) (by omega)
   omega
 have hsl6:((List.range 6).map fun (k:Nat)=>bv+(0+(k:Int))*sv).length=6:=by rw[List.length_map,List.length_range]
 generalize (List.range 6).map (fun (k:Nat)=>bv+(0+(k:Int))*sv)=ss at ksl' hsp hsl6
 have D7:=D6.same e7
 have nHs:H sl=none:=D6.1.free hsl
 have nsd:sl≠dl:=fun z=>by obtain⟨_,n,k⟩:=D6;rw[z,k] at hsl;cases hsl
 refine hA5 _ _ ?_
 clear hA5
 refine au (a:=tAsg _ _) fun A6 hA6 _ _=>?_
 intro d hd
 have D8:DI H dl (upd H7 d (.dK [])):=D7.same (ad hd _)
 have I8:HpL (upd H7 d (.dK [])) d sl [] ss:=⟨a0,ad hd _ _ _ ksl',hsl6,(fun p hp=>by cases hp),.nil,(fun k hk=>by cases hk),hsp⟩
 have nHd:H d=none:=D7.1.free hd
 generalize upd H7 d (.dK [])=H8 at D8 I8 |-
 refine hA6 _ _ ?_
 clear hA6
 refine au (a:=tFor _ _ _) fun F1 hF1 _ _=>?_
 obtain⟨e8,n8,d8⟩:=id D8
 refine⟨_,rfl,by decide,by decide,?_⟩
 refine gj (lo:=0) (n:=(6:Int).toNat) (HL H a d sl st (some (.ref wl)) (some (.int sv)) (some (.int bv))) ⟨dl,n8,[],ss,none,e8,hdl,nsd,d8,I8,Nat.zero_le _,rfl⟩ ?_ ?_
 . rintro i σ H9 hi ⟨dl,n9,hp,ss,z8,e9,ndl,nsd,d9,I9,hl9,rfl⟩
   have hi6:i<6:=hi
   refine au (a:=tIfS _ _ _) fun B1 hB1 _ _=>?_
   have t1:∀(dl:Addr) (n9:Int) (H9:Hp),Same H H9->H dl=none->sl≠dl->H9 dl=some (.lst [.int n9])->HpL H9 d sl hp ss->B1.nx [some (.ref a),some (.int (st:Int)),some (.ref dl),some (.ref wl),some (.int sv),some (.int bv),some (.ref sl),some (.ref d),some (.int (0+(i:Int)))] H9:=fun dl n9 H9 e9 ndl nsd d9 I9=>hB1 _ _ (by
     have putX:∀{G:Hp} {o:HO},Same H G->Same H (upd G dl o):=fun {G o} e b u z=>by rw[ac (ai z ndl)];exact e _ _ z
     have putS:∀{G:Hp} {o:HO},Same H G->Same H (upd G sl o):=fun {G o} e b u z=>by rw[ac (ai z nHs)];exact e _ _ z
     have putDd:∀{G:Hp} {o:HO},Same H G->Same H (upd G d o):=fun {G o} e b u z=>by rw[ac (ai z nHd)];exact e _ _ z
     refine au (a:=tIfS _ _ _) fun B2 hB2 _ _=>?_
     have t2:∀(n9:Int) (ss:List Int) (H9:Hp),Same H H9->H9 dl=some (.lst [.int n9])->HpL H9 d sl hp ss->B2.nx [some (.ref a),some (.int (st:Int)),some (.ref dl),some (.ref wl),some (.int sv),some (.int bv),some (.ref sl),some (.ref d),some (.int (0+(i:Int)))] H9:=fun n9 ss H9 e9 d9 I9=>hB2 _ _ (by
       refine⟨_,rfl,dl,n9,3,rfl,d9,(by decide),(by decide),_,_,rfl,rfl,_,rfl,?_⟩
       have eA:=putX (o:=.lst [.int (n9 / 3)]) e9
       have dA:(upd H9 dl (.lst [.int (n9 / 3)])) dl=some (.lst [.int (n9 / 3)]):=a0
       have IA:HpL (upd H9 dl (.lst [.int (n9 / 3)])) d sl hp ss:=I9.x d9 nsd fun b o z nb=>by rw[ac nb];exact z
       generalize upd H9 dl (.lst [.int (n9 / 3)])=HA at eA dA IA |-
       refine iteB (fun _=>?_) (fun _=>⟨dl,_,hp,ss,_,eA,ndl,nsd,dA,IA,by omega,rfl⟩)
       refine⟨_,rfl,_,rfl,.mk dl sl _ ss rfl dA IA.hs IA.ls fun v1 m1 HB sB dB=>?_⟩
       have IB:=IA.x dA nsd sB
       have eB:Same H HB:=fun b o z=>sB b o (eA _ _ z) (ai z ndl)
       refine⟨_,rfl,_,rfl,.mk dl sl _ ss rfl dB IB.hs IB.ls fun v2 m2 HC sC dC=>?_⟩
       have IC:=IB.x dB nsd sC
       have eC:Same H HC:=fun b o z=>sC b o (eB _ _ z) (ai z ndl)
       refine⟨(show 2<=sizeLine by decide),fun r hr=>?_⟩
       have sD:=ad hr (.tup [V.int v1,V.int v2])
       have kr:(upd HC r (.tup [V.int v1,V.int v2])) r=some (.tup [V.int v1,V.int v2]):=a0
       generalize upd HC r (.tup [V.int v1,V.int v2])=HD at sD kr |-
       have ID:=IC.same sD
       have eD:=eC.trans sD
       have dD':=sD _ _ dC
       have hil:i<ss.length:=by rw[IC.ls];exact hi6
       have hat:atI (ss.map V.int) (0+(i:Int))=some (.int ss[i]):=by
         rw[Int.zero_add];exact ca (by rw[List.getElem?_map,List.getElem?_eq_getElem hil];rfl)
       have hsi:0<ss[i]:=IC.sp _ (List.getElem_mem hil)
       generalize ss[i]=s at hat hsi
       refine⟨_,rfl,_,rfl,_,rfl,sl,_,_,.int s,rfl,rfl,SqL.of ID.hs,hat,d,_,rfl,DPut.k (k:=Sum.inl s) ID.hd (bx (by unfold hK;rw[List.length_map];omega)),?_⟩
       rw[a3h]
       have nt:∀{b:Addr} {vs:List V},HD b=some (.tup vs)->b≠d:=fun hb z=>by rw[z,ID.hd] at hb;cases hb
       have nl':∀{b:Addr} {vs:List V},HD b=some (.lst vs)->b≠d:=fun hb z=>by rw[z,ID.hd] at hb;cases hb
       refine⟨dl,m2,putH hp s r,ss,_,putDd eD,ndl,nsd,by rw[ac (nl' dD')];exact dD',⟨a0,by rw[ac (nl' ID.hs)];exact ID.hs,ID.ls,fun p' hp'=>?_,a0s ID.nd,fun k hk=>(a6a hk).elim (ID.pos k) fun z=>by rw[z];exact hsi,ID.sp⟩,Nat.le_trans a5h (by omega),rfl⟩
       rcases a4z hp' with z|z
       . obtain⟨u,v,y⟩:=ID.cu p' z
         exact⟨u,v,by rw[ac (nt y)];exact y⟩
       . rw[z]
         exact⟨v1,v2,by rw[ac (nt kr)];exact kr⟩)
     refine⟨_,rfl,dl,n9,8,rfl,d9,(by decide),(by decide),rfl,_,rfl,?_⟩
     have eA:=putX (o:=.lst [.int (n9 / 8)]) e9
     have dA:(upd H9 dl (.lst [.int (n9 / 8)])) dl=some (.lst [.int (n9 / 8)]):=a0
     have IA:HpL (upd H9 dl (.lst [.int (n9 / 8)])) d sl hp ss:=I9.x d9 nsd fun b o z nb=>by rw[ac nb];exact z
     generalize upd H9 dl (.lst [.int (n9 / 8)])=HA at eA dA IA |-
     refine iteB (fun _=>?_) (fun _=>t2 _ ss HA eA dA IA)
     refine⟨_,rfl,_,_,rfl,rfl,(show CPow 10 59 from⟨by decide,by decide,by decide⟩),_,_,rfl,rfl,dl,_,_,rfl,dA,pow59.1,pow59.2,_,_,rfl,rfl,?_⟩
     dsimp only
     have g9:=Int.emod_nonneg (n9 / 8) (Int.ne_of_gt pow59.1)
     generalize n9 / 8 % (10 ^ (59:Int).toNat - 1)=r9 at g9
     generalize n9 / 8 / (10 ^ (59:Int).toNat - 1)=q9
     have eB:=putX (o:=.lst [.int q9]) eA
     have dB:(upd HA dl (.lst [.int q9])) dl=some (.lst [.int q9]):=a0
     have IB:HpL (upd HA dl (.lst [.int q9])) d sl hp ss:=IA.x dA nsd fun b o z nb=>by rw[ac nb];exact z
     generalize upd HA dl (.lst [.int q9])=HB at eB dB IB |-
     have hix:ixN (ss.map V.int).length (0+(i:Int))=some i:=by
       rw[List.length_map,IB.ls,Int.zero_add];unfold ixN;rw[if_pos (by omega)];simp;omega
     refine⟨_,rfl,_,rfl,sl,_,_,i,rfl,rfl,IB.hs,hix,?_⟩
     have es:(ss.map V.int).set i (.int (1+r9))=(ss.set i (1+r9)).map V.int:=by rw[List.map_set]
     rw[es]
     refine t2 q9 (ss.set i (1+r9)) _ (putS eB) (by rw[ac (Ne.symm nsd)];exact dB) ⟨?_,a0,by rw[List.length_set];exact IB.ls,IB.cu.keep fun b vs hb=>?_,IB.nd,IB.pos,fun s hs=>?_⟩
     . rw[ac (fun z=>by have:=IB.hd;rw[z,IB.hs] at this;cases this)];exact IB.hd
     . rw[ac (fun z=>by rw[z,IB.hs] at hb;cases hb)];exact hb
     . rcases List.mem_or_eq_of_mem_set hs with z|z
       . exact IB.sp s z
       . rw[z];omega)
   refine⟨_,rfl,_,_,rfl,rfl,(show (0:Int)<2 by decide),rfl,_,rfl,iteB (fun _=>?_) (fun _=>t1 dl n9 H9 e9 ndl nsd d9 I9)⟩
   have e1:(st:Int)+1+(0+(i:Int)) / 2=((st+1+i / 2:Nat):Int):=by omega
   have e2:(2:Int)+(0+(i:Int))=((2+i:Nat):Int):=by omega
   refine⟨_,rfl,_,rfl,_,_,rfl,rfl,_,rfl,_,_,rfl,rfl,(show CDiv _ 2 from⟨by decide,by decide⟩),_,_,rfl,rfl,?_⟩
   dsimp only
   rw[e1]
   refine⟨a,ns,st+1+i / 2,rfl,e9.seq hS,_,rfl,_,_,rfl,rfl,?_⟩
   dsimp only
   rw[e2]
   refine⟨_,2+i,rfl,fun dl2 hdl2=>?_⟩
   have sN:=ad hdl2 (.lst [.int (fedF (gb ns (st+1+i / 2)) (2+i))])
   exact t1 dl2 _ _ (e9.trans sN) (e9.free hdl2) (fun z=>by rw[<- z,I9.hs] at hdl2;cases hdl2) a0 (I9.same sN)
 rintro σ H9 ⟨dl,n9,hp,ss,z8,e9,ndl,nsd,d9,I9,hl9,rfl⟩
 refine hF1 _ _ ⟨_,rfl,_,rfl,(show 2<=sizeLine by decide),fun t ht=>q t d sl hp ss _ (e9.trans (ad ht _)) nHd nHs a0 (I9.same (ad ht _)) hl9⟩
noncomputable abbrev x4:Stmt:=top 38
noncomputable abbrev vq:Stmt:=top 46
inductive Dd
 | set (x e:Str)
 | read (x y fld:Str)
 | write (y fld e:Str)
 | new (x e f:Str)
 | free (y:Str)
noncomputable def rowD:Dd->List Str
 | .set x e=>["set",x,e]
 | .read x y fld=>["read",x,y,fld]
 | .write y fld e=>["write",y,fld,e]
 | .new x e f=>["new",x,e,f]
 | .free y=>["free",y]
noncomputable def mj (x:Str):Prop:=x = "first" \/ x = "second"
noncomputable def InD (xs:List Str):Dd->Prop
 | .set x e=>x∈xs/\e∈xs++[("nil" : Str)]
 | .read x y fld=>x∈xs/\y∈xs/\mj fld
 | .write y fld e=>y∈xs/\mj fld/\e∈xs++[("nil" : Str)]
 | .new x e f=>x∈xs/\e∈xs++[("nil" : Str)]/\f∈xs++[("nil" : Str)]
 | .free y=>y∈xs
noncomputable def RowsX (H:Hp) (ts:List Addr) (ds:List Dd):Prop:=Paired (fun t d=>H t=some (.tup ((rowD d).map V.str))) ts ds
theorem RowsX.same {H H':Hp}{ts:List Addr}{ds:List Dd}(h:RowsX H ts ds) (e:Same H H'):RowsX H' ts ds:=Paired.mapP h fun _ _ z=>e _ _ z
theorem RowsX.keep {H H':Hp}{ts:List Addr}{ds:List Dd}(h:RowsX H ts ds) (e:∀b vs,H b=some (.tup vs)->H' b=some (.tup vs)):RowsX H' ts ds:=Paired.mapP h fun _ _ z=>e _ _ z
inductive spPlain (vs:List V) (H:Hp) (Q:VK) (E:XK):Prop
 | mk (dl ow ev:Addr) (n:Int) (own xs:List Str) (word:Str) (h0:vs=[.ref dl,.ref ow,.ref ev,.str word]) (h1:H dl=some (.lst [.int n])) (h2:H ow=some (.lst (own.map V.str))) (h3:H ev=some (.lst (xs.map V.str))) (h4:own≠[]) (h5:∀x∈own,x∈xs) (h6:xs≠[]) (h7:xs.length<=100) (h8:own.length<=100) (n1:ow≠dl) (n2:ev≠dl) (hw:word∈([("set" : Str),"read","write","new","free"]:List Str))
     (q:∀(d:Dd) (n':Int) t H',ck dl H H'->H' dl=some (.lst [.int n'])->H' t=some (.tup ((rowD d).map V.str))->InD xs d->Q (.ref t) H'):spPlain vs H Q E
theorem a1l {α:Type}{xs:List α}(n:Int) (h:xs≠[]):∃v,atI xs (n % (xs.length:Int))=some v/\v∈xs:=jf (xs:=xs) rfl (by have:=List.length_pos_iff.mpr h;omega)
theorem scPlain:FnScope ["_law_digits","_law_own","_law_every","_law_word","_law_e","_law_x","_law_y","_law_field"] ["_law_digits","_law_own","_law_every","_law_word"] (ao x4):=⟨rfl,rfl,rfl,by decide +kernel,rfl,by decide +kernel,by decide +kernel⟩
theorem a4u (C:Con K mg w) (F:Fun K "_law_plain" "_law_plain" x4 f fd) (GD:FnOk P w K mg base CX0 1 gD dD ["_law_digits","_law_many"] fu) (cD:Cal K mg "_law_digit" gD dD ["_law_digits","_law_many"]):FnOk P w K mg base CX0 2 f fd ["_law_digits","_law_own","_law_every","_law_word"] spPlain:=by
 refine F.okQ scPlain (fun vs H Q E h=>?_) (fun cdv A outer s0 H vs Q E hr h=>?_)
 . obtain⟨_,_,_,_,_,_,_,rfl,_⟩:=h;rfl
 obtain⟨dl,ow,ev,n,own,xs,word,rfl,h1,h2,h3,h4,h5,h6,h7,h8,n1,n2,hw,q⟩:=h
 have nd:=scPlain.nd
 refine⟨_,ae (aq (i:=4) nd rfl (Or.inl rfl) (ah (ixK (K:=K) rfl) (ap g6 (qv 2) (bc (bg aa))) (ak GD hr rfl cD.name cD.keep cD.bind .nil am (af (qv 0) (ce (ap bh (ba (lenK (K:=K) rfl) rfl C.len PySem.boot_len (af (qv 2) aa)) ab) aa))) (fun _ _=>rfl)))
   (ae (aq (i:=5) nd rfl (Or.inl rfl) (ah (ixK (K:=K) rfl) (qv 1) (ak GD hr rfl cD.name cD.keep cD.bind .nil am (af (qv 0) (az (ba (lenK (K:=K) rfl) rfl C.len PySem.boot_len (af (qv 1) aa)) aa))) (fun _ _=>rfl)))
   (ae (aq (i:=6) nd rfl (Or.inl rfl) (ah (ixK (K:=K) rfl) (qv 2) (ak GD hr rfl cD.name cD.keep cD.bind .nil am (af (qv 0) (az (ba (lenK (K:=K) rfl) rfl C.len PySem.boot_len (af (qv 2) aa)) aa))) (fun _ _=>rfl)))
   (ae (aq (i:=7) nd rfl (Or.inl rfl) (ah (ixK (K:=K) rfl) (bc (bg (bg aa))) (ak GD hr rfl cD.name cD.keep cD.bind .nil am (af (qv 0) (b8 aa))) (fun _ _=>rfl)))
   (ae (b6 (ar be (qv 3) b0 (ax _)) (ag (av (bp (bg (af (qv 5) (af (qv 4) aa)))))) b9)
   (ae (b6 (ar be (qv 3) b0 (ax _)) (ag (av (bp (bg (af (qv 5) (af (qv 6) (af (qv 7) aa))))))) b9)
   (ae (b6 (ar be (qv 3) b0 (ax _)) (ag (av (bp (bg (af (qv 6) (af (qv 7) (af (qv 4) aa))))))) b9)
   (ae (b6 (ar be (qv 3) b0 (ax _)) (ag (av (bp (bg (af (qv 5) (af (qv 4) (aw (ah (ixK (K:=K) rfl) (ap g6 (qv 2) (bc (bg aa))) (ak GD hr rfl cD.name cD.keep cD.bind .nil am (af (qv 0) (ce (ap bh (ba (lenK (K:=K) rfl) rfl C.len PySem.boot_len (af (qv 2) aa)) ab) aa))) (fun _ _=>rfl)) aa))))))) b9)
   (ag (av (bp (bg (af (qv 6) aa)))))))))))),?_⟩
 have em:xs.map V.str++[V.str "nil"]=(xs++[("nil" : Str)]).map V.str:=by rw[List.map_append];rfl
 have hne:(xs++[("nil" : Str)]).map V.str≠[]:=by simp
 have hel:(((xs++[("nil" : Str)]).map V.str).length:Int)=(xs.length:Int)+1:=by rw[List.length_map,List.length_append];rfl
 have he0:0<xs.length:=List.length_pos_iff.mpr h6
 have pickE:∀(H1:Hp) (n1:Int) (σ:St) (Q':VK),σ[0]? = some (some (.ref dl))->σ[2]? = some (some (.ref ev))->ck dl H H1->H1 dl=some (.lst [.int n1])->(∀e n2 H2,e∈xs++[("nil" : Str)]->ck dl H H2->H2 dl=some (.lst [.int n2])->Q' (.str e) H2)->tOp (rIxL K) (tOp rCat (tVar 2) (tLst (bj (tC (.str "nil")) tNil))) (qg fu [] E0 (bj (tVar 0) (bj (tOp (rI0 fun i j=>.int (i+j)) (tCB (fun xs H Q=>∃p ys,xs=[V.ref p]/\(SqL K H p ys\/SqT K H p ys)/\Q (.int ys.length) H) (bj (tVar 2) tNil)) (tC (.int 1))) tNil))) σ H1 Q':=fun H1 m σ Q' s0 s2 e1 d1 q'=>by
   have hev:=e1 _ _ h3 n2
   refine⟨_,s2,(show 1<=sizeLine by decide),fun p1 hp1=>?_⟩
   have s3:=ad hp1 (.lst [V.str "nil"])
   have k3:(upd H1 p1 (.lst [V.str "nil"])) p1=some (.lst [V.str "nil"]):=a0
   generalize upd H1 p1 (.lst [V.str "nil"])=H3 at s3 k3 |-
   refine⟨ev,p1,_,_,rfl,rfl,s3 _ _ hev,k3,bn (by rw[List.length_map];show _+1<=1000;omega),fun p2 hp2=>?_⟩
   rw[em]
   have s4:=ad hp2 (.lst ((xs++[("nil" : Str)]).map V.str))
   have k4:(upd H3 p2 (.lst ((xs++[("nil" : Str)]).map V.str))) p2=some (.lst ((xs++[("nil" : Str)]).map V.str)):=a0
   generalize upd H3 p2 (.lst ((xs++[("nil" : Str)]).map V.str))=H4 at s4 k4 |-
   have e4:=s3.trans s4
   have d4:=e4 _ _ d1
   have np:p2≠dl:=fun z=>by
     have h1:=s3 _ _ d1
     rw[z,h1] at hp2;cases hp2
   refine⟨_,s0,_,s2,ev,_,rfl,.inl (SqL.of (e4 _ _ hev)),_,_,rfl,rfl,dl,m,_,rfl,d4,(by rw[List.length_map];omega),(by rw[List.length_map];exact Int.le_trans (show (xs.length:Int)+1<=1000 by omega) (by decide)),?_⟩
   obtain⟨v,hv,hm⟩:=a1l m hne
   obtain⟨e,he,rfl⟩:=List.mem_map.mp hm
   rw[hel] at hv
   rw[List.length_map]
   exact⟨p2,_,_,.str e,rfl,rfl,SqL.of (by rw[ac np];exact k4),hv,q' e _ _ he (fun b o z nb=>by rw[ac nb];exact e4 _ _ (e1 b o z nb)) a0⟩
 have pickL:∀(H1:Hp) (n1:Int) (σ:St) (Q':VK) (i:Nat) (l:Addr) (ys:List Str),σ[0]? = some (some (.ref dl))->σ[i]? = some (some (.ref l))->l≠dl->ck dl H H1->H1 dl=some (.lst [.int n1])->H l=some (.lst (ys.map V.str))->ys≠[]->(ys.length:Int)<=10 ^ 60->(∀e n2 H2,e∈ys->ck dl H H2->H2 dl=some (.lst [.int n2])->Q' (.str e) H2)->tOp (rIxL K) (tVar i) (qg fu [] E0 (bj (tVar 0) (bj (tCB (fun xs H Q=>∃p ys,xs=[V.ref p]/\(SqL K H p ys\/SqT K H p ys)/\Q (.int ys.length) H) (bj (tVar i) tNil)) tNil))) σ H1 Q':=fun H1 m σ Q' i l ys s0 si nl e1 d1 hl hy hy2 q'=>by
   have hl1:=e1 _ _ hl nl
   have hyp:=List.length_pos_iff.mpr hy
   obtain⟨v,hv,hm⟩:=a1l (xs:=ys.map V.str) m (by simpa using hy)
   obtain⟨e,he,rfl⟩:=List.mem_map.mp hm
   refine⟨_,si,_,s0,_,si,l,_,rfl,.inl (SqL.of hl1),dl,m,_,rfl,d1,(by rw[List.length_map];omega),(by rw[List.length_map];exact hy2),?_⟩
   exact⟨l,_,_,.str e,rfl,rfl,SqL.of (by rw[ac nl];exact hl1),hv,q' e _ _ he (fun b o z nb=>by rw[ac nb];exact e1 b o z nb) a0⟩
 have hxl:(xs.length:Int)<=10 ^ 60:=Int.le_trans (show (xs.length:Int)<=1000 by omega) (by decide)
 have hol:(own.length:Int)<=10 ^ 60:=Int.le_trans (show (own.length:Int)<=1000 by omega) (by decide)
 refine au (a:=tAsg _ _) fun A1 hA1 _ _=>?_
 refine pickE H n _ _ rfl rfl (fun b o z nb=>z) h1 fun e m1 H1 he e1 d1=>?_
 refine hA1 _ _ ?_
 clear hA1
 refine au (a:=tAsg _ _) fun A2 hA2 _ _=>?_
 refine pickL H1 m1 _ _ 1 ow own rfl rfl n1 e1 d1 h2 h4 hol fun x m2 H2 hx e2 d2=>?_
 refine hA2 _ _ ?_
 clear hA2
 refine au (a:=tAsg _ _) fun A3 hA3 _ _=>?_
 refine pickL H2 m2 _ _ 2 ev xs rfl rfl n2 e2 d2 h3 h6 hxl fun y m3 H3 hy e3 d3=>?_
 refine hA3 _ _ ?_
 clear hA3
 refine au (a:=tAsg _ _) fun A4 hA4 _ _=>?_
 refine⟨(show 2<=sizeLine by decide),fun l hl=>?_⟩
 have s4:=ad hl (.lst [V.str "first",V.str "second"])
 have k4:(upd H3 l (.lst [V.str "first",V.str "second"])) l=some (.lst [V.str "first",V.str "second"]):=a0
 generalize upd H3 l (.lst [V.str "first",V.str "second"])=H4 at s4 k4 |-
 have nld:l≠dl:=fun z=>by rw[z,d3] at hl;cases hl
 obtain⟨fv,hfv,hfm⟩:=jf (xs:=[V.str "first",V.str "second"]) (m:=2) (i:=m3) rfl (by decide)
 obtain⟨fld,rfl,hfld⟩:∃fld:Str,fv=.str fld/\mj fld:=by
   simp only[List.mem_cons,List.not_mem_nil,or_false] at hfm
   rcases hfm with rfl|rfl
   . exact⟨_,rfl,.inl rfl⟩
   . exact⟨_,rfl,.inr rfl⟩
 refine⟨_,rfl,dl,m3,2,rfl,s4 _ _ d3,(by decide),(by decide),l,_,_,.str fld,rfl,rfl,SqL.of (by rw[ac nld];exact k4),hfv,?_⟩
 refine hA4 _ _ ?_
 clear hA4
 have e5:ck dl H (upd H4 dl (.lst [.int (m3 / 2)])):=fun b o z nb=>by rw[ac nb];exact s4 _ _ (e3 b o z nb)
 have d5:(upd H4 dl (.lst [.int (m3 / 2)])) dl=some (.lst [.int (m3 / 2)]):=a0
 generalize upd H4 dl (.lst [.int (m3 / 2)])=H5 at e5 d5 |-
 generalize m3 / 2=m5 at d5
 have hxx:=h5 x hx
 have mk:∀(d:Dd) (H6:Hp) (m6:Int),ck dl H H6->H6 dl=some (.lst [.int m6])->InD xs d->∀t,H6 t=none->Q (.ref t) (upd H6 t (.tup ((rowD d).map V.str))):=fun d H6 m6 e6 d6 hin t ht=>q d m6 t _ (fun b o z nb=>ad ht _ _ _ (e6 b o z nb)) (ad ht _ _ _ d6) a0 hin
 simp only[List.mem_cons,List.not_mem_nil,or_false] at hw
 have no:∀{b:Bool} {A B:Prop},b=false->B->(if b=true then A else B):=fun hb h=>by rw[hb,if_neg Bool.false_ne_true];exact h
 rcases hw with rfl|rfl|rfl|rfl|rfl
 . exact⟨_,rfl,rfl,_,rfl,iteB (fun _=>⟨_,rfl,_,rfl,(show 3<=sizeLine by decide),mk (.set x e) H5 m5 e5 d5 ⟨hxx,he⟩⟩) (fun c=>absurd c (by decide +kernel))⟩
 . refine⟨_,rfl,rfl,_,rfl,no (by decide +kernel) ?_⟩
   exact⟨_,rfl,rfl,_,rfl,iteB (fun _=>⟨_,rfl,_,rfl,_,rfl,(show 4<=sizeLine by decide),mk (.read x y fld) H5 m5 e5 d5 ⟨hxx,hy,hfld⟩⟩) (fun c=>absurd c (by decide +kernel))⟩
 . refine⟨_,rfl,rfl,_,rfl,no (by decide +kernel) ?_⟩
   refine⟨_,rfl,rfl,_,rfl,no (by decide +kernel) ?_⟩
   exact⟨_,rfl,rfl,_,rfl,iteB (fun _=>⟨_,rfl,_,rfl,_,rfl,(show 4<=sizeLine by decide),mk (.write y fld e) H5 m5 e5 d5 ⟨hy,hfld,he⟩⟩) (fun c=>absurd c (by decide +kernel))⟩
 . refine⟨_,rfl,rfl,_,rfl,no (by decide +kernel) ?_⟩
   refine⟨_,rfl,rfl,_,rfl,no (by decide +kernel) ?_⟩
   refine⟨_,rfl,rfl,_,rfl,no (by decide +kernel) ?_⟩
   refine⟨_,rfl,rfl,_,rfl,iteB (fun _=>?_) (fun c=>absurd c (by decide +kernel))⟩
   refine⟨_,rfl,_,rfl,pickE H5 m5 _ _ rfl rfl e5 d5 fun e' m6 H6 he' e6 d6=>?_⟩
   exact⟨(show 4<=sizeLine by decide),mk (.new x e e') H6 m6 e6 d6 ⟨hxx,he,he'⟩⟩
 . refine⟨_,rfl,rfl,_,rfl,no (by decide +kernel) ?_⟩
   refine⟨_,rfl,rfl,_,rfl,no (by decide +kernel) ?_⟩
   refine⟨_,rfl,rfl,_,rfl,no (by decide +kernel) ?_⟩
   refine⟨_,rfl,rfl,_,rfl,no (by decide +kernel) ?_⟩
   exact⟨_,rfl,(show 2<=sizeLine by decide),mk (.free y) H5 m5 e5 d5 hy⟩
inductive spDeeds (K:PySem.W.Frag) (vs:List V) (H:Hp) (Q:VK) (E:XK):Prop
 | mk (a nl:Addr) (ns:List Int) (xs:List Str) (p:Nat) (h0:vs=[.ref a,.ref nl,.int (p:Int)]) (hS:SqL K H a (ns.map V.int)) (h1:H nl=some (.lst (xs.map V.str))) (h2:xs.length=6) (h3:p<=2)
     (q:∀l ts ds H',Same H H'->H l=none->H' l=some (.lst (ts.map V.ref))->RowsX H' ts ds->ds.length<=30->(∀d∈ds,InD xs d)->Q (.ref l) H'):spDeeds K vs H Q E
theorem a5a (ns:List Int):∃cs:List Int,cutV (ns.map V.int) (some 10) (some 40)=cs.map V.int/\cs.length<=30:=by
 unfold cutV
 have e1:HT.sIx (ns.map V.int).length 0 (some 10)=min 10 (ns.map V.int).length:=HT.sIx_nat _ _ 10
 have e2:HT.sIx (ns.map V.int).length (ns.map V.int).length (some 40)=min 40 (ns.map V.int).length:=HT.sIx_nat _ _ 40
 rw[e1,e2]
 refine⟨(ns.drop (min 10 (ns.map V.int).length)).take (min 40 (ns.map V.int).length - min 10 (ns.map V.int).length),?_,?_⟩
 . rw[List.map_take,List.map_drop]
 . rw[List.length_take];omega
inductive DsL (H:Hp) (a nl l:Addr) (p:Nat) (xs:List Str) (i:Nat) (σ:St) (H':Hp):Prop
 | mk (ts:List Addr) (ds:List Dd) (z4 z5 z6:Option V) (e:ck l H H') (hl:H' l=some (.lst (ts.map V.ref))) (hr:RowsX H' ts ds) (hn:ds.length=i) (hi:∀d∈ds,InD xs d) (hσ:σ=[some (.ref a),some (.ref nl),some (.int (p:Int)),some (.ref l),z4,z5,z6])
noncomputable def words8:List Str:=["set","read","new","write","free","read","new","write"]
theorem a2i:∀x∈words8,x∈([("set" : Str),"read","write","new","free"]:List Str):=by decide +kernel
theorem scDeeds:FnScope ["_law_script","_law_names_here","_law_params","_law_deeds_here","_law_cell","_law_digits","_law_word"] ["_law_script","_law_names_here","_law_params"] (ao vq):=⟨rfl,rfl,rfl,by decide +kernel,rfl,by decide +kernel,by decide +kernel⟩
theorem a5b (C:Con K mg w) (F:Fun K "_law_deeds" "_law_deeds" vq f fd) (GF:FnOk P w K mg base CX0 2 gF dF ["_law_cell","_law_k"] ql) (cF:Cal K mg "_law_fed" gF dF ["_law_cell","_law_k"]) (GD:FnOk P w K mg base CX0 1 gD dD ["_law_digits","_law_many"] fu) (cD:Cal K mg "_law_digit" gD dD ["_law_digits","_law_many"]) (GP:FnOk P w K mg base CX0 2 gP dP ["_law_digits","_law_own","_law_every","_law_word"] spPlain) (cP:Cal K mg "_law_plain" gP dP ["_law_digits","_law_own","_law_every","_law_word"]):FnOk P w K mg base CX0 3 f fd ["_law_script","_law_names_here","_law_params"] (spDeeds K):=by
 refine F.okQ scDeeds (fun vs H Q E h=>?_) (fun cdv A outer s0 H vs Q E hr h=>?_)
 . obtain⟨_,_,_,_,_,rfl,_⟩:=h;rfl
 obtain⟨a,nl,ns,xs,p,rfl,hS,h1,h2,h3,q⟩:=h
 have nd:=scDeeds.nd
 have hr1:=hr.mono (j:=1) (by omega)
 refine⟨_,ae (aq (i:=3) nd rfl (Or.inl rfl) (bc aa))
   (ae (de PassesOwn.never rfl (uz (K:=K) rfl (bz (oi (K:=K) rfl) (qv 0) (cb ab) (cb ab))) (bq (i:=4) nd rfl (Or.inl rfl)) (ae (aq (i:=5) nd rfl (Or.inl rfl) (ak GF hr rfl cF.name cF.keep cF.bind .nil am (af (qv 4) (b8 aa))))
   (ae (aq (i:=6) nd rfl (Or.inl rfl) (ah (ixK (K:=K) rfl) (bc (bg (bg (bg (bg (bg (bg (bg (bg aa))))))))) (ak GD hr1 rfl cD.name cD.keep cD.bind .nil am (af (qv 5) (b8 aa))) (fun _ _=>rfl)))
   (ag (dg (gk (K:=K) rfl PySem.F.plainAttrs_list PySem.F.slot_list_append PySem.F.type_list_append i4 (qv 3) (az (ak GP hr rfl cP.name cP.keep cP.bind .nil am (af (qv 5) (aw (bz (oi (K:=K) rfl) (qv 1) (cb (qv 2)) cy) (af (qv 1) (af (qv 6) aa))))) aa)))))))
   (ag (av (qv 3)))),?_⟩
 refine⟨(by decide),fun l hl=>?_⟩
 have s1:=ad hl (.lst [])
 have k1:(upd H l (.lst [])) l=some (.lst (([]:List Addr).map V.ref)):=a0
 dsimp only[bi]
 generalize upd H l (.lst [])=H1 at s1 k1 |-
 obtain⟨cs,hcs,hcl⟩:=a5a ns
 refine au (a:=tFor _ _ _) fun F1 hF1 _ _=>?_
 refine⟨_,rfl,_,rfl,_,rfl,a,_,rfl,s1.seq hS,fun cl hcl'=>?_⟩
 rw[hcs]
 have s2:=ad hcl' (.lst (cs.map V.int))
 have k2:(upd H1 cl (.lst (cs.map V.int))) cl=some (.lst (cs.map V.int)):=a0
 generalize upd H1 cl (.lst (cs.map V.int))=H2 at s2 k2 |-
 have ncl:cl≠l:=fun z=>by rw[z,k1] at hcl';cases hcl'
 have keepL:∀{G:Hp} {o:HO},ck l H2 G->ck l H2 (upd G l o):=fun {G o} e b u z nb=>by rw[ac nb];exact e b u z nb
 refine⟨cl,rfl,⟨_,SqL.of k2⟩,?_⟩
 have nnl:nl≠l:=ai h1 hl
 refine gv (xs:=cs.map V.int) (DsL H2 a nl l p xs) ⟨[],[],none,none,none,(Same.refl _).x l,s2 _ _ k1,.nil,rfl,(fun d hd=>by cases hd),rfl⟩ ?_ ?_ ?_
 . rintro i σ H3 hi ⟨ts,ds,z4,z5,z6,e3,k3,r3,hn3,hi3,rfl⟩
   exact SqL.of (e3 _ _ k2 ncl)
 . rintro i x σ H3 hx ⟨ts,ds,z4,z5,z6,e3,k3,r3,hn3,hi3,rfl⟩
   rw[List.getElem?_map] at hx
   obtain⟨c,hc,rfl⟩:=Option.map_eq_some_iff.mp hx
   have hil:i<cs.length:=(List.getElem?_eq_some_iff.mp hc).1
   have knl3:=e3 _ _ ((s1.trans s2) _ _ h1) nnl
   refine au (a:=tAsg _ _) fun A1 hA1 _ _=>?_
   refine⟨_,rfl,c,9,rfl,fun dl hdl=>?_⟩
   have s4:=ad hdl (.lst [.int (fedF c 9)])
   have d4:(upd H3 dl (.lst [.int (fedF c 9)])) dl=some (.lst [.int (fedF c 9)]):=a0
   generalize upd H3 dl (.lst [.int (fedF c 9)])=H4 at s4 d4 |-
   generalize fedF c 9=n4 at d4
   refine hA1 _ _ ?_
   clear hA1
   refine au (a:=tAsg _ _) fun A2 hA2 _ _=>?_
   refine⟨(show 8<=sizeLine by decide),fun wl hwl=>?_⟩
   have s5:=ad hwl (.lst (words8.map V.str))
   have k5:(upd H4 wl (.lst (words8.map V.str))) wl=some (.lst (words8.map V.str)):=a0
   change qg fu _ _ _ _ (upd H4 wl (.lst (words8.map V.str))) _
   generalize upd H4 wl (.lst (words8.map V.str))=H5 at s5 k5 |-
   have nwd:wl≠dl:=fun z=>by rw[z,d4] at hwl;cases hwl
   obtain⟨u,hu,hum⟩:=jf (xs:=words8.map V.str) (m:=8) (i:=n4) rfl (by decide)
   obtain⟨word,hword,rfl⟩:=List.mem_map.mp hum
   refine⟨_,rfl,dl,n4,8,rfl,s5 _ _ d4,(by decide),(by decide),wl,_,_,.str word,rfl,rfl,SqL.of (by rw[ac nwd];exact k5),hu,?_⟩
   have e6:ck dl H3 (upd H5 dl (.lst [.int (n4 / 8)])):=fun b o z nb=>by rw[ac nb];exact (s4.trans s5) _ _ z
   have d6:(upd H5 dl (.lst [.int (n4 / 8)])) dl=some (.lst [.int (n4 / 8)]):=a0
   generalize upd H5 dl (.lst [.int (n4 / 8)])=H6 at e6 d6 |-
   refine hA2 _ _ ?_
   clear hA2
   have o3:∀{b:Addr} {o:HO},H3 b=some o->b≠dl:=fun hb=>ai hb hdl
   have k6:=e6 _ _ k3 (o3 k3)
   have knl6:=e6 _ _ knl3 (o3 knl3)
   refine⟨_,rfl,.inl ⟨rfl,_,SqL.of k6⟩,_,rfl,_,rfl,_,rfl,_,rfl,nl,_,rfl,SqL.of knl6,fun ow how=>?_⟩
   have ec:cutV (xs.map V.str) (some (p:Int)) none=(xs.drop p).map V.str:=jq
   rw[ec]
   have s7:=ad how (.lst ((xs.drop p).map V.str))
   have k7:(upd H6 ow (.lst ((xs.drop p).map V.str))) ow=some (.lst ((xs.drop p).map V.str)):=a0
   generalize upd H6 ow (.lst ((xs.drop p).map V.str))=H7 at s7 k7 |-
   have nod:ow≠dl:=fun z=>by rw[z,d6] at how;cases how
   have hne:xs≠[]:=fun z=>by rw[z] at h2;cases h2
   have hdl':(xs.drop p).length=6 - p:=by rw[List.length_drop,h2]
   refine⟨_,rfl,_,rfl,.mk dl ow nl _ (xs.drop p) xs word rfl (s7 _ _ d6) k7 (s7 _ _ knl6) (fun z=>by rw[z] at hdl';simp at hdl';omega) (fun y hy=>List.mem_of_mem_drop hy) hne (by omega) (by omega) nod (o3 knl3) (a2i word hword) fun d n8 t H8 e8 d8 ht hin=>?_⟩
   have k8:=e8 _ _ (s7 _ _ k6) (o3 k3)
   have r8:RowsX H8 ts ds:=r3.keep fun b vs hb=>e8 _ _ (s7 _ _ (e6 _ _ hb (o3 hb))) (o3 hb)
   have ntl:∀{b:Addr} {vs:List V},H8 b=some (.tup vs)->b≠l:=fun hb z=>by rw[z,k8] at hb;cases hb
   refine⟨l,_,_,rfl,rfl,k8,bx (by rw[List.length_map,Paired.length r3,hn3];omega),ts++[t],ds++[d],_,_,_,fun b o z nb=>?_,?_,?_,?_,fun d' hd'=>?_,rfl⟩
   . have z3:=e3 b o z nb
     rw[ac nb];exact e8 _ _ (s7 _ _ (e6 _ _ z3 (o3 z3))) (o3 z3)
   . rw[a0,List.map_append];rfl
   . refine Paired.snocP (r8.keep fun b vs hb=>?_) ?_
     . rw[ac (ntl hb)];exact hb
     . rw[ac (ntl ht)];exact ht
   . rw[List.length_append,List.length_singleton,hn3]
   . rcases List.mem_append.mp hd' with z|z
     . exact hi3 d' z
     . rw[List.mem_singleton.mp z];exact hin
 rintro σ H3 ⟨ts,ds,z4,z5,z6,e3,k3,r3,hn3,hi3,rfl⟩
 rw[List.length_map] at hn3
 exact hF1 _ _ ⟨_,rfl,q l ts ds H3 (fun b o z=>e3 b o ((s1.trans s2) _ _ z) (ai z hl)) hl k3 r3 (by omega) hi3⟩
end K50
namespace L2
open PySem PySem.Spec
theorem a83 {a:Addr}{od:Obj}{kvs:List (Key×V)}:JSeq (Itk a od kvs) (fun H=>H a=some (.frz od (.dK kvs))) (kvs.map fun kv=>kV kv.1) where
 go:=fun i H h hi=>⟨h,by rw[List.length_map] at hi;exact hi⟩
 stop:=fun i H h hi=>⟨h,by rw[List.length_map] at hi;exact hi⟩
 yld:=fun i H x H' _ h y=>y
 stay:=fun H H' h e=>e _ _ h
inductive rSortS (K:PySem.W.Frag) (vs:List V) (H:Hp) (Q:VK):Prop
 | mk (a:Addr) (ss:List Str) (h0:vs=[.ref a]) (h1:SqL K H a (ss.map V.str)) (h2:ss.length<64) (q:∀p zs,H p=none->zs.Perm ss->PyProof.Rows.sortedS zs=true->Q (.ref p) (upd H p (.lst (zs.map V.str)))):rSortS K vs H Q
theorem a05 {X:Cx}{K:PySem.W.Frag}(hK:X.K=K):cf X (.builtin "sorted") (rSortS K):=by
 subst hK
 intro pins s σ H vs us Q I r h
 obtain⟨a,ss,h0,h1,h2,q⟩:=h
 exact oy pins s σ H vs us Q I r ⟨a,ss,h0,h1,h2,q⟩
end L2
namespace K50
open PySem PySem.Spec L2 Mir
variable {P:Program}{w:World}{K:PySem.W.Frag}{mg:Str->Option Value}{base:Heap}{f g gS gN gA gW gI gL gF gO gT gB C fI CM CF fJ gD gE gC gM gK gH gR gU gV gP gX:Addr}{fd gd dS dN dA dW dI dL dF dO dT dB dD dE dC dM dK dH dR dU dV dP dX:FuncData}
noncomputable abbrev rn:Stmt:=top 47
noncomputable abbrev a06:Stmt:=top 48
noncomputable def bu:Dd->List Str
 | .set x e=>[x,e]
 | .read x y _=>[x,y]
 | .write y _ e=>[y,e]
 | .new x e f=>[x,e,f]
 | .free y=>[y]
theorem a7z:(("set" : Str) ≠ "read" /\ ("write" : Str) ≠ "read" /\ ("new" : Str) ≠ "read" /\ ("free" : Str) ≠ "read")/\(("set" : Str) ≠ "write" /\ ("new" : Str) ≠ "write" /\ ("free" : Str) ≠ "write"):=by decide +kernel
inductive spSaidBy (K:PySem.W.Frag) (vs:List V) (H:Hp) (Q:VK) (E:XK):Prop
 | mk (t:Addr) (d:Dd) (h0:vs=[.ref t]) (h1:H t=some (.tup ((rowD d).map V.str))) (q:∀r H',Same H H'->SqT K H' r ((bu d).map V.str)->Q (.ref r) H'):spSaidBy K vs H Q E
theorem a7d (S:List Str):(bK S).map (fun kv=>kV kv.1)=S.map V.str:=by unfold bK;rw[List.map_map];rfl
theorem a0p {S:List Str}{x:Str}(h:S.Nodup):(addL S x).Nodup:=by
 unfold addL
 split
 . exact h
 . rename_i hn
   exact List.nodup_append.mpr ⟨h,List.pairwise_singleton _ _,fun y hy z hz e=>hn (by rw[<- List.mem_singleton.mp hz,<- e];exact hy)⟩
theorem vw {S:List Str}{x:Str}:(addL S x).length<=S.length+1:=by
 unfold addL;split
 . omega
 . rw[List.length_append,List.length_singleton];omega
structure SaidS (S:List Str) (ws:List Str):Prop where
 nd:S.Nodup
 mem:∀y,y∈S↔y∈ws
theorem SaidS.add {S ws:List Str}{x:Str}(h:SaidS S ws):SaidS (addL S x) (ws++[x]):=⟨a0p h.nd,fun y=>by rw[a6c,h.mem,List.mem_append,List.mem_singleton]⟩
noncomputable def gr (ps:List Str) (res:Str) (ds:List Dd):List Str:=ps++[res]++ds.flatMap bu
inductive spSaid (K:PySem.W.Frag) (vs:List V) (H:Hp) (Q:VK) (E:XK):Prop
 | mk (l pt:Addr) (res:Str) (ts:List Addr) (ds:List Dd) (ps xs:List Str) (h0:vs=[.ref l,.ref pt,.str res]) (h1:H l=some (.lst (ts.map V.ref))) (h2:RowsX H ts ds) (h3:ds.length<=30) (h4:SqT K H pt (ps.map V.str)) (h5:ps.length<=10) (h6:xs.length<=20) (h7:∀y∈gr ps res ds,y = "" \/ y = "nil" \/ y∈xs)
     (q:∀zl zs H',Same H H'->H' zl=some (.lst ((zs:List Str).map V.str))->zs.Nodup->(∀y,y∈zs↔y ≠ "" /\ y ≠ "nil" /\ y∈gr ps res ds)->Q (.ref zl) H'):spSaid K vs H Q E
inductive S1 (K:PySem.W.Frag) (H0:Hp) (l pt fd u:Addr) (res:Str) (ws:List Str) (i:Nat) (σ:St) (H:Hp):Prop
 | mk (S:List Str) (z4:Option V) (e:Same H0 H) (hu:SqT K H u (ws.map V.str)) (hS:SaidS S (ws.take i)) (k:H fd=some (.dK (bK S))) (hl:S.length<=i) (hσ:σ=[some (.ref l),some (.ref pt),some (.str res),some (.ref fd),z4,none])
inductive S2 (H0:Hp) (l pt fd:Addr) (res:Str) (ws:List Str) (ds:List Dd) (i:Nat) (σ:St) (H:Hp):Prop
 | mk (S:List Str) (z4 z5:Option V) (e:Same H0 H) (hS:SaidS S (ws++(ds.take i).flatMap bu)) (k:H fd=some (.dK (bK S))) (hl:S.length<=20+3*i) (hσ:σ=[some (.ref l),some (.ref pt),some (.str res),some (.ref fd),z4,z5])
inductive S3 (K:PySem.W.Frag) (H0:Hp) (l pt fd u t:Addr) (res:Str) (ws:List Str) (ds:List Dd) (i:Nat) (d:Dd) (j:Nat) (σ:St) (H:Hp):Prop
 | mk (S:List Str) (z4:Option V) (e:Same H0 H) (hu:SqT K H u ((bu d).map V.str)) (hS:SaidS S (ws++(ds.take i).flatMap bu++(bu d).take j)) (k:H fd=some (.dK (bK S))) (hl:S.length<=20+3*i+j) (hσ:σ=[some (.ref l),some (.ref pt),some (.str res),some (.ref fd),z4,some (.ref t)])
theorem i6 {K:PySem.W.Frag}{H H':Hp}{a:Addr}{xs:List V}(h:SqT K H a xs) (k:∀o,H a=some o->(∀C d f,o≠.ins C d f)->(∀kvs,o≠.dK kvs)->H' a=some o):SqT K H' a xs:=by
 rcases h with (h|⟨o,h⟩)|h
 . exact .inl (.inl (k _ h (fun _ _ _ z=>by cases z) (fun _ z=>by cases z)))
 . exact .inl (.inr ⟨o,k _ h (fun _ _ _ z=>by cases z) (fun _ z=>by cases z)⟩)
 . exact .inr h
theorem vy {K:PySem.W.Frag}{H:Hp}{d b:Addr}{kvs kvs':List (Key×V)}{zs:List V}(hd:H d=some (.dK kvs)) (h:SqT K H b zs):SqT K (upd H d (.dK kvs')) b zs:=i6 h fun o h1 h2 h3=>by rw[ac (fun z=>by rw[z,hd] at h1;cases h1;exact h3 _ rfl)];exact h1
theorem jk {α:Type}{l:List α}{i:Nat}{x:α}(h:l[i]? = some x):l.take (i+1)=l.take i++[x]:=by rw[List.take_succ,h];rfl
theorem lx:∀{S xs:List Str},S.Nodup->(∀y∈S,y∈xs)->S.length<=xs.length
 | [],_,_,_=>Nat.zero_le _
 | a::S,xs,hn,hs=>by
   have ha:=hs a List.mem_cons_self
   have h1:=lx (S:=S) (xs:=xs.erase a) (List.nodup_cons.mp hn).2 fun y hy=>(List.mem_erase_of_ne (fun e=>(List.nodup_cons.mp hn).1 (by rw[<- e];exact hy))).mpr (hs y (List.mem_cons_of_mem _ hy))
   rw[List.length_erase_of_mem ha] at h1
   have h2:=List.length_pos_of_mem ha
   rw[List.length_cons];omega
noncomputable def kd (y:Str):Bool := !decide (V.str y=V.str "") && !decide (V.str y=V.str "nil")
theorem a1t {y:Str}:kd y=true↔y ≠ "" /\ y ≠ "nil" := by
 unfold kd
 rw[Bool.and_eq_true,Bool.not_eq_true',Bool.not_eq_true',decide_eq_false_iff_not,decide_eq_false_iff_not]
 exact⟨fun⟨a,b⟩=>⟨fun z=>a (congrArg V.str z),fun z=>b (congrArg V.str z)⟩,fun⟨a,b⟩=>⟨fun z=>a (V.str.inj z),fun z=>b (V.str.inj z)⟩⟩
theorem sy (d:Dd):(bu d).length<=3:=by cases d<;>simp[bu]
theorem scSaidBy:FnScope ["_law_deed"] ["_law_deed"] (ao rn):=⟨rfl,rfl,rfl,by decide +kernel,rfl,by decide +kernel,by decide +kernel⟩
theorem a2q (C:Con K mg w) (F:Fun K "_law_said_by" "_law_said_by" rn f fd):FnOk P w K mg base CX0 1 f fd ["_law_deed"] (spSaidBy K):=by
 refine F.okQ scSaidBy (fun vs H Q E h=>?_) (fun cdv A outer s0 H vs Q E hr h=>?_)
 . obtain⟨_,_,rfl,_⟩:=h;rfl
 obtain⟨t,d,rfl,h1,q⟩:=h
 have nd:=scSaidBy.nd
 refine⟨_,ae (b6 (ar be (ah (ixTK (K:=K) rfl) (qv 0) ab (fun _ _=>rfl)) b0 (ax _)) (ag (av (bz (oh (K:=K) rfl) (qv 0) (cb ab) (cb ab)))) b9)
   (ae (b6 (ar be (ah (ixTK (K:=K) rfl) (qv 0) ab (fun _ _=>rfl)) b0 (ax _)) (ag (av (bp (aw (ah (ixTK (K:=K) rfl) (qv 0) ab (fun _ _=>rfl)) (aw (ah (ixTK (K:=K) rfl) (qv 0) ab (fun _ _=>rfl)) aa))))) b9)
   (ag (av (bz (oh (K:=K) rfl) (qv 0) (cb ab) cy)))),?_⟩
 obtain⟨⟨r1,r2,r3,r4⟩,w1,w2,w3⟩:=a7z
 have rest:∀(wd:Str) (us:List V),H t=some (.tup (.str wd::us))->us=(bu d).map V.str->wd ≠ "write" -> tSeq (tIfS (qd (tOp rEq (tOp (rIxT K) (tVar 0) (tC (.int 0))) (tC (.str "write")))) (tRet (tTup (bj (tOp (rIxT K) (tVar 0) (tC (.int 1))) (bj (tOp (rIxT K) (tVar 0) (tC (.int 3))) tNil)))) qa) (tRet (tSl (a1a K) (tVar 0) (a03 (tC (.int 1))) sx)) { nx:=fun x H'=>Q V.non H',rt:=Q } [some (.ref t)] H:=fun wd us ht hus hw=>by
   refine⟨_,rfl,t,_,0,_,rfl,rfl,SqT.of ht,at0,rfl,_,rfl,iteB (fun c=>absurd (V.str.inj (of_decide_eq_true c)) hw) (fun _=>?_)⟩
   refine⟨_,rfl,_,rfl,t,_,rfl,SqT.of ht,fun r H' e hr'=>q r H' e ?_⟩
   have ec:cutV (V.str wd::us) (some 1) none=us:=a6d _ 1
   rw[ec,hus] at hr'
   exact hr'
 cases d with
 | read x y fld =>
   refine⟨_,rfl,t,_,0,_,rfl,rfl,SqT.of h1,at0,rfl,_,rfl,iteB (fun _=>?_) (fun c=>absurd c (by decide +kernel))⟩
   exact⟨_,rfl,_,rfl,_,rfl,t,_,rfl,SqT.of h1,fun r H' e hr'=>q r H' e hr'⟩
 | write y fld e =>
   refine⟨_,rfl,t,_,0,_,rfl,rfl,SqT.of h1,at0,rfl,_,rfl,iteB (fun c=>absurd (V.str.inj (of_decide_eq_true c)) r2) (fun _=>?_)⟩
   refine⟨_,rfl,t,_,0,_,rfl,rfl,SqT.of h1,at0,rfl,_,rfl,iteB (fun _=>?_) (fun c=>absurd c (by decide +kernel))⟩
   exact⟨_,rfl,t,_,1,_,rfl,rfl,SqT.of h1,rfl,_,rfl,t,_,3,_,rfl,rfl,SqT.of h1,rfl,(show 2<=sizeLine by decide),fun r hr'=>q r _ (ad hr' _) (SqT.of a0)⟩
 | set x e=>exact⟨_,rfl,t,_,0,_,rfl,rfl,SqT.of h1,at0,rfl,_,rfl,iteB (fun c=>absurd (V.str.inj (of_decide_eq_true c)) r1) (fun _=>rest "set" _ h1 rfl w1)⟩
 | new x e g=>exact⟨_,rfl,t,_,0,_,rfl,rfl,SqT.of h1,at0,rfl,_,rfl,iteB (fun c=>absurd (V.str.inj (of_decide_eq_true c)) r3) (fun _=>rest "new" _ h1 rfl w2)⟩
 | free y=>exact⟨_,rfl,t,_,0,_,rfl,rfl,SqT.of h1,at0,rfl,_,rfl,iteB (fun c=>absurd (V.str.inj (of_decide_eq_true c)) r4) (fun _=>rest "free" _ h1 rfl w3)⟩
theorem scSaid:FnScope ["_law_deeds_here","_law_params","_law_result","_law_found","_law_name","_law_deed"] ["_law_deeds_here","_law_params","_law_result"] (ao a06):=⟨rfl,rfl,rfl,by decide +kernel,rfl,by decide +kernel,by decide +kernel⟩
theorem a7c (C:Con K mg w) (F:Fun K "_law_said" "_law_said" a06 f fd) (GS:FnOk P w K mg base CX0 1 gS dS ["_law_deed"] (spSaidBy K)) (cS:Cal K mg "_law_said_by" gS dS ["_law_deed"]):FnOk P w K mg base CX0 2 f fd ["_law_deeds_here","_law_params","_law_result"] (spSaid K):=by
 refine F.okQ scSaid (fun vs H Q E h=>?_) (fun cdv A outer s0 H vs Q E hr h=>?_)
 . obtain⟨_,_,_,_,_,_,_,rfl,_⟩:=h;rfl
 obtain⟨l,pt,res,ts,ds,ps,xs,rfl,h1,h2,h3,h4,h5,h6,h7,q⟩:=h
 have nd:=scSaid.nd
 have hu1:=ft hr
 refine⟨_,ae (aq (i:=3) nd rfl (Or.inl rfl) se)
   (ae (de PassesOwn.never rfl (rf (K:=K) rfl (ap v5 (qv 1) (bp (af (qv 2) aa)))) (bq (i:=4) nd rfl (Or.inl rfl)) (ag (cg hu1 (qv 3) (qv 4) fb)))
   (ae (de PassesOwn.never rfl (uz (K:=K) rfl (qv 0)) (bq (i:=5) nd rfl (Or.inl rfl)) (ag (de PassesOwn.never rfl (rf (K:=K) rfl (ak GS hr rfl cS.name cS.keep cS.bind .nil am (af (qv 5) aa))) (bq (i:=4) nd rfl (Or.inl rfl)) (ag (cg hu1 (qv 3) (qv 4) fb)))))
   (ag (av (ba (a05 (K:=K) rfl) rfl C.sorted PyProof.Rows.boot_sorted (cn (a7g (gw (ph (qv 3)) (fun _ _ _ _=>(mn (QW.qt (li (ar mx (qv 0) b0 (ax _)) (jp (ar mx (qv 0) b0 (ax _))))))) (fun _ _ _ _=>(qv 0)))) aa)))))),?_⟩
 intro fd0 hfd0
 have s1:=ad hfd0 (.dK [])
 have k1:(upd H fd0 (.dK [])) fd0=some (.dK (bK [])):=a0
 have kp:∀{G:Hp} {o:HO},Same H G->Same H (upd G fd0 o):=fun {G o} e b u z=>by rw[ac (fun t=>by rw[t,hfd0] at z;cases z)];exact e b u z
 dsimp only[bi]
 generalize upd H fd0 (.dK [])=H1 at s1 k1 |-
 refine au (a:=tFor _ _ _) fun F1 hF1 hR1 _=>?_
 refine⟨_,rfl,_,rfl,(show 1<=sizeLine by decide),fun p hp=>?_⟩
 have s2:=ad hp (.tup [.str res])
 have k2:(upd H1 p (.tup [.str res])) p=some (.tup [.str res]):=a0
 generalize upd H1 p (.tup [.str res])=H2 at s2 k2 |-
 refine⟨pt,p,_,_,rfl,rfl,(s1.trans s2).seqT h4,SqT.of k2,(by rw[List.length_map];exact Nat.le_trans (Nat.add_le_add_right h5 1) (by decide)),fun u H3 s3 hu3=>?_⟩
 have hu3':SqT K H3 u ((ps++[res]).map V.str):=by rw[List.map_append];exact hu3
 have s03:=(s1.trans s2).trans s3
 have k3:=s3 _ _ (s2 _ _ k1)
 clear hu3 s1 s2 s3 k1 k2 hp
 refine⟨u,rfl,⟨_,hu3'⟩,?_⟩
 have hwl:(ps++[res]).length<=11:=by rw[List.length_append,List.length_singleton];omega
 refine yl (xs:=(ps++[res]).map V.str) (S1 K H l pt fd0 u res (ps++[res])) ⟨[],none,s03,hu3',⟨List.nodup_nil,fun y=>by simp⟩,k3,Nat.le_refl _,rfl⟩ ?_ ?_ ?_
 . rintro i σ G hi ⟨S,z4,e,hu,hS,k,hl,rfl⟩
   exact hu
 . rintro i x σ G hx ⟨S,z4,e,hu,hS,k,hl,rfl⟩
   rw[List.getElem?_map] at hx
   obtain⟨y,hy,rfl⟩:=Option.map_eq_some_iff.mp hx
   have hil:=(List.getElem?_eq_some_iff.mp hy).1
   refine⟨_,rfl,_,rfl,fd0,_,rfl,DPut.k (k:=Sum.inr y) k (bx (by unfold bK;rw[List.length_map];omega)),?_⟩
   rw[a3i]
   refine⟨addL S y,some (.str y),kp e,vy k hu,?_,a0,Nat.le_trans vw (Nat.succ_le_succ hl),rfl⟩
   rw[jk hy]
   exact hS.add
 rintro σ G ⟨S,z4,e,hu,hS,k,hl,rfl⟩
 refine hF1 _ _ ?_
 clear hF1 hR1 hu k3 s03 hu3'
 rw[List.length_map] at hS hl
 rw[List.take_length] at hS
 generalize hws:ps++[res]=ws at hS hl hwl
 refine au (a:=tFor _ _ _) fun F2 hF2 hR2 _=>?_
 refine⟨_,rfl,l,rfl,⟨_,SqL.of (e _ _ h1)⟩,?_⟩
 have hlen:=Paired.length h2
 refine gv (xs:=ts.map V.ref) (S2 H l pt fd0 res ws ds) ⟨S,z4,none,e,(by simpa using hS),k,(by omega),rfl⟩ ?_ ?_ ?_
 . rintro i σ G2 hi ⟨S,z4,z5,e,hS,k,hl,rfl⟩
   exact SqL.of (e _ _ h1)
 . rintro i x σ G2 hx ⟨S,z4,z5,e,hS,k,hl,rfl⟩
   rw[List.getElem?_map] at hx
   obtain⟨t,ht,rfl⟩:=Option.map_eq_some_iff.mp hx
   have hit:=(List.getElem?_eq_some_iff.mp ht).1
   have hid:i<ds.length:=by omega
   obtain⟨d,hd⟩:∃d,ds[i]? = some d:=⟨_,List.getElem?_eq_getElem hid⟩
   have htd:=Paired.at2 h2 ht hd
   refine⟨_,rfl,.mk t d rfl (e _ _ htd) fun r G3 e3 hr3=>?_⟩
   refine⟨r,rfl,⟨_,hr3⟩,?_⟩
   refine yl (xs:=(bu d).map V.str) (S3 K H l pt fd0 r t res ws ds i d) ⟨S,z4,e.trans e3,hr3,(by rw[List.take_zero,List.append_nil];exact hS),e3 _ _ k,hl,rfl⟩ ?_ ?_ ?_
   . rintro j σ G4 hj ⟨S,z4,e,hu,hS,k,hl,rfl⟩
     exact hu
   . rintro j x σ G4 hx ⟨S,z4,e,hu,hS,k,hl,rfl⟩
     rw[List.getElem?_map] at hx
     obtain⟨y,hy,rfl⟩:=Option.map_eq_some_iff.mp hx
     have hjl:=(List.getElem?_eq_some_iff.mp hy).1
     have h3d:=sy d
     refine⟨_,rfl,_,rfl,fd0,_,rfl,DPut.k (k:=Sum.inr y) k (bx (by unfold bK;rw[List.length_map];omega)),?_⟩
     rw[a3i]
     refine⟨addL S y,some (.str y),kp e,vy k hu,?_,a0,Nat.le_trans vw (Nat.succ_le_succ hl),rfl⟩
     rw[jk hy,<- List.append_assoc]
     exact hS.add
   rintro σ G4 ⟨S,z4,e,hu,hS,k,hl,rfl⟩
   have h3d:=sy d
   rw[List.length_map] at hS hl
   refine⟨S,z4,_,e,?_,k,(by omega),rfl⟩
   rw[jk hd,List.flatMap_append,List.flatMap_singleton,<- List.append_assoc]
   rw[List.take_length] at hS
   exact hS
 rintro σ G2 ⟨S,z4,z5,e,hS,k,hl,rfl⟩
 refine hF2 _ _ ?_
 clear hF2 hR2
 rw[List.length_map,hlen,List.take_length,<- hws] at hS
 change SaidS S (gr ps res ds) at hS
 refine⟨_,rfl,fd0,_,rfl,k,fun od nf=>?_⟩
 have hJ:JSeq (Itk fd0 od (bK S)) (fun H=>H fd0=some (.frz od (.dK (bK S)))) (S.map V.str):=by rw[<- a7d];exact a83
 refine qm S kd hJ a0 (by rw[List.length_map,hlen] at hl;omega) (fun n hn G3 e3 Q' q'=>?_) (fun n G3 Q' q'=>⟨_,rfl,q'⟩) fun D G3 hD e3 hd3=>?_
 . have a1:=q' G3 (Same.refl _)
   unfold kd at a1
   refine⟨_,rfl,rfl,_,rfl,iteB (fun c=>⟨_,rfl,rfl,_,rfl,?_⟩) (fun c=>?_)⟩
   . rw[c,Bool.true_and] at a1;exact a1
   . rw[c,Bool.false_and] at a1;exact a1
 have hfd:G3 fd0=some (.frz od (.dK (bK S))):=e3 _ _ a0
 have nD:D≠fd0:=fun z=>by rw[z,a0] at hD;cases hD
 have hmem:∀y,y∈S.filter kd↔y ≠ "" /\ y ≠ "nil" /\ y∈gr ps res ds:=fun y=>by
   rw[List.mem_filter,a1t,hS.mem]
   exact⟨fun⟨a,b,c⟩=>⟨b,c,a⟩,fun⟨b,c,a⟩=>⟨a,b,c⟩⟩
 have hnd:(S.filter kd).Nodup:=hS.nd.filter _
 have hle:(S.filter kd).length<=xs.length:=lx hnd fun y hy=>by
   obtain⟨a,b,c⟩:=(hmem y).mp hy
   rcases h7 y c with z|z|z
   . exact absurd z a
   . exact absurd z b
   . exact z
 have e4:Same H (upd G3 fd0 (.dK (bK S))):=kp fun b u z=>e3 _ _ (by rw[ac (fun t=>by rw[t,hfd0] at z;cases z)];exact e _ _ z)
 refine⟨fd0,od,.dK (bK S),hfd,nf,.mk D _ rfl (SqL.of (by rw[ac nD];exact hd3)) (by omega) fun zp zs hz pm so=>q zp zs _ (e4.trans (ad hz _)) a0 (pm.nodup_iff.mpr hnd) fun y=>(pm.mem_iff).trans (hmem y)⟩
noncomputable abbrev rp:Stmt:=top 41
theorem memR {α β:Type}{F:β->Prop}:∀{l₁:List α}{l₂:List β},Paired (fun _ y=>F y) l₁ l₂->∀{y},y∈l₂->F y
 | _,_,.nil,_,h=>nomatch h
 | _,_,.cons h t,y,hy=>by
   rcases List.mem_cons.mp hy with z|z
   . rw[z];exact h
   . exact memR t z
inductive spValues (K:PySem.W.Frag) (vs:List V) (H:Hp) (Q:VK) (E:XK):Prop
 | mk (a tl sl:Addr) (ns ss:List Int) (zs:List Str) (st:Nat) (h0:vs=[.ref a,.int (st:Int),.ref tl,.ref sl]) (hS:SqL K H a (ns.map V.int)) (h1:H tl=some (.lst (zs.map V.str))) (h2:zs.Nodup) (h3:zs.length<=6) (h4:H sl=some (.lst (ss.map V.int))) (h5:ss.length=6)
     (q:∀d f H',Same H H'->H d=none->H' d=some (.dK (vK zs f))->Q (.ref d) H'):spValues K vs H Q E
inductive FeedR (G:Hp) (D:Addr) (x y:V) (H:Hp):Prop
 | mk (l:Addr) (n:Int) (h1:y=.ref l) (h2:l≠D) (h3:G l=none) (h4:H l=some (.lst [.int n]))
inductive VL (G:Hp) (a tl sl fl d:Addr) (st:Nat) (zs:List Str) (ys:List V) (i:Nat) (σ:St) (H:Hp):Prop
 | mk (f:Str->Int) (z6:Option V) (e:Same G H) (k:H d=some (.dK (vK (zs.take i) f))) (kf:H fl=some (.lst ys)) (hf:∀y∈ys,FeedR G fl .non y H) (hσ:σ=[some (.ref a),some (.int (st:Int)),some (.ref tl),some (.ref sl),some (.ref fl),some (.ref d),z6])
theorem scValues:FnScope ["_law_script","_law_start","_law_told","_law_spots","_law_feeds","_law_values_here","_law_k"] ["_law_script","_law_start","_law_told","_law_spots"] (ao rp):=⟨rfl,rfl,rfl,by decide +kernel,rfl,by decide +kernel,by decide +kernel⟩
theorem a1z (C:Con K mg w) (F:Fun K "_law_values" "_law_values" rp f fd) (GC:FnOk P w K mg base CX0 1 gC dC ["_law_script","_law_k"] (qh K)) (cC:Cal K mg "_law_cell_at" gC dC ["_law_script","_law_k"]) (GF:FnOk P w K mg base CX0 2 gF dF ["_law_cell","_law_k"] ql) (cF:Cal K mg "_law_fed" gF dF ["_law_cell","_law_k"]) (GV:FnOk P w K mg base CX0 2 gV dV ["_law_digits","_law_spots"] spValue) (cV:Cal K mg "_law_value" gV dV ["_law_digits","_law_spots"]):FnOk P w K mg base CX0 3 f fd ["_law_script","_law_start","_law_told","_law_spots"] (spValues K):=by
 refine F.okQ scValues (fun vs H Q E h=>?_) (fun cdv A outer s0 H vs Q E hr h=>?_)
 . obtain⟨_,_,_,_,_,_,_,rfl,_⟩:=h;rfl
 obtain⟨a,tl,sl,ns,ss,zs,st,rfl,hS,h1,h2,h3,h4,h5,q⟩:=h
 have nd:=scValues.nd
 have hu1:=ft hr
 have hr1:=hr.mono (j:=1) (by omega)
 refine⟨_,ae (wx ["_law_j","_law_start","_law_script"] [1,0] (i:=4) nd rfl (Or.inl rfl) (fi rfl C.range (b8 aa)) (fun _ _ _ _=>ii) (fun _ _ _ _=>(ak GF hr rfl cF.name cF.keep cF.bind .nil am (az (ak GC hr1 rfl cC.name cC.keep cC.bind .nil am (af (qv 2) (ce (ap bh (qv 1) (qv 0)) aa))) (ce (ap bh ab (qv 0)) aa)))))
   (ae (aq (i:=5) nd rfl (Or.inl rfl) se)
   (ae (de PassesOwn.never rfl (fi rfl C.range (az (ba (lenK (K:=K) rfl) rfl C.len PySem.boot_len (af (qv 2) aa)) aa)) (bq (i:=6) nd rfl (Or.inl rfl)) (ag (cg hu1 (qv 5) (ah (ixK (K:=K) rfl) (qv 2) (qv 6) (fun _ _=>rfl)) (ak GV hr rfl cV.name cV.keep cV.bind .nil am (aw (ah (ixK (K:=K) rfl) (qv 4) (ap fc (qv 6) ab) (fun _ _=>rfl)) (af (qv 3) aa))))))
   (ag (av (qv 5))))),?_⟩
 refine au (a:=tAsg _ _) fun A1 hA1 _ _=>?_
 refine⟨_,rfl,(by decide),(by decide),?_⟩
 refine x6 (nums 0 (3:Int).toNat) (fun _=>true) (fun D x y G=>FeedR H D .non y G) xk trivial (by decide) (fun D x y G G' ⟨l,n,e1,e2,e3,e4⟩ s=>⟨l,n,e1,e2,e3,s _ _ e4 e2⟩) (fun x hx G e Q' q'=>q' G (Same.refl _)) (fun D x hx _ G e hDn Q' q'=>?_) fun fl H1 ys hfl s1 k1 hp1=>?_
 . obtain⟨k,hk,rfl⟩:∃k:Nat,k<3/\x=.int (0+(k:Int)):=by
     unfold nums at hx
     obtain⟨k,hk,rfl⟩:=List.mem_map.mp hx
     exact⟨k,List.mem_range.mp hk,rfl⟩
   have ei:((st:Int)+(0+(k:Int)))=((st+k:Nat):Int):=by omega
   have ej:((11:Int)+(0+(k:Int)))=((11+k:Nat):Int):=by omega
   refine⟨_,rfl,_,rfl,_,rfl,_,_,rfl,rfl,?_⟩
   refine⟨a,ns,st+k,congrArg (fun z:Int=>[V.ref a,V.int z]) ei,e.seq hS,_,rfl,_,_,rfl,rfl,?_⟩
   refine⟨_,11+k,congrArg (fun z:Int=>[V.int (gb ns (st+k)),V.int z]) ej,fun l hl=>q' _ _ (ad hl _) ⟨l,_,rfl,fun z=>hDn (by rw[<- z];exact hl),e.free hl,a0⟩⟩
 refine hA1 _ _ ?_
 clear hA1
 have hyl:ys.length=3:=by
   have:=Paired.length hp1
   rw[<- this];rfl
 have hfe:∀y∈ys,FeedR H fl .non y H1:=fun y hy=>by
   exact memR hp1 hy
 refine au (a:=tAsg _ _) fun A2 hA2 _ _=>?_
 intro d hd
 have s2:=s1.trans (ad hd (.dK []))
 have k2:(upd H1 d (.dK [])) d=some (.dK (vK (zs.take 0) fun _=>0)):=a0
 have kf2:(upd H1 d (.dK [])) fl=some (.lst ys):=ad hd _ _ _ k1
 have hf2:∀y∈ys,FeedR H fl .non y (upd H1 d (.dK [])):=fun y hy=>by
   obtain⟨l,n,e1,e2,e3,e4⟩:=hfe y hy
   exact⟨l,n,e1,e2,e3,ad hd _ _ _ e4⟩
 have nHd:=s1.free hd
 generalize upd H1 d (.dK [])=H2 at s2 k2 kf2 hf2 |-
 refine hA2 _ _ ?_
 clear hA2 hfe hp1 k1 hd s1
 refine au (a:=tFor _ _ _) fun F1 hF1 _ _=>?_
 have hnz:((zs.map V.str).length:Nat)=zs.length:=List.length_map _
 refine⟨_,rfl,tl,_,rfl,.inl (SqL.of (s2 _ _ h1)),?_⟩
 rw[hnz]
 refine⟨_,rfl,by omega,by omega,?_⟩
 refine gj (lo:=0) (n:=(zs.length:Int).toNat) (VL H a tl sl fl d st zs ys) ⟨_,none,s2,k2,kf2,hf2,rfl⟩ ?_ ?_
 . rintro i σ G hi ⟨f1,z6,e,k,kf,hf,rfl⟩
   have hi':i<zs.length:=by omega
   obtain⟨x,hx⟩:∃x,zs[i]? = some x:=⟨_,List.getElem?_eq_getElem hi'⟩
   have hj:i / 2<ys.length:=by omega
   obtain⟨y,hy⟩:∃y,ys[i / 2]? = some y:=⟨_,List.getElem?_eq_getElem hj⟩
   obtain⟨l,n,rfl,nl,nHl,kl⟩:=hf y (List.mem_of_getElem? hy)
   have nls:sl≠l:=fun z=>by rw[z,nHl] at h4;cases h4
   have ntl:tl≠l:=fun z=>by rw[z,nHl] at h1;cases h1
   have ndl:d≠l:=fun z=>by rw[z,kl] at k;cases k
   refine⟨_,rfl,_,rfl,_,_,rfl,rfl,(show CDiv _ 2 from⟨by decide,by decide⟩),fl,_,_,.ref l,rfl,rfl,SqL.of kf,?_,_,rfl,?_⟩
   . have e2:(0+(i:Int)) / 2=((i / 2:Nat):Int):=by omega
     rw[e2];exact ca hy
   refine .mk l sl n ss rfl kl (e _ _ h4) h5 fun v n' G1 s k'=>?_
   have e1:Same H G1:=fun b o hb=>s _ _ (e _ _ hb) (fun z=>by rw[z,nHl] at hb;cases hb)
   have kd1:=s _ _ k ndl
   have kf1:=s _ _ kf nl.symm
   refine⟨_,rfl,_,rfl,_,rfl,tl,_,_,.str x,rfl,rfl,SqL.of (e1 _ _ h1),?_,d,_,rfl,DPut.k (k:=Sum.inr x) kd1 (bx (by unfold vK;rw[List.length_map,List.length_take];omega)),?_⟩
   . rw[Int.zero_add];exact ca (by rw[List.getElem?_map,hx];rfl)
   rw[a1x (fun hm=>?_)]
   . refine⟨upF f1 x v,_,fun b o hb=>?_,by rw[jk hx];exact a0,?_,fun y' hy'=>?_,rfl⟩
     . rw[ac (fun z=>by rw[z,nHd] at hb;cases hb)];exact e1 _ _ hb
     . rw[ac (fun z=>by rw[z,kd1] at kf1;cases kf1)];exact kf1
     . obtain⟨l2,n2,r1,r2,r3,r4⟩:=hf y' hy'
       by_cases z:l2=l
       . exact⟨l2,n',r1,r2,r3,by rw[z,ac ndl.symm];exact k'⟩
       . exact⟨l2,n2,r1,r2,r3,by rw[ac (fun t=>by rw[t,k] at r4;cases r4)];exact s _ _ r4 z⟩
   . have hn:(zs.take i++[x]).Nodup:=by rw[<- jk hx];exact h2.sublist (List.take_sublist _ _)
     exact (List.nodup_append.mp hn).2.2 x hm x (List.mem_singleton.mpr rfl) rfl
 rintro σ G ⟨f1,z6,e,k,kf,hf,rfl⟩
 refine hF1 _ _ ?_
 rw[Int.toNat_natCast,List.take_length] at k
 exact⟨_,rfl,q d f1 G e nHd k⟩
noncomputable abbrev a0a:Stmt:=top 42
abbrev Hs:=List (Int×Int×Int)
noncomputable def putA (hs:Hs) (x:Int) (c:Int×Int):Hs:=if x∈hs.map (·.1) then hs.map (fun p=>if p.1=x then (p.1,c) else p) else hs++[(x,c)]
noncomputable def nilF (f:Str->Int):Str->Int:=upF f "nil" 0
noncomputable def fg:Dd->(Str->Int)->Hs->Int->Option ((Str->Int)×Hs×Int)
 | .set x e,f,hs,g=>some (upF f x (nilF f e),hs,g)
 | .new x e e',f,hs,g=>some (upF f x (g+1),putA hs (g+1) (nilF f e,nilF f e'),g+1)
 | .read x y fld,f,hs,g=>(hs.lookup (nilF f y)).map fun c=>(upF f x (if fld = "second" then c.2 else c.1),hs,g)
 | .free y,f,hs,g=>(hs.lookup (nilF f y)).map fun _=>(f,hs.filter (fun p=>decide (p.1≠nilF f y)),g)
 | .write y fld e,f,hs,g=>(hs.lookup (nilF f y)).map fun c=>(f,putA hs (nilF f y) (if fld = "first" then (nilF f e,c.2) else (c.1,nilF f e)),g)
noncomputable def CellsA (H:Hp) (hp:List (Int×Addr)) (hs:Hs):Prop:=Paired (fun p c=>p.1=c.1/\H p.2=some (.tup [.int c.2.1,.int c.2.2])) hp hs
inductive HA (H:Hp) (d:Addr) (hs:Hs):Prop
 | mk (hp:List (Int×Addr)) (h1:H d=some (.dK (hK hp))) (h2:CellsA H hp hs)
theorem CellsA.keep {H H':Hp}{hp:List (Int×Addr)}{hs:Hs}(h:CellsA H hp hs) (e:∀b vs,H b=some (.tup vs)->H' b=some (.tup vs)):CellsA H' hp hs:=Paired.mapP h fun _ _ z=>⟨z.1,e _ _ z.2⟩
theorem HA.same {H H':Hp}{d:Addr}{hs:Hs}(h:HA H d hs) (e:Same H H'):HA H' d hs:=by obtain⟨hp,h1,h2⟩:=h;exact⟨hp,e _ _ h1,h2.keep fun b vs=>e b _⟩
theorem HA.put {H:Hp}{d a:Addr}{hs:Hs}{kvs:List (Key×V)}(h:HA H d hs) (ha:H a=some (.dK kvs)) (n:d≠a) (kvs':List (Key×V)):HA (upd H a (.dK kvs')) d hs:=by
 obtain⟨hp,h1,h2⟩:=h
 exact⟨hp,by rw[ac n];exact h1,h2.keep fun b vs hb=>by rw[ac (fun z=>by rw[z,ha] at hb;cases hb)];exact hb⟩
theorem nj {H:Hp}:∀{hp:List (Int×Addr)}{hs:Hs},CellsA H hp hs->hp.map (·.1)=hs.map (·.1)
 | _,_,.nil=>rfl
 | _,_,.cons h t=>by rw[List.map_cons,List.map_cons,h.1,nj t]
theorem dt {H:Hp}{i:Int}:∀{hp:List (Int×Addr)}{hs:Hs},CellsA H hp hs->(hs.lookup i=none/\valV (hK hp) (Sum.inl i)=none)\/∃c r,hs.lookup i=some c/\valV (hK hp) (Sum.inl i)=some (.ref r)/\H r=some (.tup [.int c.1,.int c.2])
 | _,_,.nil=>.inl ⟨rfl,rfl⟩
 | p::hp,(c1,c2)::hs,.cons h t=>by
   by_cases e:p.1=i
   . refine .inr ⟨c2,p.2,?_,gh (show (Sum.inl p.1:Key)=Sum.inl i by rw[e]),h.2⟩
     rw[List.lookup_cons,show (i == c1)=true from beq_iff_eq.mpr (by rw[<- e];exact h.1)]
   . have e1:valV (hK (p::hp)) (Sum.inl i)=valV (hK hp) (Sum.inl i):=by
       unfold valV hK
       rw[List.map_cons,List.find?_cons,decide_eq_false (fun z=>e (Sum.inl.inj z))]
     rw[List.lookup_cons,show (i == c1)=false from beq_eq_false_iff_ne.mpr (fun z=>e (by rw[z];exact h.1)),e1]
     exact dt t
theorem a00 {H:Hp}{i:Int}{r:Addr}{c:Int×Int}(hr:H r=some (.tup [.int c.1,.int c.2])) {hp:List (Int×Addr)}{hs:Hs}(h:CellsA H hp hs):CellsA H (putH hp i r) (putA hs i c):=by
 unfold putH putA
 rw[nj h]
 split
 . rename_i hm
   clear hm
   induction h with
   | nil=>exact .nil
   | @cons a b _ _ h t ih =>
     refine .cons ?_ ih
     by_cases e:b.1=i
     . dsimp only;rw[if_pos (h.1.trans e),if_pos e];exact⟨h.1,hr⟩
     . dsimp only;rw[if_neg (fun z=>e (h.1.symm.trans z)),if_neg e];exact h
 . exact Paired.snocP h ⟨rfl,hr⟩
theorem j6 {H:Hp}{i:Int}:∀{hp:List (Int×Addr)}{hs:Hs},CellsA H hp hs->CellsA H (hp.filter fun p=>decide (p.1≠i)) (hs.filter fun p=>decide (p.1≠i))
 | _,_,.nil=>.nil
 | p::hp,c::hs,.cons h t=>by
   rw[List.filter_cons,List.filter_cons,h.1]
   split
   . exact .cons h (j6 t)
   . exact j6 t
theorem HA.put1 {H:Hp}{d r:Addr}{hs:Hs}{i:Int}{c:Int×Int}(hr:H r=some (.tup [.int c.1,.int c.2])) {hp:List (Int×Addr)}(h1:H d=some (.dK (hK hp))) (h:CellsA H hp hs):HA (upd H d (.dK (putK (hK hp) (Sum.inl i) (.ref r)))) d (putA hs i c):=by
 rw[a3h]
 exact⟨_,a0,(a00 hr h).keep fun b vs hb=>by rw[ac (fun z=>by rw[z,h1] at hb;cases hb)];exact hb⟩
theorem HA.drop1 {H:Hp}{d:Addr}{hs:Hs}{i:Int}{hp:List (Int×Addr)}(h1:H d=some (.dK (hK hp))) (h:CellsA H hp hs):HA (upd H d (.dK (ia (hK hp) (Sum.inl i)))) d (hs.filter fun p=>decide (p.1≠i)):=by
 rw[a8s]
 exact⟨_,a0,(j6 h).keep fun b vs hb=>by rw[ac (fun z=>by rw[z,h1] at hb;cases hb)];exact hb⟩
noncomputable def InZ (zs:List Str):Dd->Prop
 | .set x e=>x∈zs/\e∈zs++[("nil" : Str)]
 | .read x y fld=>x∈zs/\y∈zs++[("nil" : Str)]/\mj fld
 | .write y fld e=>y∈zs++[("nil" : Str)]/\mj fld/\e∈zs++[("nil" : Str)]
 | .new x e f=>x∈zs/\e∈zs++[("nil" : Str)]/\f∈zs++[("nil" : Str)]
 | .free y=>y∈zs++[("nil" : Str)]
inductive DoneR (H':Hp) (r vd hd:Addr) (zs:List Str) (d:Dd) (f:Str->Int) (hs:Hs) (g:Int):Prop
 | fell (h:fg d f hs g=none) (h1:H' r=some (.tup [.bl false,.int g])) (h2:H' vd=some (.dK (vK zs f))) (h3:HA H' hd hs)
 | did (f':Str->Int) (hs':Hs) (g':Int) (h:fg d f hs g=some (f',hs',g')) (h1:H' r=some (.tup [.bl true,.int g'])) (h2:H' vd=some (.dK (vK zs f'))) (h3:HA H' hd hs')
noncomputable def Kp2 (a b:Addr) (H H':Hp):Prop:=∀c u,H c=some u->c≠a->c≠b->H' c=some u
inductive spDone (K:PySem.W.Frag) (vs:List V) (H:Hp) (Q:VK) (E:XK):Prop
 | mk (t vd hd:Addr) (g:Int) (d:Dd) (zs:List Str) (f:Str->Int) (hs:Hs) (h0:vs=[.ref t,.ref vd,.ref hd,.int g]) (hne:vd≠hd) (h1:H t=some (.tup ((rowD d).map V.str))) (h2:InZ zs d) (h3:¬ ("nil" : Str)∈zs) (hl:zs.length<=6) (h4:H vd=some (.dK (vK zs f))) (h5:HA H hd hs) (h6:hs.length<=900)
     (q:∀r H',Kp2 vd hd H H'->DoneR H' r vd hd zs d f hs g->Q (.ref r) H'):spDone K vs H Q E
theorem scDone:FnScope ["_law_deed","_law_values_here","_law_heap_here","_law_great","_law_full","_law_spot","_law_first","_law_second"] ["_law_deed","_law_values_here","_law_heap_here","_law_great"] (ao a0a):=⟨rfl,rfl,rfl,by decide +kernel,rfl,by decide +kernel,by decide +kernel⟩
theorem a85 (C:Con K mg w) (F:Fun K "_law_done" "_law_done" a0a f fd):FnOk P w K mg base CX0 1 f fd ["_law_deed","_law_values_here","_law_heap_here","_law_great"] (spDone K):=by
 refine F.okQ scDone (fun vs H Q E h=>?_) (fun cdv A outer s0 H vs Q E hr h=>?_)
 . obtain⟨_,_,_,_,_,_,_,_,rfl,_⟩:=h;rfl
 obtain⟨t,vd,hd,g,d,zs,f',hs,rfl,hne,h1,h2,h3,hl,h4,h5,h6,q⟩:=h
 have nd:=scDone.nd
 have hu1:=ft hr
 refine⟨_,ae (aq (i:=4) nd rfl (Or.inl rfl) (b7 dz rfl C.dict PyProof.Rows.boot_dict (af (qv 1) aa)))
   (ae (cg hu1 (qv 4) b0 ab)
   (ae (b6 (ar be (ah (ixTK (K:=K) rfl) (qv 0) ab (fun _ _=>rfl)) b0 (ax _)) (ae (cg hu1 (qv 1) (ah (ixTK (K:=K) rfl) (qv 0) ab (fun _ _=>rfl)) (cw hu1 (qv 4) (ah (ixTK (K:=K) rfl) (qv 0) ab (fun _ _=>rfl)) (fun _ _=>rfl)))
   (ag (av (bp (ux (af (qv 3) aa)))))) b9)
   (ae (b6 (ar be (ah (ixTK (K:=K) rfl) (qv 0) ab (fun _ _=>rfl)) b0 (ax _)) (ae (cg hu1 (qv 2) (ap bh (qv 3) ab) (bp (aw (cw hu1 (qv 4) (ah (ixTK (K:=K) rfl) (qv 0) ab (fun _ _=>rfl)) (fun _ _=>rfl)) (aw (cw hu1 (qv 4) (ah (ixTK (K:=K) rfl) (qv 0) ab (fun _ _=>rfl)) (fun _ _=>rfl)) aa))))
   (ae (cg hu1 (qv 1) (ah (ixTK (K:=K) rfl) (qv 0) ab (fun _ _=>rfl)) (ap bh (qv 3) ab))
   (ag (av (bp (ux (ce (ap bh (qv 3) ab) aa))))))) b9)
   (ae (aq (i:=5) nd rfl (Or.inl rfl) (cw hu1 (qv 4) (ah (ixTK (K:=K) rfl) (qv 0) (ah (ixK (K:=K) rfl) (bc (b8 (b8 aa))) (b7 gz rfl C.int PyProof.Rows.boot_int (cn (jm be (ah (ixTK (K:=K) rfl) (qv 0) ab (fun _ _=>rfl)) b0 (ax _)) aa)) (fun _ _=>rfl)) (fun _ _=>rfl)) (fun _ _=>rfl)))
   (ae (b6 (tz hu1 (qv 5) (qv 2)) (ag (av (bp (ux (af (qv 3) aa))))) b9)
   (ae (jo (cw hu1 (qv 2) (qv 5) (fun _ _=>rfl)) (sd (bq (i:=6) nd rfl (Or.inl rfl)) (bq (i:=7) nd rfl (Or.inl rfl))))
   (ae (b6 (ar be (ah (ixTK (K:=K) rfl) (qv 0) ab (fun _ _=>rfl)) b0 (ax _)) (ag (cg hu1 (qv 1) (ah (ixTK (K:=K) rfl) (qv 0) ab (fun _ _=>rfl)) (ah (ixK (K:=K) rfl) (bc (af (qv 6) (af (qv 7) aa))) (b7 gz rfl C.int PyProof.Rows.boot_int (cn (jm be (ah (ixTK (K:=K) rfl) (qv 0) ab (fun _ _=>rfl)) b0 (ax _)) aa)) (fun _ _=>rfl)))) (ag (b6 (ar be (ah (ixTK (K:=K) rfl) (qv 0) ab (fun _ _=>rfl)) b0 (ax _)) (ag (dg (wf (qv 2) (qv 5)))) (ag (b6 (ar be (ah (ixTK (K:=K) rfl) (qv 0) ab (fun _ _=>rfl)) b0 (ax _)) (ag (cg hu1 (qv 2) (qv 5) (bp (aw (cw hu1 (qv 4) (ah (ixTK (K:=K) rfl) (qv 0) ab (fun _ _=>rfl)) (fun _ _=>rfl)) (af (qv 7) aa))))) (ag (cg hu1 (qv 2) (qv 5) (bp (af (qv 6) (aw (cw hu1 (qv 4) (ah (ixTK (K:=K) rfl) (qv 0) ab (fun _ _=>rfl)) (fun _ _=>rfl)) aa))))))))))
   (ag (av (bp (ux (af (qv 3) aa)))))))))))),?_⟩
 have w1:(("new" : Str) ≠ "set" /\ ("read" : Str) ≠ "set" /\ ("free" : Str) ≠ "set" /\ ("write" : Str) ≠ "set")/\(("read" : Str) ≠ "new" /\ ("free" : Str) ≠ "new" /\ ("write" : Str) ≠ "new")/\(("free" : Str) ≠ "read" /\ ("write" : Str) ≠ "read" /\ ("write" : Str) ≠ "free")/\("second" : Str) ≠ "first" := by decide +kernel
 obtain⟨⟨a1,a2,a3,a4⟩,⟨b1,b2,b3⟩,⟨c1,c2,c3⟩,d1⟩:=w1
 refine⟨_,rfl,vd,_,rfl,h4,fun fp hfp=>?_⟩
 refine⟨_,rfl,fp,_,rfl,DPut.k (k:=Sum.inr ("nil" : Str)) a0 (bx (by unfold vK;rw[List.length_map];omega)),?_⟩
 rw[a1x h3]
 have s2:Same H (upd (upd H fp (.dK (vK zs f'))) fp (.dK (vK (zs++[("nil" : Str)]) (upF f' "nil" 0)))):=fun b u z=>by rw[ac (ai z hfp),ac (ai z hfp)];exact z
 have kf:(upd (upd H fp (.dK (vK zs f'))) fp (.dK (vK (zs++[("nil" : Str)]) (upF f' "nil" 0)))) fp=some (.dK (vK (zs++[("nil" : Str)]) (nilF f'))):=a0
 dsimp only[bi]
 generalize upd (upd H fp (.dK (vK zs f'))) fp (.dK (vK (zs++[("nil" : Str)]) (upF f' "nil" 0)))=H2 at s2 kf |-
 have gt:∀{G:Hp} {y:Str},Same H2 G->y∈zs++[("nil" : Str)]->DGet G fp (.str y) (some (.int (nilF f' y))):=fun {G y} e hy=>by
   have:=DGet.k (k:=Sum.inr y) (e _ _ kf)
   rw[ml hy] at this
   exact this
 have ht:=s2 _ _ h1
 have kv:=s2 _ _ h4
 have nfv:fp≠vd:=fun z=>by rw[z,h4] at hfp;cases hfp
 have fin:∀{G:Hp} {f1:Str->Int} {hs1:Hs} {g1:Int},Kp2 vd hd H G->fg d f' hs g=some (f1,hs1,g1)->G vd=some (.dK (vK zs f1))->HA G hd hs1->∀r,G r=none->Q (.ref r) (upd G r (.tup [.bl true,.int g1])):=fun {G f1 hs1 g1} k e kv ha r hr=>q r _ (fun b u hb n1 n2=>ad hr _ _ _ (k b u hb n1 n2)) (.did f1 hs1 g1 e a0 (ad hr _ _ _ kv) (ha.same (ad hr _)))
 have kp2:∀{G:Hp},Same H G->Kp2 vd hd H G:=fun {G} e b u hb _ _=>e b u hb
 have cs:(∃x e,d=.set x e)\/(∃x e e',d=.new x e e')\/∃(w y:Str) (us:List V) (k j:Int),(rowD d).map V.str=.str w::us/\w ≠ "set" /\ w ≠ "new" /\ y∈zs++[("nil" : Str)]/\(if (decide (V.str w=V.str "read"))=true then (1:Int) else 0)=k/\atI [V.int 1,V.int 2] k=some (.int j)/\atI (.str w::us) j=some (.str y)/\(hs.lookup (nilF f' y)=none->fg d f' hs g=none)/\(∀c,hs.lookup (nilF f' y)=some c->(∃x fld,d=.read x y fld)\/d=.free y\/∃fld e,d=.write y fld e):=by
   cases d with
   | set x e=>exact .inl ⟨x,e,rfl⟩
   | new x e e'=>exact .inr (.inl ⟨x,e,e',rfl⟩)
   | read x y fld=>exact .inr (.inr ⟨"read",y,_,1,2,rfl,a2,b1,h2.2.1,if_pos (decide_eq_true rfl),rfl,rfl,(fun z=>by show Option.map _ (hs.lookup (nilF f' y))=none;rw[z];rfl),fun c _=>.inl ⟨x,fld,rfl⟩⟩)
   | free y=>exact .inr (.inr ⟨"free",y,_,0,1,rfl,a3,b2,h2,if_neg (fun z=>c1 (V.str.inj (of_decide_eq_true z))),rfl,rfl,(fun z=>by show Option.map _ (hs.lookup (nilF f' y))=none;rw[z];rfl),fun c _=>.inr (.inl rfl)⟩)
   | write y fld e=>exact .inr (.inr ⟨"write",y,_,0,1,rfl,a4,b3,h2.1,if_neg (fun z=>c2 (V.str.inj (of_decide_eq_true z))),rfl,rfl,(fun z=>by show Option.map _ (hs.lookup (nilF f' y))=none;rw[z];rfl),fun c _=>.inr (.inr ⟨fld,e,rfl⟩)⟩)
 rcases cs with⟨x,e,rfl⟩|⟨x,e,e',rfl⟩|⟨w0,y,us,kk,jj,hrow,hw1,hw2,hy,hk,hj,hyj,hnone,hkind⟩
 . refine⟨_,rfl,t,_,0,_,rfl,rfl,SqT.of ht,at0,rfl,_,rfl,iteB (fun _=>?_) (fun c=>absurd c (by decide +kernel))⟩
   refine⟨_,rfl,_,rfl,t,_,2,_,rfl,rfl,SqT.of ht,rfl,fp,_,rfl,gt (Same.refl _) h2.2,_,rfl,_,rfl,t,_,1,_,rfl,rfl,SqT.of ht,rfl,vd,_,rfl,DPut.k (k:=Sum.inr x) kv (bx (by unfold vK;rw[List.length_map];omega)),?_⟩
   rw[j9 h2.1]
   exact⟨_,rfl,(show 2<=sizeLine by decide),fin (fun b u hb n1 n2=>by rw[ac n1];exact s2 _ _ hb) rfl a0 ((h5.same s2).put kv hne.symm _)⟩
 . refine⟨_,rfl,t,_,0,_,rfl,rfl,SqT.of ht,at0,rfl,_,rfl,iteB (fun c=>absurd (V.str.inj (of_decide_eq_true c)) a1) (fun _=>?_)⟩
   refine⟨_,rfl,t,_,0,_,rfl,rfl,SqT.of ht,at0,rfl,_,rfl,iteB (fun _=>?_) (fun c=>absurd c (by decide +kernel))⟩
   obtain⟨hp,kh,hc⟩:=h5.same s2
   have hpl:hp.length<=900:=by rw[Paired.length hc];exact h6
   refine⟨_,rfl,_,rfl,t,_,2,_,rfl,rfl,SqT.of ht,rfl,fp,_,rfl,gt (Same.refl _) h2.2.1,_,rfl,_,rfl,t,_,3,_,rfl,rfl,SqT.of ht,rfl,fp,_,rfl,gt (Same.refl _) h2.2.2,(show 2<=sizeLine by decide),fun c hc'=>?_⟩
   have s3:=ad hc' (.tup [.int (nilF f' e),.int (nilF f' e')])
   have k3:(upd H2 c (.tup [.int (nilF f' e),.int (nilF f' e')])) c=some (.tup [.int (nilF f' e),.int (nilF f' e')]):=a0
   generalize upd H2 c (.tup [.int (nilF f' e),.int (nilF f' e')])=H3 at s3 k3 |-
   have kh3:=s3 _ _ kh
   have kv3:=s3 _ _ kv
   have ht3:=s3 _ _ ht
   refine⟨_,rfl,_,rfl,_,_,rfl,rfl,hd,_,rfl,DPut.k (k:=Sum.inl (g+1)) kh3 (bx (by unfold hK;rw[List.length_map];omega)),?_⟩
   have ha4:=HA.put1 (i:=g+1) (c:=(nilF f' e,nilF f' e')) k3 kh3 (hc.keep fun b vs=>s3 b _)
   have kv4:(upd H3 hd (.dK (putK (hK hp) (Sum.inl (g+1)) (.ref c)))) vd=some (.dK (vK zs f')):=by rw[ac hne];exact kv3
   have kt4:(upd H3 hd (.dK (putK (hK hp) (Sum.inl (g+1)) (.ref c)))) t=some (.tup ((rowD (.new x e e')).map V.str)):=by rw[ac (fun z=>by rw[z,kh3] at ht3;cases ht3)];exact ht3
   have kp4:Kp2 vd hd H (upd H3 hd (.dK (putK (hK hp) (Sum.inl (g+1)) (.ref c)))):=fun b u hb n1 n2=>by rw[ac n2];exact s3 _ _ (s2 _ _ hb)
   generalize upd H3 hd (.dK (putK (hK hp) (Sum.inl (g+1)) (.ref c)))=H4 at ha4 kv4 kt4 kp4 |-
   refine⟨_,rfl,_,_,rfl,rfl,_,rfl,_,rfl,t,_,1,_,rfl,rfl,SqT.of kt4,rfl,vd,_,rfl,DPut.k (k:=Sum.inr x) kv4 (bx (by unfold vK;rw[List.length_map];omega)),?_⟩
   rw[j9 h2.1]
   exact⟨_,rfl,_,_,rfl,rfl,(show 2<=sizeLine by decide),fin (fun b u hb n1 n2=>by rw[ac n1];exact kp4 b u hb n1 n2) rfl a0 (ha4.put kv4 hne.symm _)⟩
 . have ht0:=ht
   rw[hrow] at ht
   refine⟨_,rfl,t,_,0,_,rfl,rfl,SqT.of ht,at0,rfl,_,rfl,iteB (fun c=>absurd (V.str.inj (of_decide_eq_true c)) hw1) (fun _=>?_)⟩
   refine⟨_,rfl,t,_,0,_,rfl,rfl,SqT.of ht,at0,rfl,_,rfl,iteB (fun c=>absurd (V.str.inj (of_decide_eq_true c)) hw2) (fun _=>?_)⟩
   refine⟨_,rfl,_,rfl,(show 2<=sizeLine by decide),fun ll hll=>?_⟩
   have s3:=ad hll (.lst [V.int 1,V.int 2])
   have k3:(upd H2 ll (.lst [V.int 1,V.int 2])) ll=some (.lst [V.int 1,V.int 2]):=a0
   generalize upd H2 ll (.lst [V.int 1,V.int 2])=H3 at s3 k3 |-
   have ht3:=s3 _ _ ht
   refine⟨_,rfl,t,_,0,_,rfl,rfl,SqT.of ht3,at0,rfl,_,rfl,?_⟩
   rw[hk]
   refine⟨ll,_,_,.int jj,rfl,rfl,SqL.of k3,hj,t,_,_,.str y,rfl,rfl,SqT.of ht3,hyj,fp,_,rfl,gt s3 hy,?_⟩
   have s03:=s2.trans s3
   obtain⟨hp,kh,hc⟩:=h5.same s03
   have hpl:hp.length<=900:=by rw[Paired.length hc];exact h6
   have kv3:=s3 _ _ kv
   have ht03:=s3 _ _ ht0
   have gt3:∀{y:Str},y∈zs++[("nil" : Str)]->DGet H3 fp (.str y) (some (.int (nilF f' y))):=fun hy=>gt s3 hy
   clear k3 s2 s3 kf gt ht ht0 kv hll hk hj hyj
   dsimp only[bi]
   generalize hi:nilF f' y=i at hnone hkind |-
   rcases dt (i:=i) hc with⟨hn,hv⟩|⟨c,r,hcl,hv,hr⟩
   . have hg:DGet H3 hd (.int i) none:=by have:=DGet.k (k:=Sum.inl i) kh;rw[hv] at this;exact this
     refine⟨_,rfl,_,rfl,hd,none,rfl,hg,_,rfl,iteB (fun _=>?_) (fun c=>absurd c (by decide))⟩
     exact⟨_,rfl,(show 2<=sizeLine by decide),fun r hr=>q r _ (fun b u hb n1 n2=>ad hr _ _ _ (s03 _ _ hb)) (.fell (hnone hn) a0 (ad hr _ _ _ kv3) ((h5.same s03).same (ad hr _)))⟩
   have hg:DGet H3 hd (.int i) (some (.ref r)):=by have:=DGet.k (k:=Sum.inl i) kh;rw[hv] at this;exact this
   refine⟨_,rfl,_,rfl,hd,_,rfl,hg,_,rfl,iteB (fun c=>absurd c Bool.false_ne_true) (fun _=>?_)⟩
   refine⟨_,rfl,_,rfl,hd,_,rfl,hg,r,_,rfl,SqT.of hr,rfl,_,_,rfl,_,_,rfl,rfl,?_⟩
   have no:∀{w1 w2:Str} {A B:Prop},w1≠w2->B->if decide (V.str w1=V.str w2)=true then A else B:=fun hne b=>by rw[if_neg (fun z=>hne (V.str.inj (of_decide_eq_true z)))];exact b
   have yes:∀{w1 w2:Str} {A B:Prop},w1=w2->A->if decide (V.str w1=V.str w2)=true then A else B:=fun he a=>by rw[if_pos (decide_eq_true (by rw[he]))];exact a
   have ha3:HA H3 hd hs:=⟨hp,kh,hc⟩
   rcases hkind c hcl with⟨x,fld,rfl⟩|rfl|⟨fld,e,rfl⟩
   . obtain⟨hx,_,hfl⟩:=h2
     refine⟨_,rfl,t,_,0,_,rfl,rfl,SqT.of ht03,at0,rfl,_,rfl,yes rfl ?_⟩
     refine⟨_,rfl,_,rfl,(show 2<=sizeLine by decide),fun l2 hl2=>?_⟩
     have s4:=ad hl2 (.lst [.int c.1,.int c.2])
     have k4:(upd H3 l2 (.lst [.int c.1,.int c.2])) l2=some (.lst [.int c.1,.int c.2]):=a0
     generalize upd H3 l2 (.lst [.int c.1,.int c.2])=H4 at s4 k4 |-
     have ht4:=s4 _ _ ht03
     refine⟨_,rfl,t,_,3,_,rfl,rfl,SqT.of ht4,rfl,rfl,_,rfl,?_⟩
     have hat:atI [V.int c.1,V.int c.2] (if decide (V.str fld=V.str "second")=true then (1:Int) else 0)=some (.int (if fld = "second" then c.2 else c.1)):=by
       by_cases z:fld = "second"
       . rw[if_pos (decide_eq_true (by rw[z])),if_pos z];rfl
       . rw[if_neg (fun y=>z (V.str.inj (of_decide_eq_true y))),if_neg z];rfl
     refine⟨l2,_,_,_,rfl,rfl,SqL.of k4,hat,_,rfl,_,rfl,t,_,1,_,rfl,rfl,SqT.of ht4,rfl,vd,_,rfl,DPut.k (k:=Sum.inr x) (s4 _ _ kv3) (bx (by unfold vK;rw[List.length_map];omega)),?_⟩
     rw[j9 hx]
     refine⟨_,rfl,(show 2<=sizeLine by decide),fin (fun b u hb n1 n2=>by rw[ac n1];exact s4 _ _ (s03 _ _ hb)) ?_ a0 ((ha3.same s4).put (s4 _ _ kv3) hne.symm _)⟩
     show Option.map _ (hs.lookup (nilF f' y))=_
     rw[hi,hcl];rfl
   . refine⟨_,rfl,t,_,0,_,rfl,rfl,SqT.of ht03,at0,rfl,_,rfl,no c1 ?_⟩
     refine⟨_,rfl,t,_,0,_,rfl,rfl,SqT.of ht03,at0,rfl,_,rfl,yes rfl ?_⟩
     refine⟨_,rfl,hd,rfl,.inl ⟨_,.inl kh⟩,_,rfl,_,Sum.inl i,_,kh,rfl,hv,?_⟩
     refine⟨_,rfl,(show 2<=sizeLine by decide),fin (fun b u hb n1 n2=>by rw[ac n2];exact s03 _ _ hb) ?_ (by rw[ac hne];exact kv3) (HA.drop1 (i:=i) kh hc)⟩
     show Option.map _ (hs.lookup (nilF f' y))=_
     rw[hi,hcl];rfl
   . obtain⟨_,hfl,he⟩:=h2
     refine⟨_,rfl,t,_,0,_,rfl,rfl,SqT.of ht03,at0,rfl,_,rfl,no c2 ?_⟩
     refine⟨_,rfl,t,_,0,_,rfl,rfl,SqT.of ht03,at0,rfl,_,rfl,no c3 ?_⟩
     have putD:∀(r4:Addr) (c4:Int×Int),c4=(if fld = "first" then (nilF f' e,c.2) else (c.1,nilF f' e))->H3 r4=none->∀r5,(upd (upd H3 r4 (.tup [.int c4.1,.int c4.2])) hd (.dK (putK (hK hp) (Sum.inl i) (.ref r4)))) r5=none->Q (.ref r5) (upd (upd (upd H3 r4 (.tup [.int c4.1,.int c4.2])) hd (.dK (putK (hK hp) (Sum.inl i) (.ref r4)))) r5 (.tup [.bl true,.int g])):=fun r4 c4 hc4 hr4=>by
       have s4:=ad hr4 (.tup [.int c4.1,.int c4.2])
       refine fin (fun b u hb n1 n2=>by rw[ac n2];exact s4 _ _ (s03 _ _ hb)) ?_ (by rw[ac hne];exact s4 _ _ kv3) (HA.put1 (c:=c4) a0 (s4 _ _ kh) (hc.keep fun b vs=>s4 b _))
       show Option.map _ (hs.lookup (nilF f' y))=_
       rw[hi,hcl,hc4];rfl
     have hput:∀{r4:Addr} {o:HO},H3 r4=none->(upd H3 r4 o) hd=some (.dK (hK hp)):=fun hr4=>ad hr4 _ _ _ kh
     have hll:(hK hp).length<sizeLine:=bx (by unfold hK;rw[List.length_map];omega)
     rcases hfl with z|z
     . refine⟨_,rfl,t,_,2,_,rfl,rfl,SqT.of ht03,rfl,rfl,_,rfl,yes z ?_⟩
       refine⟨_,rfl,_,rfl,t,_,3,_,rfl,rfl,SqT.of ht03,rfl,fp,_,rfl,gt3 he,_,rfl,(show 2<=sizeLine by decide),fun r4 hr4=>?_⟩
       exact⟨_,rfl,_,rfl,hd,_,rfl,DPut.k (k:=Sum.inl i) (hput hr4) hll,_,rfl,(show 2<=sizeLine by decide),putD r4 (nilF f' e,c.2) (by rw[if_pos z]) hr4⟩
     . refine⟨_,rfl,t,_,2,_,rfl,rfl,SqT.of ht03,rfl,rfl,_,rfl,no (fun y=>d1 (z.symm.trans y)) ?_⟩
       refine⟨_,rfl,_,rfl,_,rfl,t,_,3,_,rfl,rfl,SqT.of ht03,rfl,fp,_,rfl,gt3 he,(show 2<=sizeLine by decide),fun r4 hr4=>?_⟩
       exact⟨_,rfl,_,rfl,hd,_,rfl,DPut.k (k:=Sum.inl i) (hput hr4) hll,_,rfl,(show 2<=sizeLine by decide),putD r4 (c.1,nilF f' e) (by rw[if_neg (fun y=>d1 (z.symm.trans y))]) hr4⟩
end K50
namespace L2
open PySem PySem.Spec PyProof.Rows
section
variable {X:Cx}
theorem lb:cf X (.builtin "isinstance") (fun xs H Q=>∃a kvs,xs=[.ref a,.ty "dict"]/\H a=some (.dK kvs)/\Q (.bl true) H):=by
 intro pins s σ H xs us Q I r h
 obtain⟨a,kvs,rfl,ha,q⟩:=h
 cases r with
 | cons r1 r =>
   cases r with
   | cons r2 r =>
     cases r
     cases r1
     cases r2
     obtain⟨z,hd,vs,rel,dd⟩:=ut I.hok ha
     obtain⟨o,e,hc⟩:=dd.typeIs
     exact IsiPair.dict_dict e hc ⟨.bl true,H,I,rfl,q⟩
end
end L2
namespace K50
open PySem PySem.Spec L2 Mir
variable {P:Program}{w:World}{K:PySem.W.Frag}{mg:Str->Option Value}{base:Heap}{f g gS gN gA gW gI gL gF gO gT gB C fI CM CF fJ gD gE gC gM gK gH gR gU gV gP gX:Addr}{fd gd dS dN dA dW dI dL dF dO dT dB dD dE dC dM dK dH dR dU dV dP dX:FuncData}
noncomputable abbrev ul:Stmt:=top 43
noncomputable abbrev q5:Stmt:=top 44
theorem yt {f:Str->Int}{k:Key}{v:V}:∀{xs:List Str},valV (vK xs f) k=some v->∃y∈xs,k=Sum.inr y/\v=.int (f y)
 | [],h=>by cases h
 | y::xs,h=>by
   by_cases e:(Sum.inr y:Key)=k
   . rw[show valV (vK (y::xs) f) k=some (.int (f y)) from gh e] at h
     exact⟨y,List.mem_cons_self,e.symm,(Option.some.inj h).symm⟩
   . have h':valV (vK xs f) k=some v:=by
       unfold valV vK at h |-
       rw[List.map_cons,List.find?_cons,decide_eq_false e] at h
       exact h
     obtain⟨z,hz,e1,e2⟩:=yt h'
     exact⟨z,List.mem_cons_of_mem _ hz,e1,e2⟩
theorem a87 (xs:List Str) (f:Str->Int):(vK xs f).map (fun kv=>kV kv.1)=xs.map V.str:=by unfold vK;rw[List.map_map];rfl
inductive NA (a b:Addr) (G:Hp) (i:Nat) (σ:St) (H:Hp):Prop
 | mk (z2 z3:Option V) (hH:H=G) (hσ:σ=[some (.ref a),some (.ref b),z2,z3])
inductive spNumA (K:PySem.W.Frag) (vs:List V) (H:Hp) (Q:VK) (E:XK):Prop
 | mk (a b:Addr) (zs ys:List Str) (f:Str->Int) (h0:vs=[.ref a,.ref b]) (h1:H a=some (.dK (vK ys f))) (h2:H b=some (.dK (vK zs f))) (h3:ys.length=zs.length) (h4:∀y∈ys,y∈zs) (h5:ys.length<=1000) (q:∀H',Same H H'->Q (.bl true) H'):spNumA K vs H Q E
theorem scNumA:FnScope ["_law_found","_law_due","_law_thing","_law_number"] ["_law_found","_law_due"] (ao ul):=⟨rfl,rfl,rfl,by decide +kernel,rfl,by decide +kernel,by decide +kernel⟩
theorem a7l (C:Con K mg w) (F:Fun K "_law_numbers_alike" "_law_numbers_alike" ul f fd):FnOk P w K mg base CX0 1 f fd ["_law_found","_law_due"] (spNumA K):=by
 refine F.okQ scNumA (fun vs H Q E h=>?_) (fun cdv A outer s0 H vs Q E hr h=>?_)
 . obtain⟨_,_,_,_,_,rfl,_⟩:=h;rfl
 obtain⟨a,b,zs,ys,f',rfl,h1,h2,h3,h4,h5,q⟩:=h
 have nd:=scNumA.nd
 have hu1:=ft hr
 have hu:(A.deeper (PyProof.Rows.envOfC "_law_numbers_alike" (ao ul) s0.heap.objs.size f cdv)).units+32<cLine:=Nat.lt_of_le_of_lt (Nat.add_le_add_left (by decide:32<=64) _) hr.units
 refine⟨_,ae (b6 (QW.qt (iw (gs (di (ba lb rfl C.isi PyProof.Rows.boot_isinstance (af (qv 0) (af ⟨gty C.dict PyProof.Rows.boot_dict⟩ aa))))) (ij (ar (yh (K:=K) rfl hu) (qv 0) (qv 1) (ax _))))) (ag (av fb)) b9)
   (ae (xz (de PassesOwn.never rfl (ph (qv 0)) (bq (i:=2) nd rfl (Or.inl rfl)) (ae (aq (i:=3) nd rfl (Or.inl rfl) (cw hu1 (qv 0) (qv 2) (fun _ _=>rfl)))
   (ag (b6 (QW.qt (iw (gs (di (ba lq rfl C.isi PyProof.Rows.boot_isinstance (af (qv 3) (af ⟨gty C.int PyProof.Rows.boot_int⟩ aa))))) (ij (di (ba j7 rfl C.isi PyProof.Rows.boot_isinstance (af (qv 3) (af ⟨gty C.bool PyProof.Rows.boot_bool⟩ aa))))))) (ag (av fb)) b9)))))
   (ag (av fb))),?_⟩
 refine⟨_,rfl,a,_,rfl,h1,_,rfl,iteB (fun c=>absurd c Bool.false_ne_true) (fun _=>?_)⟩
 refine⟨_,rfl,_,rfl,.mk a b _ _ rfl rfl h1 h2 (by unfold vK;rw[List.length_map,List.length_map];exact h3) (fun k v hv=>?_) ⟨_,rfl,iteB (fun c=>absurd c Bool.false_ne_true) (fun _=>?_)⟩⟩
 . obtain⟨y,hy,rfl,rfl⟩:=yt hv
   exact⟨_,ml (h4 y hy),.inl ⟨rfl,rfl⟩⟩
 unfold qa
 dsimp only
 refine au (a:=wu _ _) fun F1 hF1 _ _=>?_
 refine⟨_,rfl,a,_,rfl,h1,fun od nf=>?_⟩
 refine tw (NA a b (upd H a (.frz od (.dK (vK ys f'))))) ⟨none,none,rfl,rfl⟩ ?_ ?_ ?_
 . rintro i σ G hi ⟨z2,z3,rfl,rfl⟩
   exact a0
 . rintro i x σ G hx ⟨z2,z3,rfl,rfl⟩
   rw[a87,List.getElem?_map] at hx
   obtain⟨y,hy,rfl⟩:=Option.map_eq_some_iff.mp hx
   have hm:=List.mem_of_getElem? hy
   have hg:DGet (upd H a (.frz od (.dK (vK ys f')))) a (.str y) (some (.int (f' y))):=.inl ⟨_,Sum.inr y,.inr ⟨_,a0⟩,rfl,(ml hm).symm⟩
   refine⟨_,rfl,_,rfl,a,_,rfl,hg,?_⟩
   refine⟨_,rfl,_,rfl,_,rfl,iteB (fun c=>absurd c Bool.false_ne_true) (fun _=>?_)⟩
   exact⟨_,rfl,_,rfl,_,rfl,iteB (fun c=>absurd c Bool.false_ne_true) (fun _=>⟨_,_,rfl,rfl⟩)⟩
 rintro σ G ⟨z2,z3,rfl,rfl⟩
 refine⟨a,od,_,a0,nf,hF1 _ _ ?_⟩
 exact q _ fun c u hc=>by
   by_cases z:c=a
   . rw[z,a0];rw[z,h1] at hc;exact hc
   . rw[ac z,ac z];exact hc
theorem zh {k:Key}{v:V}:∀{hp:List (Int×Addr)},valV (hK hp) k=some v->∃i:Int,k=Sum.inl i
 | [],h=>by cases h
 | p::hp,h=>by
   by_cases e:(Sum.inl p.1:Key)=k
   . exact⟨_,e.symm⟩
   . have h':valV (hK hp) k=some v:=by
       unfold valV hK at h |-
       rw[List.map_cons,List.find?_cons,decide_eq_false e] at h
       exact h
     exact zh h'
theorem a5z (hp:List (Int×Addr)):(hK hp).map (fun kv=>kV kv.1)=hp.map fun p=>V.int p.1:=by unfold hK;rw[List.map_map];rfl
theorem a4d (u v:Int):EqOk (.tuple [.int u,.int v]):=⟨rfl,by simp[PyData.depth,PyData.depthAll]⟩
theorem y6 {K:PySem.W.Frag}{H:Hp}{r:Addr}{u v:Int}(h:H r=some (.tup [.int u,.int v])):Dp K H (.ref r) (.tuple [.int u,.int v]):=.tup (SqT.of h) (.cons (.int u) (.cons (.int v) .nil))
inductive CA (a b:Addr) (G:Hp) (i:Nat) (σ:St) (H:Hp):Prop
 | mk (z2 z3:Option V) (e:Same G H) (hσ:σ=[some (.ref a),some (.ref b),z2,z3])
theorem a02 {H:Hp}{hp:List (Int×Addr)}{hs:Hs}(h:CellsA H hp hs) {i:Int}(hi:i∈hp.map (·.1)):∃c r,hs.lookup i=some c/\valV (hK hp) (Sum.inl i)=some (.ref r)/\H r=some (.tup [.int c.1,.int c.2]):=by
 rcases dt (i:=i) h with⟨_,hv⟩|z
 . obtain⟨r,_,hr⟩:=a6j hi
   rw[hv] at hr;cases hr
 . exact z
inductive spCellA (K:PySem.W.Frag) (vs:List V) (H:Hp) (Q:VK) (E:XK):Prop
 | mk (a b:Addr) (hs:Hs) (h0:vs=[.ref a,.ref b]) (h1:HA H a hs) (h2:HA H b hs) (h5:hs.length<=1000) (q:∀H',Same H H'->Q (.bl true) H'):spCellA K vs H Q E
theorem scCellA:FnScope ["_law_found","_law_due","_law_spot","_law_cell"] ["_law_found","_law_due"] (ao q5):=⟨rfl,rfl,rfl,by decide +kernel,rfl,by decide +kernel,by decide +kernel⟩
theorem a4m (C:Con K mg w) (F:Fun K "_law_cells_alike" "_law_cells_alike" q5 f fd):FnOk P w K mg base CX0 1 f fd ["_law_found","_law_due"] (spCellA K):=by
 refine F.okQ scCellA (fun vs H Q E h=>?_) (fun cdv A outer s0 H vs Q E hr h=>?_)
 . obtain⟨_,_,_,rfl,_⟩:=h;rfl
 obtain⟨a,b,hs,rfl,h1,h2,h5,q⟩:=h
 have nd:=scCellA.nd
 have hu1:=ft hr
 have hu:(A.deeper (PyProof.Rows.envOfC "_law_cells_alike" (ao q5) s0.heap.objs.size f cdv)).units+32<cLine:=Nat.lt_of_le_of_lt (Nat.add_le_add_left (by decide:32<=64) _) hr.units
 refine⟨_,ae (b6 (QW.qt (iw (gs (di (ba lb rfl C.isi PyProof.Rows.boot_isinstance (af (qv 0) (af ⟨gty C.dict PyProof.Rows.boot_dict⟩ aa))))) (ij (ar (yh (K:=K) rfl hu) (qv 0) (qv 1) (ax _))))) (ag (av fb)) b9)
   (ae (xz (de PassesOwn.never rfl (ph (qv 0)) (bq (i:=2) nd rfl (Or.inl rfl)) (ae (aq (i:=3) nd rfl (Or.inl rfl) (cw hu1 (qv 0) (qv 2) (fun _ _=>rfl)))
   (ae (b6 (QW.qt (iw (di (ba j7 rfl C.isi PyProof.Rows.boot_isinstance (af (qv 2) (af ⟨gty C.bool PyProof.Rows.boot_bool⟩ aa)))) (ij (gs (di (ba su rfl C.isi PyProof.Rows.boot_isinstance (af (qv 3) (af ⟨gty C.tuple PyProof.Rows.boot_tuple⟩ aa)))))))) (ag (av fb)) b9)
   (ag (b6 (ar (a3u hu) (gw (rf (K:=K) rfl (qv 3)) (fun _ _ _ _=>(mn (QW.qt (iw (gs (di (ba lq rfl C.isi PyProof.Rows.boot_isinstance (af (qv 0) (af ⟨gty C.int PyProof.Rows.boot_int⟩ aa))))) (ij (di (ba j7 rfl C.isi PyProof.Rows.boot_isinstance (af (qv 0) (af ⟨gty C.bool PyProof.Rows.boot_bool⟩ aa))))))))) (fun _ _ _ _=>(qv 0))) (bc aa) (ax _)) (ag (av fb)) b9))))))
   (ag (av fb))),?_⟩
 obtain⟨hp,k1,c1⟩:=h1
 obtain⟨hp2,k2,c2⟩:=h2
 have hln:(hK hp).length=(hK hp2).length:=by unfold hK;rw[List.length_map,List.length_map,Paired.length c1,Paired.length c2]
 refine⟨_,rfl,a,_,rfl,k1,_,rfl,iteB (fun c=>absurd c Bool.false_ne_true) (fun _=>?_)⟩
 refine⟨_,rfl,_,rfl,.mk a b _ _ rfl rfl k1 k2 hln (fun k v hv=>?_) ⟨_,rfl,iteB (fun c=>absurd c Bool.false_ne_true) (fun _=>?_)⟩⟩
 . obtain⟨i,rfl⟩:=zh hv
   rcases dt (i:=i) c1 with⟨_,hn⟩|⟨c,r,hc,hr,kr⟩
   . rw[hn] at hv;cases hv
   . rw[hr] at hv
     cases hv
     rcases dt (i:=i) c2 with⟨hn,_⟩|⟨c',r',hc',hr',kr'⟩
     . rw[hn] at hc;cases hc
     . rw[hc] at hc'
       cases hc'
       exact⟨_,hr',.inr ⟨_,y6 kr,y6 kr',a4d _ _⟩⟩
 unfold qa
 dsimp only
 refine au (a:=wu _ _) fun F1 hF1 _ _=>?_
 refine⟨_,rfl,a,_,rfl,k1,fun od nf=>?_⟩
 refine tw (CA a b (upd H a (.frz od (.dK (hK hp))))) ⟨none,none,Same.refl _,rfl⟩ ?_ ?_ ?_
 . rintro i σ G hi ⟨z2,z3,e,rfl⟩
   exact e _ _ a0
 . rintro i x σ G hx ⟨z2,z3,e,rfl⟩
   rw[a5z,List.getElem?_map] at hx
   obtain⟨p,hp',rfl⟩:=Option.map_eq_some_iff.mp hx
   obtain⟨c,r,_,hr,kr⟩:=a02 c1 (List.mem_map.mpr ⟨p,List.mem_of_getElem? hp',rfl⟩)
   have hg:DGet G a (.int p.1) (some (.ref r)):=.inl ⟨_,Sum.inl p.1,.inr ⟨_,e _ _ a0⟩,rfl,hr.symm⟩
   have kr':G r=some (.tup [.int c.1,.int c.2]):=e _ _ (by rw[ac (fun z=>by rw[z,k1] at kr;cases kr)];exact kr)
   refine⟨_,rfl,_,rfl,a,_,rfl,hg,?_⟩
   refine⟨_,rfl,_,rfl,_,rfl,iteB (fun c=>absurd c Bool.false_ne_true) (fun _=>?_)⟩
   refine⟨_,rfl,r,_,rfl,SqT.of kr',_,rfl,iteB (fun c=>absurd c Bool.false_ne_true) (fun _=>?_)⟩
   refine⟨_,rfl,r,rfl,⟨_,SqT.of kr'⟩,?_⟩
   refine kg [.int c.1,.int c.2] (fun _=>false) id wo (SqT.of kr') (show 2<=sizeLine by decide) (fun x hx G2 e2 Q' q'=>?_) (fun x hx hf=>absurd hf Bool.false_ne_true) fun D G2 hD e2 kD=>?_
   . obtain⟨n,rfl⟩:∃n:Int,x=.int n:=by
       rcases List.mem_cons.mp hx with z|z
       . exact⟨_,z⟩
       . exact⟨_,List.mem_singleton.mp z⟩
     refine⟨_,rfl,_,rfl,_,rfl,iteB (fun c=>absurd c Bool.false_ne_true) (fun _=>?_)⟩
     exact⟨_,rfl,_,rfl,_,rfl,q' _ (Same.refl _)⟩
   . refine⟨(show 0<=sizeLine by decide),fun l0 hl0=>?_⟩
     have kD':G2 D=some (.lst []):=kD
     refine⟨.list [],.list [],.lst (SqL.of (ad hl0 _ _ _ kD')) .nil,.lst (SqL.of a0) .nil,⟨rfl,by decide⟩,⟨rfl,by decide⟩,_,rfl,iteB (fun c=>absurd c (by decide +kernel)) (fun _=>?_)⟩
     exact⟨_,_,(e.trans e2).trans (ad hl0 _),rfl⟩
 rintro σ G ⟨z2,z3,e,rfl⟩
 refine⟨a,od,_,e _ _ a0,nf,hF1 _ _ ?_⟩
 exact q _ fun c u hc=>by
   by_cases z:c=a
   . rw[z,a0];rw[z,k1] at hc;exact hc
   . rw[ac z];exact e _ _ (by rw[ac z];exact hc)
noncomputable abbrev mr:Stmt:=top 45
structure MS (K:PySem.W.Frag) (CM CF:Addr) (H:Hp) (m pd fl cd p pr pt nd bd:Addr) (g:Int) (b:Bool) (rc nm:Str) (ts:List Addr) (k:Nat) (ys:List Str) (f:Str->Int) (hs:Hs):Prop where
 ma:MaAt CM CF H m pd fl cd p pr pt nd [] g b rc
 pr:∃v1 v2 v3 v4,H pr=some (.tup [.str nm,v1,v2,v3,v4,.ref bd])
 pt:SqT K H pt [.int (k:Int)]
 bd:H bd=some (.lst (ts.map V.ref))
 ne:m≠p
 kn:H nd=some (.dK (vK ys f))
 kc:HA H cd hs
theorem MS.same {K:PySem.W.Frag}{CM CF:Addr}{H H':Hp}{m pd fl cd p pr pt nd bd:Addr}{g:Int}{b:Bool}{rc nm:Str}{ts:List Addr}{k:Nat}{ys:List Str}{f:Str->Int}{hs:Hs}(h:MS K CM CF H m pd fl cd p pr pt nd bd g b rc nm ts k ys f hs) (e:Same H H'):MS K CM CF H' m pd fl cd p pr pt nd bd g b rc nm ts k ys f hs:=by
 obtain⟨⟨⟨dx,fs,hm,hM⟩,hfl,⟨dx',fs',hp,hff,hf⟩⟩,⟨v1,v2,v3,v4,hpr⟩,hpt,hbd,hne,hn,hc⟩:=h
 exact⟨⟨⟨dx,fs,e _ _ hm,hM⟩,e _ _ hfl,⟨dx',fs',e _ _ hp,hff,hf⟩⟩,⟨v1,v2,v3,v4,e _ _ hpr⟩,e.seqT hpt,e _ _ hbd,hne,e _ _ hn,hc.same e⟩
theorem MS.at1 {K:PySem.W.Frag}{CM CF:Addr}{H:Hp}{m pd fl cd p pr pt nd bd:Addr}{g:Int}{rc nm:Str}{ts:List Addr}{k:Nat}{ys:List Str}{f:Str->Int}{hs:Hs}(h:MS K CM CF H m pd fl cd p pr pt nd bd g false rc nm ts k ys f hs):At1 K CM CF H m pd fl cd p pr pt nd bd g rc ts k:=by
 obtain⟨v1,v2,v3,v4,hpr⟩:=h.pr
 exact⟨h.ma,⟨_,_,_,_,_,hpr⟩,h.pt,h.bd,h.ne⟩
inductive spStands (K:PySem.W.Frag) (CM CF:Addr) (vs:List V) (H:Hp) (Q:VK) (E:XK):Prop
 | mk (m pd fl cd p pr pt nd bd vd hd:Addr) (g:Int) (b:Bool) (rc nm:Str) (ts:List Addr) (k:Nat) (ys zs:List Str) (f:Str->Int) (hs:Hs) (h0:vs=[.ref m,.str nm,.int (k:Int),.int (ts.length:Int),.ref vd,.ref hd,.bl b]) (h1:MS K CM CF H m pd fl cd p pr pt nd bd g b rc nm ts k ys f hs) (hk:k<=ts.length) (hnm:(PyData.str nm).canLay0=true)
     (h2:H vd=some (.dK (vK zs f))) (h3:HA H hd hs) (h4:ys.length=zs.length) (h5:∀y∈ys,y∈zs) (h6:ys.length<=1000) (h7:hs.length<=1000) (q:∀H',Same H H'->Q (.bl true) H'):spStands K CM CF vs H Q E
theorem scStands:FnScope ["_law_machine","_law_name","_law_k","_law_many","_law_values_here","_law_heap_here","_law_fallen","_law_word","_law_where"] ["_law_machine","_law_name","_law_k","_law_many","_law_values_here","_law_heap_here","_law_fallen"] (ao mr):=⟨rfl,rfl,rfl,by decide +kernel,rfl,by decide +kernel,by decide +kernel⟩
theorem a1c (C:Con K mg w) (T:TxM K mg CM fI) (U:TxF K mg CF fJ) (F:Fun K "_law_stands" "_law_stands" mr f fd) (GW:FnOk P w K mg base CX0 5 gW dW ["self"] (spWord K CM CF)) (cW:MCal K CM "word" gW dW ["self"]) (GX:FnOk P w K mg base CX0 6 gX dX ["self"] (spWhere K CM CF)) (cX:MCal K CM "where" gX dX ["self"]) (GH:FnOk P w K mg base CX0 1 gH dH ["self"] (a3f CM CF)) (cH:MCal K CM "held" gH dH ["self"]) (GP:FnOk P w K mg base CX0 1 gP dP ["self"] (a2p CM)) (cP:MCal K CM "heap" gP dP ["self"])
   (GN:FnOk P w K mg base CX0 1 gN dN ["_law_found","_law_due"] (spNumA K)) (cN:Cal K mg "_law_numbers_alike" gN dN ["_law_found","_law_due"]) (GC:FnOk P w K mg base CX0 1 gC dC ["_law_found","_law_due"] (spCellA K)) (cC:Cal K mg "_law_cells_alike" gC dC ["_law_found","_law_due"]):FnOk P w K mg base CX0 7 f fd ["_law_machine","_law_name","_law_k","_law_many","_law_values_here","_law_heap_here","_law_fallen"] (spStands K CM CF):=by
 refine F.okQ scStands (fun vs H Q E h=>?_) (fun cdv A outer s0 H vs Q E hr h=>?_)
 . obtain⟨_,_,_,_,_,_,_,_,_,_,_,_,_,_,_,_,_,_,_,_,_,rfl,_⟩:=h;rfl
 obtain⟨m,pd,fl,cd,p,pr,pt,nd',bd,vd,hd,g,b,rc,nm,ts,k,ys,zs,f',hs,rfl,h1,hk,hnm,h2,h3,h4,h5,h6,h7,q⟩:=h
 have nd:=scStands.nd
 have hr5:=hr.mono (j:=5) (by omega)
 have hr1:=hr.mono (j:=1) (by omega)
 have hu:(A.deeper (PyProof.Rows.envOfC "_law_stands" (ao mr) s0.heap.objs.size f cdv)).units+32<cLine:=Nat.lt_of_le_of_lt (Nat.add_le_add_left (by decide:32<=64) _) hr.units
 refine⟨_,ae (aq (i:=7) nd rfl (Or.inl rfl) b0)
   (ae (aq (i:=8) nd rfl (Or.inl rfl) (bp (af (qv 1) (m9 (af (qv 2) aa) aa))))
   (ae (b6 (di (qv 6)) (ag (aq (i:=7) nd rfl (Or.inl rfl) b0)) (ag (b6 (ar be (qv 2) (qv 3) (ax _)) (ae (aq (i:=7) nd rfl (Or.inl rfl) b0)
   (ag (aq (i:=8) nd rfl (Or.inl rfl) i7))) b9)))
   (ae (b6 (QW.qt (iw (ar mx (cz (qv 0) T.cl cW.meth GW hr5 cW.bind .nil am) (qv 7) (ax _)) (iw (gs (di (ba vi rfl C.isi PyProof.Rows.boot_isinstance (az (cz (qv 0) T.cl cW.meth GW hr5 cW.bind .nil am) (af ⟨gty C.str PyProof.Rows.boot_str⟩ aa))))) (ij (ar (a3u hu) (cz (qv 0) T.cl cX.meth GX hr cX.bind .nil am) (qv 8) (ax _)))))) (ag (av fb)) b9)
   (ag (av (a1v (ak GN hr1 rfl cN.name cN.keep cN.bind .nil am (az (cz (qv 0) T.cl cH.meth GH hr1 cH.bind .nil am) (af (qv 4) aa))) (a4a (ak GC hr1 rfl cC.name cC.keep cC.bind .nil am (az (cz (qv 0) T.cl cP.meth GP hr1 cP.bind .nil am) (af (qv 5) aa)))))))))),?_⟩
 obtain⟨⟨⟨dx,fs,hm,hM⟩,hfl,hfr⟩,⟨v1,v2,v3,v4,hpr⟩,hpt,hbd,hne,hkn,hkc⟩:=id h1
 have mW:=hM.meth "word" (by decide +kernel)
 have mX:=hM.meth "where" (by decide +kernel)
 have mH:=hM.meth "held" (by decide +kernel)
 have mP:=hM.meth "heap" (by decide +kernel)
 generalize hwd:(if b=true then ("fall" : Str) else if k<ts.length then "on" else "end")=wd
 generalize hdW:(if b=false/\¬ k<ts.length then PyData.none else .tuple [.str nm,.tuple [.int (k:Int)]])=dW
 have callW:∀{G:Hp} {Q':VK},Same H G->(∀G',Same G G'->Q' (.str wd) G')->spWord K CM CF [.ref m] G Q' E0:=fun {G Q'} e q'=>by
   subst hwd
   cases b with
   | true=>exact .fall m dx pd fl cd fs g rfl (e _ _ hm) hM (q' G (Same.refl _))
   | false=>exact .fine m pd fl cd p pr pt nd' bd bd [] g rc _ _ _ _ _ [] k ts rfl (h1.same e).ma (e _ _ hpr) (e.seqT hpt) rfl (Nat.zero_le _) (e _ _ hbd) q'
 have callX:∀{G:Hp} {Q':VK},Same H G->(∀v G',Same G G'->Dp K G' v dW->Q' v G')->spWhere K CM CF [.ref m] G Q' E0:=fun {G Q'} e q'=>by
   subst hdW
   have h1':=h1.same e
   have dpt:∀{r:Addr} {G':Hp},Same G G'->G' r=some (.tup [.str nm,.ref pt])->Dp K G' (.ref r) (.tuple [.str nm,.tuple [.int (k:Int)]]):=fun {r G'} e' hr=>.tup (SqT.of hr) (.cons (.str nm) (.cons (.tup ((e.trans e').seqT hpt) (.cons (.int _) .nil)) .nil))
   cases b with
   | true=>exact .fall m pd fl cd p pr pt nd' [] g rc nm _ rfl h1'.ma (e _ _ hpr) fun r G' e' hr=>q' _ _ e' (by rw[if_neg (fun z=>absurd z.1 (by decide))];exact dpt e' hr)
   | false =>
     by_cases z:k<ts.length
     . exact .on m pd fl cd p pr pt nd' bd g rc nm _ ts k rfl h1'.at1 z (e _ _ hpr) fun r G' e' hr=>q' _ _ e' (by rw[if_neg (fun y=>y.2 z)];exact dpt e' hr)
     . exact .fin m pd fl cd p pr pt nd' bd g rc ts k rfl h1'.at1 (by omega) fun G' e'=>q' _ _ e' (by rw[if_pos ⟨rfl,z⟩];exact .non)
 have okW:EqOk dW:=by
   subst hdW
   split
   . exact⟨rfl,by simp[PyData.depth]⟩
   . exact⟨by simp only[PyData.canLay0] at hnm;simp[PyData.canLay0,PyData.canLayAll0,hnm],by simp[PyData.depth,PyData.depthAll]⟩
 refine⟨_,rfl,_,rfl,(show 1<=sizeLine by decide),fun t1 ht1=>⟨(show 2<=sizeLine by decide),fun t2 ht2=>?_⟩⟩
 have e1:=ad ht1 (.tup [.int (k:Int)])
 have e2:=ad ht2 (.tup [.str nm,.ref t1])
 have k1:(upd H t1 (.tup [.int (k:Int)])) t1=some (.tup [.int (k:Int)]):=a0
 have k2:(upd (upd H t1 (.tup [.int (k:Int)])) t2 (.tup [.str nm,.ref t1])) t2=some (.tup [.str nm,.ref t1]):=a0
 have k1':=e2 _ _ k1
 have e12:=e1.trans e2
 dsimp only[bi]
 generalize upd (upd H t1 (.tup [.int (k:Int)])) t2 (.tup [.str nm,.ref t1])=G at e12 k1' k2 |-
 clear e1 e2 k1 ht2
 have dp2:∀G',Same G G'->Dp K G' (.ref t2) (.tuple [.str nm,.tuple [.int (k:Int)]]):=fun G' e'=>.tup (SqT.of (e' _ _ k2)) (.cons (.str nm) (.cons (.tup (SqT.of (e' _ _ k1')) (.cons (.int _) .nil)) .nil))
 refine au (a:=tIfS _ _ _) fun F1 hF1 _ _=>?_
 have go:∀v8:V,(∀G',Same G G'->Dp K G' v8 dW)->F1.nx [some (.ref m),some (.str nm),some (.int (k:Int)),some (.int (ts.length:Int)),some (.ref vd),some (.ref hd),some (.bl b),some (.str wd),some v8] G:=fun v8 hv8=>by
   refine hF1 _ _ ?_
   clear hF1
   have nt:¬ (!decide (V.str wd=V.str wd))=true:=by rw[decide_eq_true rfl];decide
   refine⟨_,rfl,m,dx,fs,rfl,e12 _ _ hm,mW,callW e12 fun G1 s1=>?_⟩
   refine⟨_,rfl,rfl,_,rfl,iteB (fun c=>absurd c nt) (fun _=>?_)⟩
   have e13:=e12.trans s1
   refine⟨_,rfl,m,dx,fs,rfl,e13 _ _ hm,mW,callW e13 fun G2 s2=>?_⟩
   refine⟨_,rfl,_,rfl,iteB (fun c=>absurd c Bool.false_ne_true) (fun _=>?_)⟩
   have e14:=e13.trans s2
   refine⟨_,rfl,m,dx,fs,rfl,e14 _ _ hm,mX,callX e14 fun v G3 s3 hv=>?_⟩
   have e15:=e14.trans s3
   refine⟨_,rfl,dW,dW,hv,hv8 _ ((s1.trans s2).trans s3),okW,okW,?_⟩
   rw[SeqAt.eqv_refl _ okW.1]
   refine⟨_,rfl,iteB (fun c=>absurd c Bool.false_ne_true) (fun _=>?_)⟩
   have h1':=h1.same e15
   refine⟨_,rfl,m,dx,fs,rfl,e15 _ _ hm,mH,m,pd,fl,cd,p,pr,pt,nd',[],g,b,rc,_,rfl,h1'.ma,h1'.kn,fun a1 ha1=>?_⟩
   have s4:=ad ha1 (.dK (vK ys f'))
   refine⟨_,rfl,.mk a1 vd zs ys f' rfl a0 (s4 _ _ (e15 _ _ h2)) h4 h5 h6 fun G5 s5=>⟨_,rfl,iteB (fun _=>?_) (fun c=>absurd c.symm Bool.false_ne_true)⟩⟩
   have e17:=(e15.trans s4).trans s5
   obtain⟨hp,kh,hc⟩:=hkc.same e17
   refine⟨_,rfl,m,dx,fs,rfl,e17 _ _ hm,mP,m,dx,pd,fl,cd,fs,g,b,_,rfl,e17 _ _ hm,hM,kh,fun a2 ha2=>?_⟩
   have s6:=ad ha2 (.dK (hK hp))
   exact⟨_,rfl,.mk a2 hd hs rfl ⟨hp,a0,hc.keep fun b vs=>s6 b _⟩ (h3.same (e17.trans s6)) h7 fun G7 s7=>q _ ((e17.trans s6).trans s7)⟩
 subst hwd hdW
 cases b with
 | true=>exact⟨_,rfl,_,rfl,iteB (fun _=>go _ (fun G' e'=>by rw[if_neg (fun z=>absurd z.1 (by decide))];exact dp2 G' e')) (fun c=>absurd c.symm Bool.false_ne_true)⟩
 | false =>
   refine⟨_,rfl,_,rfl,iteB (fun c=>absurd c Bool.false_ne_true) (fun _=>?_)⟩
   by_cases z:k<ts.length
   . refine⟨_,rfl,_,rfl,rfl,_,rfl,iteB (fun c=>absurd (V.int.inj (of_decide_eq_true c)) (by omega)) (fun _=>?_)⟩
     have:=go (.ref t2) (fun G' e'=>by rw[if_neg (fun y=>y.2 z)];exact dp2 G' e')
     rw[if_neg Bool.false_ne_true,if_pos z] at this
     exact this
   . refine⟨_,rfl,_,rfl,rfl,_,rfl,iteB (fun _=>?_) (fun c=>absurd (decide_eq_true (show V.int (k:Int)=V.int (ts.length:Int) by rw[show k=ts.length by omega])) (by rw[c];exact Bool.false_ne_true))⟩
     have:=go .non (fun G' e'=>by rw[if_pos ⟨rfl,z⟩];exact .non)
     rw[if_neg Bool.false_ne_true,if_neg z] at this
     exact this
structure MI (K:PySem.W.Frag) (CM CF:Addr) (H:Hp) (m dm pd fl cd p dp pr pt nd bd:Addr) (fm fs:List (Str×V)) (nm:Str) (ts:List Addr) (k:Nat) (g:Int) (b:Bool):Prop where
 hm:H m=some (.ins CM dm fm)
 mf:MFs fm pd fl cd g b
 lm:fm.length<=5+k+b.toNat
 hfl:H fl=some (.lst [.ref p])
 hp:H p=some (.ins CF dp fs)
 ff:FFs fs pr pt nd ""
 lf:fs.length<=4+k
 hpr:∃v1 v2 v3 v4,H pr=some (.tup [.str nm,v1,v2,v3,v4,.ref bd])
 hpt:SqT K H pt [.int (k:Int)]
 hbd:H bd=some (.lst (ts.map V.ref))
 mp:m≠p
theorem MI.at1 {K:PySem.W.Frag}{CM CF:Addr}{H:Hp}{m dm pd fl cd p dp pr pt nd bd:Addr}{fm fs:List (Str×V)}{nm:Str}{ts:List Addr}{k:Nat}{g:Int}(h:MI K CM CF H m dm pd fl cd p dp pr pt nd bd fm fs nm ts k g false) (hk:k<=40):At1 K CM CF H m pd fl cd p pr pt nd bd g "" ts k:=by
 obtain⟨v1,v2,v3,v4,hpr⟩:=h.hpr
 exact⟨⟨⟨dm,fm,h.hm,h.mf⟩,h.hfl,⟨dp,fs,h.hp,h.ff,by have:=h.lf;omega⟩⟩,⟨_,_,_,_,_,hpr⟩,h.hpt,h.hbd,h.mp⟩
theorem MI.ms {K:PySem.W.Frag}{CM CF:Addr}{H:Hp}{m dm pd fl cd p dp pr pt nd bd:Addr}{fm fs:List (Str×V)}{nm:Str}{ts:List Addr}{k:Nat}{g:Int}{b:Bool}{ys:List Str}{f:Str->Int}{hs:Hs}(h:MI K CM CF H m dm pd fl cd p dp pr pt nd bd fm fs nm ts k g b) (hk:k<=40) (hn:H nd=some (.dK (vK ys f))) (hc:HA H cd hs):MS K CM CF H m pd fl cd p pr pt nd bd g b "" nm ts k ys f hs :=
 ⟨⟨⟨dm,fm,h.hm,h.mf⟩,h.hfl,⟨dp,fs,h.hp,h.ff,by have:=h.lf;omega⟩⟩,h.hpr,h.hpt,h.hbd,h.mp,hn,hc⟩
theorem dv {zs:List Str}{F:Str->Int}{y:Str}(h:y∈zs++[("nil" : Str)]):numV (vK zs F) y=some (.int (nilF F y)):=by
 unfold numV nilF upF
 by_cases e:y = "nil"
 . rw[if_pos e,if_pos e]
 . rw[if_neg e,if_neg e]
   exact ml ((List.mem_append.mp h).elim id fun z=>absurd (List.mem_singleton.mp z) e)
theorem HA.keep {H H':Hp}{d:Addr}{hs:Hs}(h:HA H d hs) (e:∀b o,(∀C x f,o≠.ins C x f)->H b=some o->H' b=some o):HA H' d hs:=by
 obtain⟨hp,h1,h2⟩:=h
 exact⟨hp,e _ _ (fun _ _ _ z=>by cases z) h1,h2.keep fun b vs hb=>e _ _ (fun _ _ _ z=>by cases z) hb⟩
theorem a7e:("procedures" : Str) ≠ "fallen" /\ ("frames" : Str) ≠ "fallen" /\ ("cells" : Str) ≠ "fallen" /\ ("greatest" : Str) ≠ "fallen" := by decide +kernel
theorem a93:∀m∈j4,m≠("fallen" : Str):=by decide +kernel
theorem MFs.fell {fs:List (Str×V)}{pd fl cd:Addr}{g:Int}{b:Bool}(h:MFs fs pd fl cd g b) (hl:fs.length<50):MFs (putF "fallen" (.bl true) fs) pd fl cd g true:=by
 obtain⟨n1,n2,n3,n4⟩:=a7e
 refine⟨?_,?_,?_,?_,?_,?_,fun m hm=>?_⟩
 . rw[aj,if_neg n1];exact h.procedures
 . rw[aj,if_neg n2];exact h.frames
 . rw[aj,if_neg n3];exact h.cells
 . rw[aj,if_neg n4];exact h.greatest
 . rw[aj,if_pos rfl]
 . have:=bb "fallen" (.bl true) fs;omega
 . rw[aj,if_neg (a93 m hm)];exact h.meth m hm
theorem a1w:places.lookup ("set" : Str)=none/\places.lookup ("new" : Str)=none/\places.lookup ("free" : Str)=some (.int ((1:Nat):Int))/\places.lookup ("write" : Str)=some (.int ((1:Nat):Int))/\places.lookup ("read" : Str)=some (.int ((2:Nat):Int)):=by
 unfold places
 simp only[List.lookup_cons]
 refine⟨?_,?_,?_,?_,?_⟩
 . rw[show (("set" : Str) == ("read" : Str))=false by decide +kernel,show (("set" : Str) == ("write" : Str))=false by decide +kernel,show (("set" : Str) == ("free" : Str))=false by decide +kernel];rfl
 . rw[show (("new" : Str) == ("read" : Str))=false by decide +kernel,show (("new" : Str) == ("write" : Str))=false by decide +kernel,show (("new" : Str) == ("free" : Str))=false by decide +kernel];rfl
 . rw[show (("free" : Str) == ("read" : Str))=false by decide +kernel,show (("free" : Str) == ("write" : Str))=false by decide +kernel,show (("free" : Str) == ("free" : Str))=true by decide +kernel];rfl
 . rw[show (("write" : Str) == ("read" : Str))=false by decide +kernel,show (("write" : Str) == ("write" : Str))=true by decide +kernel];rfl
 . rw[show (("read" : Str) == ("read" : Str))=true by decide +kernel];rfl
theorem jd:∀x∈([("set" : Str),"new","free","write","read"]:List Str),x ≠ "if" /\ x ≠ "while" /\ x ≠ "call" := by decide +kernel
noncomputable def KpM (m p nd cd:Addr) (H H':Hp):Prop:=∀b o,b≠m->b≠p->b≠nd->b≠cd->H b=some o->H' b=some o
theorem a8k {K:PySem.W.Frag}{CM CF:Addr}{H:Hp}{m dm pd fl cd p dp pr pt nd bd t:Addr}{fm fs:List (Str×V)}{nm:Str}{ts:List Addr}{k:Nat}{g:Int}{d:Dd}{ys:List Str}{F:Str->Int}{hs:Hs}{Q:VK}{E:XK}(I:MI K CM CF H m dm pd fl cd p dp pr pt nd bd fm fs nm ts k g false) (hk40:k<=35) (hk:ts[k]? = some t) (ht:H t=some (.tup ((rowD d).map V.str))) (hn:H nd=some (.dK (vK ys F))) (hA:HA H cd hs) (hz:ys.length<=100) (hl:hs.length<=900) (nc:nd≠cd) (may:InZ ys d)
   (q0:fg d F hs g=none->∀H' fm',KpM m p nd cd H H'->MI K CM CF H' m dm pd fl cd p dp pr pt nd bd fm' fs nm ts k g true->H' nd=some (.dK (vK ys F))->HA H' cd hs->Q .non H')
   (q1:∀F' hs' g',fg d F hs g=some (F',hs',g')->∀H' pt' fm' fs',KpM m p nd cd H H'->MI K CM CF H' m dm pd fl cd p dp pr pt' nd bd fm' fs' nm ts (k+1) g' false->H' nd=some (.dK (vK ys F'))->HA H' cd hs'->Q .non H'):spStep1 K CM CF [.ref m] H Q E:=by
 obtain⟨p1,p2,p3,p4,p5⟩:=a1w
 obtain⟨hp,hc,cA⟩:=id hA
 have hpl:hp.length<=900:=by rw[Paired.length cA];exact hl
 have nmn:nd≠m:=fun z=>by rw[z,I.hm] at hn;cases hn
 have npn:nd≠p:=fun z=>by rw[z,I.hp] at hn;cases hn
 have nmc:cd≠m:=fun z=>by rw[z,I.hm] at hc;cases hc
 have npc:cd≠p:=fun z=>by rw[z,I.hp] at hc;cases hc
 have out:∀{b:Addr} {o:HO},H b=some o->(∀C d f,o≠.ins C d f)->(∀kvs,o≠.dK kvs)->b≠m/\b≠p/\b≠nd/\b≠cd:=fun {b o} hb h1 h2=>⟨fun z=>by rw[z,I.hm] at hb;cases hb;exact h1 _ _ _ rfl,fun z=>by rw[z,I.hp] at hb;cases hb;exact h1 _ _ _ rfl,fun z=>by rw[z,hn] at hb;cases hb;exact h2 _ rfl,fun z=>by rw[z,hc] at hb;cases hb;exact h2 _ rfl⟩
 have hlm:=I.lm
 rw[Bool.toNat_false] at hlm
 have hlf:=I.lf
 obtain⟨v1,v2,v3,v4,hpr⟩:=I.hpr
 have after:∀(H1 H2:Hp) (fm':List (Str×V)) (F':Str->Int) (hs':Hs) (g':Int),fg d F hs g=some (F',hs',g')->Same H H1->H2 m=some (.ins CM dm fm')->MFs fm' pd fl cd g' false->fm'.length<=6+k->H2 p=some (.ins CF dp fs)->(∀b o,b≠m->b≠p->b≠nd->b≠cd->H1 b=some o->H2 b=some o)->H2 nd=some (.dK (vK ys F'))->HA H2 cd hs'->
     ((.non:V)=.non/\(∃g',At1 K CM CF H2 m pd fl cd p pr pt nd bd g' "" ts k)/\∀q1 dx fs2 fs' H3,Same H2 H3->SqT K H3 q1 [.int ((k:Int)+1)]->H2 p=some (.ins CF dx fs2)->FFs fs' pr q1 nd "" -> fs'.length<=fs2.length+1->Q .non (upd H3 p (.ins CF dx fs'))):=by
   intro H1 H2 fm' F' hs' g' est e1 hm2 mf2 lm2 hp2 keep hn2 hA2
   have kp:∀{b:Addr} {o:HO},H b=some o->(∀C d f,o≠.ins C d f)->(∀kvs,o≠.dK kvs)->H2 b=some o:=fun {b o} hb h1 h2=>by
     obtain⟨a1,a2,a3,a4⟩:=out hb h1 h2
     exact keep b o a1 a2 a3 a4 (e1 _ _ hb)
   have kt:∀{b:Addr} {vs:List V},H b=some (.tup vs)->H2 b=some (.tup vs):=fun hb=>kp hb (fun _ _ _ z=>by cases z) (fun _ z=>by cases z)
   have kl:∀{b:Addr} {vs:List V},H b=some (.lst vs)->H2 b=some (.lst vs):=fun hb=>kp hb (fun _ _ _ z=>by cases z) (fun _ z=>by cases z)
   refine⟨rfl,⟨g',⟨⟨dm,fm',hm2,mf2⟩,kl I.hfl,⟨dp,fs,hp2,I.ff,by omega⟩⟩,⟨_,v1,v2,v3,v4,kt hpr⟩,i6 I.hpt fun o h1 h2 h3=>kp h1 h2 h3,kl I.hbd,I.mp⟩,fun r1 dx fs2 fs' H3 e3 hq1 hp3 ff' lf'=>?_⟩
   rw[hp2] at hp3
   cases hp3
   have nu:∀{b:Addr} {o:HO},H2 b=some o->(∀C d f,o≠.ins C d f)->b≠p:=fun hb h1 z=>by rw[z,hp2] at hb;cases hb;exact h1 _ _ _ rfl
   have k3:∀b o,b≠p->H2 b=some o->(upd H3 p (.ins CF dp fs')) b=some o:=fun b o nb hb=>by rw[ac nb];exact e3 _ _ hb
   have nqp:∀{vs:List V},SqT K H3 r1 vs->SqT K (upd H3 p (.ins CF dp fs')) r1 vs:=fun h=>i6 h fun o h1 h2 h3=>by rw[ac (fun z=>by rw[z,e3 _ _ hp2] at h1;cases h1;exact h2 _ _ _ rfl)];exact h1
   exact q1 F' hs' g' est _ r1 fm' fs' (fun b o a1 a2 a3 a4 hb=>k3 b o a2 (keep b o a1 a2 a3 a4 (e1 _ _ hb))) ⟨k3 _ _ I.mp hm2,mf2,by rw[Bool.toNat_false];omega,k3 _ _ (nu (kl I.hfl) fun _ _ _ z=>by cases z) (kl I.hfl),a0,ff',by omega,⟨v1,v2,v3,v4,k3 _ _ (nu (kt hpr) fun _ _ _ z=>by cases z) (kt hpr)⟩,nqp hq1,k3 _ _ (nu (kl I.hbd) fun _ _ _ z=>by cases z) (kl I.hbd),I.mp⟩ (k3 _ _ npn hn2) (hA2.keep fun b o ho hb=>k3 _ _ (nu hb ho) hb)
 have fell:∀H1,Same H H1->fg d F hs g=none->Q .non (upd H1 m (.ins CM dm (putF "fallen" (.bl true) fm))):=fun H1 e1 est=>by
   have hlp:=bb "fallen" (.bl true) fm
   have ku:∀{b:Addr} {o:HO},(∀C d f,o≠.ins C d f)->H b=some o->(upd H1 m (.ins CM dm (putF "fallen" (.bl true) fm))) b=some o:=fun ho hb=>by rw[ac (fun z=>by rw[z,I.hm] at hb;cases hb;exact ho _ _ _ rfl)];exact e1 _ _ hb
   exact q0 est _ _ (fun b o a1 _ _ _ hb=>by rw[ac a1];exact e1 _ _ hb) ⟨a0,I.mf.fell (by omega),by rw[Bool.toNat_true];omega,ku (fun _ _ _ z=>by cases z) I.hfl,by rw[ac (Ne.symm I.mp)];exact e1 _ _ I.hp,I.ff,I.lf,⟨v1,v2,v3,v4,ku (fun _ _ _ z=>by cases z) hpr⟩,i6 I.hpt fun o h1 h2 _=>ku h2 h1,ku (fun _ _ _ z=>by cases z) I.hbd,I.mp⟩ (ku (fun _ _ _ z=>by cases z) hn) (hA.keep fun b o ho hb=>ku ho hb)
 have hkl:(vK ys F).length<=100:=by unfold vK;rw[List.length_map];exact hz
 have hcl:(hK hp).length<=900:=by unfold hK;rw[List.length_map];exact hpl
 have mm:∀{H1:Hp} {o:HO},Same H H1->(upd H1 nd o) m=some (.ins CM dm fm):=fun e1=>by rw[ac (Ne.symm nmn)];exact e1 _ _ I.hm
 have mp':∀{H1:Hp} {o:HO},Same H H1->(upd H1 nd o) p=some (.ins CF dp fs):=fun e1=>by rw[ac (Ne.symm npn)];exact e1 _ _ I.hp
 have cm':∀{H1:Hp} {o:HO},Same H H1->(upd H1 cd o) m=some (.ins CM dm fm):=fun e1=>by rw[ac (Ne.symm nmc)];exact e1 _ _ I.hm
 have cp':∀{H1:Hp} {o:HO},Same H H1->(upd H1 cd o) p=some (.ins CF dp fs):=fun e1=>by rw[ac (Ne.symm npc)];exact e1 _ _ I.hp
 cases d with
 | set x e =>
   refine .mk m pd fl cd p pr pt nd bd t g "" "set" [.str x,.str e] ts k (vK ys F) (hK hp) rfl (I.at1 (by omega)) hk ht (jd _ (by simp)) hn hc (.inl p1) fun H1 e1=>?_
   refine .set m p dp pr pt nd t fs "" x e (vK ys F) (.int (nilF F e)) rfl (e1 _ _ I.hp) I.ff (e1 _ _ ht) (e1 _ _ hn) hkl (dv may.2) ?_
   rw[j9 may.1]
   exact after H1 _ fm _ _ _ rfl e1 (mm e1) I.mf (by omega) (mp' e1) (fun b o _ _ a3 _ hb=>by rw[ac a3];exact hb) a0 ((hA.same e1).put (e1 _ _ hn) (Ne.symm nc) _)
 | new x y z =>
   obtain⟨hx,hy,hz'⟩:=may
   refine .mk m pd fl cd p pr pt nd bd t g "" "new" [.str x,.str y,.str z] ts k (vK ys F) (hK hp) rfl (I.at1 (by omega)) hk ht (jd _ (by simp)) hn hc (.inl p2) fun H1 e1=>?_
   refine .new m p dm dp pr pt nd pd fl cd t fm fs "" x y z g false (vK ys F) (hK hp) (.int (nilF F y)) (.int (nilF F z)) rfl (e1 _ _ I.hm) I.mf (by omega) I.mp nc (e1 _ _ I.hp) I.ff (e1 _ _ ht) (e1 _ _ hn) hkl (dv hy) (dv hz') (e1 _ _ hc) hcl fun c hcn=>?_
   rw[j9 hx]
   have s2:=ad hcn (.tup [V.int (nilF F y),V.int (nilF F z)])
   have k2:(upd H1 c (.tup [V.int (nilF F y),V.int (nilF F z)])) c=some (.tup [V.int (nilF F y),V.int (nilF F z)]):=a0
   generalize upd H1 c (.tup [V.int (nilF F y),V.int (nilF F z)])=H2 at s2 k2 |-
   have e2:=e1.trans s2
   have cm:c≠m:=fun w=>by rw[w,e2 _ _ I.hm] at k2;cases k2
   have hlp:=bb "greatest" (.int (g+1)) fm
   have k3:∀b o,b≠m->H2 b=some o->(upd H2 m (.ins CM dm (putF "greatest" (.int (g+1)) fm))) b=some o:=fun b o nb hb=>by rw[ac nb];exact hb
   have hA3:=HA.put1 (i:=g+1) (c:=(nilF F y,nilF F z)) (k3 _ _ cm k2) (k3 _ _ nmc (e2 _ _ hc)) (cA.keep fun b vs hb=>k3 _ _ (fun z=>by rw[z,I.hm] at hb;cases hb) (e2 _ _ hb))
   have hn3:(upd (upd H2 m (.ins CM dm (putF "greatest" (.int (g+1)) fm))) cd (.dK (putK (hK hp) (Sum.inl (g+1)) (.ref c)))) nd=some (.dK (vK ys F)):=by rw[ac nc,ac nmn];exact e2 _ _ hn
   exact after H2 _ (putF "greatest" (.int (g+1)) fm) _ _ _ rfl e2 (by rw[ac (Ne.symm nmn),ac (Ne.symm nmc),a0]) (I.mf.great (by omega) _) (by omega) (by rw[ac (Ne.symm npn),ac (Ne.symm npc),ac (Ne.symm I.mp)];exact e2 _ _ I.hp) (fun b o a1 a2 a3 a4 hb=>by rw[ac a3,ac a4,ac a1];exact hb) a0 (hA3.put hn3 (Ne.symm nc) _)
 | read x y fld =>
   obtain⟨hx,hy,hfl⟩:=may
   have est:∀o,hs.lookup (nilF F y)=o->fg (.read x y fld) F hs g=o.map fun c=>(upF F x (if fld = "second" then c.2 else c.1),hs,g):=fun o z=>by show Option.map _ (hs.lookup (nilF F y))=_;rw[z]
   rcases dt (i:=nilF F y) cA with⟨hno,hval⟩|⟨c,r,hlo,hval,hr⟩
   . exact .fall m dm pd fl cd p pr pt nd bd t fm g "" "read" y [.str x,.str y,.str fld] ts k 2 (vK ys F) (hK hp) (nilF F y) rfl (I.at1 (by omega)) I.hm (by omega) hk ht hn hc p5 rfl (dv hy) hval fun H1 e1=>fell H1 e1 (est _ hno)
   . refine .mk m pd fl cd p pr pt nd bd t g "" "read" [.str x,.str y,.str fld] ts k (vK ys F) (hK hp) rfl (I.at1 (by omega)) hk ht (jd _ (by simp)) hn hc (.inr ⟨2,y,nilF F y,.ref r,p5,rfl,dv hy,hval⟩) fun H1 e1=>?_
     have h10:(fld = "first" /\ V.int (if fld = "second" then c.2 else c.1)=.int c.1)\/(fld = "second" /\ V.int (if fld = "second" then c.2 else c.1)=.int c.2):=by
       rcases hfl with z|z
       . exact .inl ⟨z,by rw[if_neg (fun w=>by rw[z] at w;exact absurd w (by decide +kernel))]⟩
       . exact .inr ⟨z,by rw[if_pos z]⟩
     refine .read m p dm dp pr pt nd pd fl cd t r fm fs "" x y fld g false (vK ys F) (hK hp) (nilF F y) (.int c.1) (.int c.2) _ rfl (e1 _ _ I.hm) I.mf (e1 _ _ I.hp) I.ff (e1 _ _ ht) (e1 _ _ hn) hkl (dv hy) (e1 _ _ hc) hval (SqT.of (e1 _ _ hr)) h10 ?_
     rw[j9 hx]
     exact after H1 _ fm _ _ _ (est _ hlo) e1 (mm e1) I.mf (by omega) (mp' e1) (fun b o _ _ a3 _ hb=>by rw[ac a3];exact hb) a0 ((hA.same e1).put (e1 _ _ hn) (Ne.symm nc) _)
 | free y =>
   have hy:y∈ys++[("nil" : Str)]:=may
   have est:∀o,hs.lookup (nilF F y)=o->fg (.free y) F hs g=o.map fun _=>(F,hs.filter (fun p=>decide (p.1≠nilF F y)),g):=fun o z=>by show Option.map _ (hs.lookup (nilF F y))=_;rw[z]
   rcases dt (i:=nilF F y) cA with⟨hno,hval⟩|⟨c,r,hlo,hval,hr⟩
   . exact .fall m dm pd fl cd p pr pt nd bd t fm g "" "free" y [.str y] ts k 1 (vK ys F) (hK hp) (nilF F y) rfl (I.at1 (by omega)) I.hm (by omega) hk ht hn hc p3 rfl (dv hy) hval fun H1 e1=>fell H1 e1 (est _ hno)
   . refine .mk m pd fl cd p pr pt nd bd t g "" "free" [.str y] ts k (vK ys F) (hK hp) rfl (I.at1 (by omega)) hk ht (jd _ (by simp)) hn hc (.inr ⟨1,y,nilF F y,.ref r,p3,rfl,dv hy,hval⟩) fun H1 e1=>?_
     refine .free m p dm dp pr pt nd pd fl cd t fm fs "" y g false (vK ys F) (hK hp) (nilF F y) (.ref r) rfl (e1 _ _ I.hm) I.mf (e1 _ _ I.hp) I.ff (e1 _ _ ht) (e1 _ _ hn) (dv hy) (e1 _ _ hc) hval ?_
     exact after H1 _ fm _ _ _ (est _ hlo) e1 (cm' e1) I.mf (by omega) (cp' e1) (fun b o _ _ _ a4 hb=>by rw[ac a4];exact hb) (by rw[ac nc];exact e1 _ _ hn) (HA.drop1 (e1 _ _ hc) (cA.keep fun b vs=>e1 b _))
 | write y fld e =>
   obtain⟨hy,hfl,he⟩:=may
   have est:∀o,hs.lookup (nilF F y)=o->fg (.write y fld e) F hs g=o.map fun c=>(F,putA hs (nilF F y) (if fld = "first" then (nilF F e,c.2) else (c.1,nilF F e)),g):=fun o z=>by show Option.map _ (hs.lookup (nilF F y))=_;rw[z]
   rcases dt (i:=nilF F y) cA with⟨hno,hval⟩|⟨c,r,hlo,hval,hr⟩
   . exact .fall m dm pd fl cd p pr pt nd bd t fm g "" "write" y [.str y,.str fld,.str e] ts k 1 (vK ys F) (hK hp) (nilF F y) rfl (I.at1 (by omega)) I.hm (by omega) hk ht hn hc p4 rfl (dv hy) hval fun H1 e1=>fell H1 e1 (est _ hno)
   . refine .mk m pd fl cd p pr pt nd bd t g "" "write" [.str y,.str fld,.str e] ts k (vK ys F) (hK hp) rfl (I.at1 (by omega)) hk ht (jd _ (by simp)) hn hc (.inr ⟨1,y,nilF F y,.ref r,p4,rfl,dv hy,hval⟩) fun H1 e1=>?_
     generalize hcc:(if fld = "first" then (nilF F e,c.2) else (c.1,nilF F e))=cc
     have h10:(fld = "first" /\ V.int cc.1=.int (nilF F e)/\V.int cc.2=.int c.2)\/(fld = "second" /\ V.int cc.1=.int c.1/\V.int cc.2=.int (nilF F e)):=by
       subst hcc
       rcases hfl with z|z
       . exact .inl ⟨z,by rw[if_pos z],by rw[if_pos z]⟩
       . have nz:¬ fld = "first" := fun w=>by rw[z] at w;exact absurd w (by decide +kernel)
         exact .inr ⟨z,by rw[if_neg nz],by rw[if_neg nz]⟩
     refine .write m p dm dp pr pt nd pd fl cd t r fm fs "" y fld e g false (vK ys F) (hK hp) (nilF F y) (.int c.1) (.int c.2) (.int (nilF F e)) (.int cc.1) (.int cc.2) rfl (e1 _ _ I.hm) I.mf (e1 _ _ I.hp) I.ff (e1 _ _ ht) (e1 _ _ hn) (dv hy) (dv he) (e1 _ _ hc) hcl hval (SqT.of (e1 _ _ hr)) h10 fun r4 H2 s2 _ k2=>?_
     have e2:=e1.trans s2
     refine after H2 _ fm F (putA hs (nilF F y) cc) g ?_ e2 (cm' e2) I.mf (by omega) (cp' e2) (fun b o _ _ _ a4 hb=>by rw[ac a4];exact hb) (by rw[ac nc];exact e2 _ _ hn) (HA.put1 k2 (e2 _ _ hc) (cA.keep fun b vs=>e2 b _))
     rw[est _ hlo,<- hcc];rfl
noncomputable def prc (x:Str) (ps:List Str) (res:Str) (ds:List Dd):Prc:=⟨x,res,ps,[],[],[],[],ds.map fun d=>.plain (.row (rowD d))⟩
theorem zd:(("free" : Str),[("name" : Str)])∈forms/\(("new" : Str),[("name" : Str),"value","value"])∈forms/\(("set" : Str),[("name" : Str),"value"])∈forms/\(("read" : Str),[("name" : Str),"name","field"])∈forms/\(("write" : Str),[("name" : Str),"field","value"])∈forms:=by decide +kernel
theorem l7 {x:Str}(h:bm x=true):Short x:=by
 unfold bm at h
 split at h
 . cases h
 . rename_i hn
   have:¬ 8<x.length:=fun z=>hn (.inr (.inl z))
   show x.length<=1000
   omega
theorem yn:bm "" = false/\bm "nil" = false:=by decide +kernel
theorem short_words':∀y∈([("free" : Str),"new","set","nil","","read","write","first","second"]:List Str),y.length<=1000:=by decide +kernel
theorem u9 {xs:List Str}{d:Dd}(h:InD xs d) {y:Str}(hy:y∈rowD d):y∈xs\/y∈([("free" : Str),"new","set","nil","","read","write","first","second"]:List Str):=by
 have k:∀{w:Str},w∈xs++[("nil" : Str)]->w∈xs\/w∈([("free" : Str),"new","set","nil","","read","write","first","second"]:List Str):=fun hw=>(List.mem_append.mp hw).imp id fun z=>by rw[List.mem_singleton.mp z];simp
 have kf:∀{w:Str},mj w->w∈([("free" : Str),"new","set","nil","","read","write","first","second"]:List Str):=fun hw=>by rcases hw with rfl|rfl<;>simp
 cases d with
 | free x =>
   have hy':y∈[("free" : Str),x]:=hy
   simp only[List.mem_cons,List.not_mem_nil,or_false] at hy'
   rcases hy' with rfl|rfl
   . exact .inr (by simp)
   . exact .inl h
 | new x u v =>
   obtain⟨h1,h2,h3⟩:=h
   have hy':y∈[("new" : Str),x,u,v]:=hy
   simp only[List.mem_cons,List.not_mem_nil,or_false] at hy'
   rcases hy' with rfl|rfl|rfl|rfl
   . exact .inr (by simp)
   . exact .inl h1
   . exact k h2
   . exact k h3
 | set x e =>
   have hy':y∈[("set" : Str),x,e]:=hy
   simp only[List.mem_cons,List.not_mem_nil,or_false] at hy'
   rcases hy' with rfl|rfl|rfl
   . exact .inr (by simp)
   . exact .inl h.1
   . exact k h.2
 | read x u fld =>
   obtain⟨h1,h2,h3⟩:=h
   have hy':y∈[("read" : Str),x,u,fld]:=hy
   simp only[List.mem_cons,List.not_mem_nil,or_false] at hy'
   rcases hy' with rfl|rfl|rfl|rfl
   . exact .inr (by simp)
   . exact .inl h1
   . exact .inl h2
   . exact .inr (kf h3)
 | write u fld e =>
   obtain⟨h1,h2,h3⟩:=h
   have hy':y∈[("write" : Str),u,fld,e]:=hy
   simp only[List.mem_cons,List.not_mem_nil,or_false] at hy'
   rcases hy' with rfl|rfl|rfl|rfl
   . exact .inr (by simp)
   . exact .inl h1
   . exact .inr (kf h2)
   . exact k h3
theorem a66:∀y∈([("free" : Str),"new","set","nil","","read","write","first","second"]:List Str),Ok y:=fun y hy=>x0 y (by simp only[List.mem_cons,List.not_mem_nil,or_false] at hy |-;rcases hy with rfl|rfl|rfl|rfl|rfl|rfl|rfl|rfl|rfl<;>simp)
theorem aaa {xs:List Str}{d:Dd}(hx:∀x∈xs,bm x=true) (h:InD xs d):PlOk (.row (rowD d)):=by
 have hn:∀y∈rowD d,Ok y:=fun y hy=>(u9 h hy).elim (fun z=>jl (hx y z)) (a66 y)
 obtain⟨f1,f2,f3,f4,f5⟩:=zd
 cases d with
 | free x=>exact⟨⟨"free",[x],_,rfl,f1,rfl⟩,hn⟩
 | new x y z=>exact⟨⟨"new",[x,y,z],_,rfl,f2,rfl⟩,hn⟩
 | set x e=>exact⟨⟨"set",[x,e],_,rfl,f3,rfl⟩,hn⟩
 | read x y fld=>exact⟨⟨"read",[x,y,fld],_,rfl,f4,rfl⟩,hn⟩
 | write y fld e=>exact⟨⟨"write",[y,fld,e],_,rfl,f5,rfl⟩,hn⟩
theorem a8q (d:Dd):wrd (.plain (.row (rowD d)))=bu d:=by
 obtain⟨f1,f2,f3,f4,f5⟩:=zd
 have n1:io "name" = true:=by decide +kernel
 have n2:io "value" = true:=by decide +kernel
 have n3:io "field" = false:=by decide +kernel
 cases d with
 | free x=>show ef "free" [x]=[x];unfold ef;rw[ee fh f1];simp[zipF,n1]
 | new x y z=>show ef "new" [x,y,z]=[x,y,z];unfold ef;rw[ee fh f2];simp[zipF,n1,n2]
 | set x e=>show ef "set" [x,e]=[x,e];unfold ef;rw[ee fh f3];simp[zipF,n1,n2]
 | read x y fld=>show ef "read" [x,y,fld]=[x,y];unfold ef;rw[ee fh f4];simp[zipF,n1,n3]
 | write y fld e=>show ef "write" [y,fld,e]=[y,e];unfold ef;rw[ee fh f5];simp[zipF,n1,n2,n3]
theorem jx (b:Nat) (ds:List Dd):allL [b] (ds.map fun d=>Deed.plain (.row (rowD d)))=ds.map fun d=>Deed.plain (.row (rowD d)):=by
 show (ds.map fun d=>Deed.plain (.row (rowD d))).flatMap (allD (allL []))=_
 induction ds with
 | nil=>rfl
 | cons d ds ih=>rw[List.map_cons,List.flatMap_cons,ih];rfl
theorem a4w {x res:Str}{ps:List Str}{ds:List Dd}:allW [30] (prc x ps res ds)=gr ps res ds:=by
 unfold allW gr
 have e:(allL [30] (prc x ps res ds).body).flatMap wrd=ds.flatMap bu:=by
   show (allL [30] (ds.map fun d=>Deed.plain (.row (rowD d)))).flatMap wrd=_
   rw[jx,List.flatMap_map]
   congr 1
   funext d
   exact a8q d
 rw[e]
 show ps++[res]++words []++words []++ds.flatMap bu=_
 simp[words]
theorem a8a {xs:List Str}{d:Dd}(h:InD xs d) {y:Str}(hy:y∈bu d):y∈xs\/y = "nil" := by
 have k:∀{w:Str},w∈xs++[("nil" : Str)]->w∈xs\/w = "nil" := fun hw=>(List.mem_append.mp hw).imp id List.mem_singleton.mp
 cases d with
 | free x=>have hy':y∈[x]:=hy;rw[List.mem_singleton.mp hy'];exact .inl h
 | new x u v =>
   have hy':y∈[x,u,v]:=hy
   simp only[List.mem_cons,List.not_mem_nil,or_false] at hy'
   rcases hy' with rfl|rfl|rfl
   . exact .inl h.1
   . exact k h.2.1
   . exact k h.2.2
 | set x e =>
   have hy':y∈[x,e]:=hy
   simp only[List.mem_cons,List.not_mem_nil,or_false] at hy'
   rcases hy' with rfl|rfl
   . exact .inl h.1
   . exact k h.2
 | read x u fld =>
   have hy':y∈[x,u]:=hy
   simp only[List.mem_cons,List.not_mem_nil,or_false] at hy'
   rcases hy' with rfl|rfl
   . exact .inl h.1
   . exact .inl h.2.1
 | write u fld e =>
   have hy':y∈[u,e]:=hy
   simp only[List.mem_cons,List.not_mem_nil,or_false] at hy'
   rcases hy' with rfl|rfl
   . exact .inl h.1
   . exact k h.2.2
theorem jz {xs ps:List Str}{res:Str}{ds:List Dd}(hps:∀y∈ps,y∈xs) (hres:res = "" \/ res∈xs) (hi:∀d∈ds,InD xs d) {y:Str}(hy:y∈gr ps res ds):y = "" \/ y = "nil" \/ y∈xs:=by
 unfold gr at hy
 rcases List.mem_append.mp hy with z|z
 . rcases List.mem_append.mp z with z|z
   . exact .inr (.inr (hps y z))
   . rw[List.mem_singleton.mp z];exact hres.imp id .inr
 . obtain⟨d,hd,z⟩:=List.mem_flatMap.mp z
   exact (a8a (hi d hd) z).elim (fun w=>.inr (.inr w)) fun w=>.inr (.inl w)
theorem a48 {xs ps:List Str}{x res:Str}{ds:List Dd}(hx:∀x∈xs,bm x=true) (hps:∀y∈ps,y∈xs) (hres:res = "" \/ res∈xs) (hi:∀d∈ds,InD xs d) {y:Str}:(bm y=true/\y∈allW [30] (prc x ps res ds))↔(y ≠ "" /\ y ≠ "nil" /\ y∈gr ps res ds):=by
 obtain⟨n1,n2⟩:=yn
 rw[a4w]
 constructor
 . rintro⟨h,hy⟩
   exact⟨fun z=>(by rw[z,n1] at h;cases h),fun z=>(by rw[z,n2] at h;cases h),hy⟩
 . rintro⟨h1,h2,hy⟩
   rcases jz hps hres hi hy with z|z|z
   . exact absurd z h1
   . exact absurd z h2
   . exact⟨hx y z,hy⟩
theorem a92 {x res:Str}{xs ps:List Str}{ds:List Dd}(hx:∀x∈xs,bm x=true) (hps:∀y∈ps,y∈xs) (hpl:ps.length<=8) (hres:res = "" \/ res∈xs) (hi:∀d∈ds,InD xs d) (hl:ds.length<=30) (h6:xs.length<=20):PrcOk [30] xs (prc x ps res ds):=by
 have t0:TOk xs [] []:=⟨⟨by decide,fun r hr=>by cases hr⟩,⟨by decide,fun r hr=>by cases hr⟩,(fun r hr=>by cases hr),fun y hy=>by simp[words] at hy⟩
 refine⟨⟨hpl,fun y hy=>l7 (hx y (hps y hy))⟩,?_,t0,t0,?_,?_,h6,?_⟩
 . rcases hres with z|z
   . show Short res;rw[z];exact short_words' "" (by simp)
   . exact l7 (hx _ z)
 . show ∀d∈allL [30] (ds.map fun d=>Deed.plain (.row (rowD d))),_
   rw[jx]
   intro d hd
   obtain⟨e,he,rfl⟩:=List.mem_map.mp hd
   intro y hy
   exact (u9 (hi e he) hy).elim (fun z=>l7 (hx y z)) (short_words' y)
 . show (allL [30] (ds.map fun d=>Deed.plain (.row (rowD d)))).length<=30
   rw[jx,List.length_map];exact hl
 . intro y hy hn
   obtain⟨h1,h2,h3⟩:=(a48 (x:=x) hx hps hres hi).mp ⟨hn,hy⟩
   rcases jz hps hres hi h3 with z|z|z
   . exact absurd z h1
   . exact absurd z h2
   . exact z
theorem a57 {K:PySem.W.Frag}{ds:List Deed}{k:Nat}(hk:k<=ds.length) (G':Hp) (bd:Addr) (h:ListX K G' [30] bd ds):∃e,Stands G' bd [] k ([],k) e:=by
 obtain⟨ts,h1,h2,h3⟩:=h
 have hl:=Paired.length h2
 by_cases z:k<ts.length
 . exact⟨_,.own bd _ ts rfl h1 (List.getElem?_eq_getElem z) rfl rfl⟩
 . have z':ts.length=k:=by omega
   have:=LEnd.top (H:=G') (bd:=bd) ts h1
   rw[z'] at this
   exact⟨_,.fin bd ts this h1 z'.symm⟩
theorem a89 {K:PySem.W.Frag}{H:Hp}{xs:List Str}{l:Addr}{ts:List Addr}{ds:List Dd}(hx:∀x∈xs,bm x=true) (hi:∀d∈ds,InD xs d) (hl:H l=some (.lst (ts.map V.ref))) (hr:RowsX H ts ds) (h30:ds.length<=30):ListX K H [30] l (ds.map fun d=>Deed.plain (.row (rowD d))):=by
 refine⟨ts,hl,?_,by rw[Paired.length hr];exact h30⟩
 have:∀{ts:List Addr} {ds:List Dd},(∀d∈ds,InD xs d)->RowsX H ts ds->Paired (DeedX K H (ListX K H [])) ts (ds.map fun d=>Deed.plain (.row (rowD d))):=fun {ts ds} hi h=>by
   unfold RowsX at h
   induction h with
   | nil=>exact .nil
   | cons h1 _ ih=>exact .cons (.plain _ h1 (aaa hx (hi _ (List.mem_cons_self ..)))) (ih fun d hd=>hi d (List.mem_cons_of_mem _ hd))
 exact this hi hr
theorem a1e {K:PySem.W.Frag}{H:Hp}{l:Addr}{ds:List Dd}(h:ListX K H [30] l (ds.map fun d=>Deed.plain (.row (rowD d)))):∃ts,H l=some (.lst (ts.map V.ref))/\RowsX H ts ds:=by
 obtain⟨ts,h1,h2,h3⟩:=h
 refine⟨ts,h1,?_⟩
 have:∀(ts:List Addr) (ds:List Dd),Paired (DeedX K H (ListX K H [])) ts (ds.map fun d=>Deed.plain (.row (rowD d)))->RowsX H ts ds:=fun ts ds=>by
   induction ds generalizing ts with
   | nil=>intro h;cases h;exact .nil
   | cons d ds ih =>
     intro h
     rw[List.map_cons] at h
     cases h with
     | cons h1 h2 =>
       refine .cons ?_ (ih _ h2)
       cases h1 with
       | plain p a b=>exact a
 exact this ts ds h2
theorem y9 {ys:List Str}{f:Str->Int}:∀{zs:List Str},(∀z∈zs,z∈ys)->(fz (vK ys f) zs).map kk=vK zs f
 | [],_=>rfl
 | z::zs,h=>by
   have ih:=y9 (f:=f) fun y hy=>h y (List.mem_cons_of_mem _ hy)
   unfold fz vK at ih |-
   rw[List.map_cons,List.map_cons,List.map_cons,ih]
   have e:=ml (f:=f) (h z (List.mem_cons_self ..))
   unfold vK at e
   rw[e];rfl
theorem a80 (hp:List (Int×Addr)):(hK hp).map (fun kv=>kV kv.1)=(hp.map (·.1)).map V.int:=by unfold hK;rw[List.map_map,List.map_map];rfl
theorem a6f {xs ps zs:List Str}{res:Str}{ds:List Dd}(hx:∀x∈xs,bm x=true) (hi:∀d∈ds,InD xs d) (hz:∀y,y∈zs↔y ≠ "" /\ y ≠ "nil" /\ y∈gr ps res ds) {d:Dd}(hd:d∈ds):InZ zs d:=by
 obtain⟨n1,n2⟩:=yn
 have nn:∀{y:Str},y∈xs->y ≠ "" /\ y ≠ "nil" := fun {y} hy=>⟨fun z=>(by have:=hx y hy;rw[z,n1] at this;cases this),fun z=>(by have:=hx y hy;rw[z,n2] at this;cases this)⟩
 have sw:∀{y:Str},y∈bu d->y∈gr ps res ds:=fun hy=>List.mem_append.mpr (.inr (List.mem_flatMap.mpr ⟨d,hd,hy⟩))
 have a:∀{y:Str},y∈bu d->y∈xs->y∈zs:=fun hy hx'=>(hz _).mpr ⟨(nn hx').1,(nn hx').2,sw hy⟩
 have b:∀{y:Str},y∈bu d->y∈xs++[("nil" : Str)]->y∈zs++[("nil" : Str)]:=fun hy hx'=>(List.mem_append.mp hx').elim (fun z=>List.mem_append.mpr (.inl (a hy z))) fun z=>List.mem_append.mpr (.inr z)
 have c:∀{y:Str},y∈bu d->y∈xs->y∈zs++[("nil" : Str)]:=fun hy hx'=>List.mem_append.mpr (.inl (a hy hx'))
 have h:=hi d hd
 cases d with
 | free x=>exact c (by simp[bu]) h
 | new x u v=>exact⟨a (by simp[bu]) h.1,b (by simp[bu]) h.2.1,b (by simp[bu]) h.2.2⟩
 | set x e=>exact⟨a (by simp[bu]) h.1,b (by simp[bu]) h.2⟩
 | read x u fld=>exact⟨a (by simp[bu]) h.1,c (by simp[bu]) h.2.1,h.2.2⟩
 | write u fld e=>exact⟨c (by simp[bu]) h.1,h.2.1,b (by simp[bu]) h.2.2⟩
end K50
namespace L2
open PySem PySem.Spec PyProof.Rows PySem.SeqAt
open AutoSeq1 (wpAny_loadPart')
open MeetsSeq MeetsSeq2 MeetsSeq3
section
variable {prog:Program}{w:World}
theorem a52 (p q:Addr) (us vs:Array Value) (m1 m2:Nat) (d1 d2:Option Addr) (o1 o2:Array (Option Value)) (hz:us.size=vs.size) (c:Nat) :
   ∀i:Nat,us.size - i=c->MeetsIn prog w (Builtin.«list.__eq__.loop» ⟨[.ref p,.ref q,rawInt i,rawInt 2],[]⟩)
     (fun A R s=>s.heap.get? p=some { cls:=.type "list",dict:=d1,data:=.seq us m1,slots:=o1 }/\s.heap.get? q=some { cls:=.type "list",dict:=d2,data:=.seq vs m2,slots:=o2 }/\
       (∀j (h1:j<us.size) (h2:j<vs.size),EqP prog w A.in1 s us[j] vs[j])/\R (.ok (.ret (.bool true))) s):=by
 induction c with
 | zero =>
   intro i hi A R st hyp
   obtain⟨m,gg,dr,tks,oo⟩:=st
   obtain⟨gp,gq,same,fin⟩:=hyp
   wp_walk using wpAny_loadPart' gp,wpAny_loadPart' gq
   have n1:us[((i:Nat):Int).toNat]? = none:=by
     simp
     omega
   have n2:vs[((i:Nat):Int).toNat]? = none:=by
     simp
     omega
   rw[n1,n2]
   wp_walk using wpAny_loadPart' gp,wpAny_loadPart' gq
   show R (.ok (.ret (.bool (us.size == vs.size)))) _
   have e:(us.size == vs.size)=true:=by rw[hz];simp
   rw[e];exact fin
 | succ c ih =>
   intro i hi A R st hyp
   obtain⟨m,gg,dr,tks,oo⟩:=st
   obtain⟨gp,gq,same,fin⟩:=hyp
   wp_walk using wpAny_loadPart' gp,wpAny_loadPart' gq
   have l1:i<us.size:=by omega
   have l2:i<vs.size:=by omega
   have n1:us[((i:Nat):Int).toNat]? = some us[i]:=by simp[l1]
   have n2:vs[((i:Nat):Int).toNat]? = some vs[i]:=by simp[l2]
   have up:((i:Int)+1)=((i+1:Nat):Int):=by omega
   rw[n1,n2]
   refine wpAny_bind (same i l1 l2 _ _ ?_)
   wp_walk
   rw[up]
   refine⟨plainId_quiet plain_eq_loop _,codeAny_builtin entry_eq_loop ?_⟩
   rw[Around.under_plainId plain_eq_loop _]
   exact ih (i+1) (by omega) A R _ ⟨gp,gq,same,fin⟩
theorem a5s (p q:Addr) (us vs:Array Value) (m1 m2:Nat) (d1 d2:Option Addr) (o1 o2:Array (Option Value)) (hz:us.size=vs.size):MeetsIn prog w (Builtin.«list.__eq__» ⟨[.ref p,.ref q],[]⟩)
     (fun A R s=>s.heap.get? p=some { cls:=.type "list",dict:=d1,data:=.seq us m1,slots:=o1 }/\s.heap.get? q=some { cls:=.type "list",dict:=d2,data:=.seq vs m2,slots:=o2 }/\
       (∀j (h1:j<us.size) (h2:j<vs.size),EqP prog w A.in1 s us[j] vs[j])/\R (.ok (.ret (.bool true))) s):=by
 intro A R st hyp
 obtain⟨m,gg,dr,tks,oo⟩:=st
 obtain⟨gp,gq,same,fin⟩:=hyp
 have sub:=AutoSeq1.sub_list_list
 have ns:¬ (us.size != vs.size)=true:=by rw[hz];simp
 wp_walk using wpAny_loadPart' gp,wpAny_loadPart' gq
 refine⟨plainId_quiet plain_eq_loop _,codeAny_builtin entry_eq_loop ?_⟩
 rw[Around.under_plainId plain_eq_loop _]
 exact a52 p q us vs m1 m2 d1 d2 o1 o2 hz _ 0 rfl A R _ ⟨gp,gq,same,fin⟩
end
section
variable {X:Cx}
theorem a2v (hu:X.A.units+32<cLine):OpR X (compareOp .Eq) (fun x y H Q=>∃a b xs ys,x=.ref a/\y=.ref b/\H a=some (.lst xs)/\H b=some (.lst ys)/\Paired (AlikeV X.K H) xs ys/\Q (.bl true) H):=by
 intro pins s σ H x y v u Q I rx ry h
 obtain⟨a,b,xs,ys,rfl,rfl,ha,hb,hp,q⟩:=h
 cases rx
 cases ry
 obtain⟨_,us,n1,r1,l1,e1⟩:=I.lstM ha
 obtain⟨_,vs,n2,r2,l2,e2⟩:=I.lstM hb
 have hlen:=Paired.length hp
 have t1:s.TypeIs (.ref a) "list" := ⟨_,e1,rfl⟩
 have t2:s.TypeIs (.ref b) "list" := ⟨_,e2,rfl⟩
 refine wpAny_richCompare_same_room (op:=.Eq) t1 t2 PySem.F.slot_list_eq (call_meetsIn PySem.F.slot_list_eq t1 PySem.F.entry_list_eq (PySem.F.args_list_eq_2 _ _) (a5s a b us.toArray vs.toArray n1 n2 none none #[] #[] (by rw[List.size_toArray,List.size_toArray];omega)) ⟨e1,e2,fun j h1 h2=>?_,?_⟩) (by omega)
 . rw[List.size_toArray] at h1 h2
   have g1:us[j]? = some us[j]:=List.getElem?_eq_getElem h1
   have g2:vs[j]? = some vs[j]:=List.getElem?_eq_getElem h2
   have x1:xs[j]? = some (xs[j]'(by omega)):=List.getElem?_eq_getElem _
   have y1:ys[j]? = some (ys[j]'(by omega)):=List.getElem?_eq_getElem _
   obtain⟨w1,i1,k1⟩:=r1.get x1
   obtain⟨w2,i2,k2⟩:=r2.get y1
   rw[g1] at i1
   rw[g2] at i2
   cases i1
   cases i2
   have hal:AlikeV X.K H (xs[j]'(by omega)) (ys[j]'(by omega)):=by
     have key:∀{l m:List V} {i:Nat} {a b:V},Paired (AlikeV X.K H) l m->l[i]? = some a->m[i]? = some b->AlikeV X.K H a b:=by
       intro l m i a b hpp
       induction hpp generalizing i with
       | nil=>intro z;simp at z
       | cons hh tt ih =>
         intro za zb
         cases i with
         | zero=>simp at za zb;subst za zb;exact hh
         | succ i=>exact ih (by simpa using za) (by simpa using zb)
     exact key hp x1 y1
   have:=hal.eqP (A:=X.A.in1) I k1 k2 (show X.A.in1.units+30<cLine by show X.A.units+1+30<cLine;omega)
   simpa using this
 . exact (show Value.bool true≠Value.notImplemented/\EP X pins σ Q (.bool true) s from⟨(fun z=>nomatch z),⟨.bl true,H,I,rfl,q⟩⟩)
end
end L2
namespace K50
open PySem PySem.Spec L2 Mir
variable {P:Program}{w:World}{K:PySem.W.Frag}{mg:Str->Option Value}{base:Heap}{f g gS gN gA gW gI gL gF gO gT gB C fI CM CF fJ gD gE gC gM gK gH gR gU gV gP gX:Addr}{fd gd dS dN dA dW dI dL dF dO dT dB dD dE dC dM dK dH dR dU dV dP dX:FuncData}
noncomputable abbrev sLaw:Stmt:=top 49
theorem w4 {H:Hp}:∀{hp:List (Int×Addr)},CellsU H hp->∃hs,CellsA H hp hs
 | [],_=>⟨[],.nil⟩
 | p::hp,h=>by
   obtain⟨hs,ih⟩:=w4 (H:=H) (hp:=hp) fun q hq=>h q (List.mem_cons_of_mem _ hq)
   obtain⟨u,v,k⟩:=h p List.mem_cons_self
   exact⟨(p.1,u,v)::hs,.cons ⟨rfl,k⟩ ih⟩
theorem a2g {d:Dd}{f f':Str->Int}{hs hs':Hs}{g g':Int}(h:fg d f hs g=some (f',hs',g')):hs'.length<=hs.length+1:=by
 have pl:∀(x:Int) (c:Int×Int),(putA hs x c).length<=hs.length+1:=fun x c=>by
   unfold putA;split
   . rw[List.length_map];omega
   . rw[List.length_append,List.length_singleton];omega
 cases d with
 | set x e=>cases h;omega
 | new x e e'=>cases h;exact pl _ _
 | read x y fld=>obtain⟨c,_,hc⟩:=Option.map_eq_some_iff.mp h;cases hc;omega
 | free y=>obtain⟨c,_,hc⟩:=Option.map_eq_some_iff.mp h;cases hc;have:=List.length_filter_le (fun p:Int×Int×Int=>decide (p.1≠nilF f y)) hs;omega
 | write y fld e=>obtain⟨c,_,hc⟩:=Option.map_eq_some_iff.mp h;cases hc;exact pl _ _
noncomputable def Kp6 (m p nd cd vd hd:Addr) (X H:Hp):Prop:=∀b o,X b=some o->b≠m->b≠p->b≠nd->b≠cd->b≠vd->b≠hd->H b=some o
theorem MI.same {K:PySem.W.Frag}{CM CF:Addr}{H H':Hp}{m dm pd fl cd p dp pr pt nd bd:Addr}{fm fs:List (Str×V)}{nm:Str}{ts:List Addr}{k:Nat}{g:Int}{b:Bool}(h:MI K CM CF H m dm pd fl cd p dp pr pt nd bd fm fs nm ts k g b) (e:∀c o,(∀kvs,o≠.dK kvs)->H c=some o->H' c=some o):MI K CM CF H' m dm pd fl cd p dp pr pt nd bd fm fs nm ts k g b:=by
 obtain⟨v1,v2,v3,v4,hpr⟩:=h.hpr
 exact⟨e _ _ (fun _ z=>by cases z) h.hm,h.mf,h.lm,e _ _ (fun _ z=>by cases z) h.hfl,e _ _ (fun _ z=>by cases z) h.hp,h.ff,h.lf,⟨v1,v2,v3,v4,e _ _ (fun _ z=>by cases z) hpr⟩,i6 h.hpt fun o h1 _ h3=>e _ _ h3 h1,e _ _ (fun _ z=>by cases z) h.hbd,h.mp⟩
theorem HA.kpM {H H1:Hp}{m p nd cd hd CM CF dm dp:Addr}{fm fs:List (Str×V)}{hs:Hs}{kvs cvs:List (Key×V)}(h:HA H hd hs) (k:KpM m p nd cd H H1) (hm:H m=some (.ins CM dm fm)) (hp:H p=some (.ins CF dp fs)) (hn:H nd=some (.dK kvs)) (hc:H cd=some (.dK cvs)) (n3:hd≠nd) (n4:hd≠cd):HA H1 hd hs:=by
 obtain⟨q,h1,h2⟩:=h
 refine⟨q,k _ _ (fun z=>by rw[z,hm] at h1;cases h1) (fun z=>by rw[z,hp] at h1;cases h1) n3 n4 h1,h2.keep fun b vs hb=>?_⟩
 exact k _ _ (fun z=>by rw[z,hm] at hb;cases hb) (fun z=>by rw[z,hp] at hb;cases hb) (fun z=>by rw[z,hn] at hb;cases hb) (fun z=>by rw[z,hc] at hb;cases hb) hb
theorem HA.kp2 {H1 H2:Hp}{vd hd cd:Addr}{hs:Hs}{kvs cvs:List (Key×V)}(h:HA H1 cd hs) (k:Kp2 vd hd H1 H2) (hv:H1 vd=some (.dK kvs)) (hh:H1 hd=some (.dK cvs)) (n1:cd≠vd) (n2:cd≠hd):HA H2 cd hs:=by
 obtain⟨q,h1,h2⟩:=h
 exact⟨q,k _ _ h1 n1 n2,h2.keep fun b vs hb=>k _ _ hb (fun z=>by rw[z,hv] at hb;cases hb) (fun z=>by rw[z,hh] at hb;cases hb)⟩
theorem Kp6.step {m p nd cd vd hd:Addr}{X H H1:Hp}(h:Kp6 m p nd cd vd hd X H) (k:KpM m p nd cd H H1):Kp6 m p nd cd vd hd X H1:=fun b o z n1 n2 n3 n4 n5 n6=>k b o n1 n2 n3 n4 (h b o z n1 n2 n3 n4 n5 n6)
theorem Kp6.done {m p nd cd vd hd:Addr}{X H H1:Hp}(h:Kp6 m p nd cd vd hd X H) (k:Kp2 vd hd H H1):Kp6 m p nd cd vd hd X H1:=fun b o z n1 n2 n3 n4 n5 n6=>k b o (h b o z n1 n2 n3 n4 n5 n6) n5 n6
theorem Kp6.same {m p nd cd vd hd:Addr}{X H H1:Hp}(h:Kp6 m p nd cd vd hd X H) (k:Same H H1):Kp6 m p nd cd vd hd X H1:=fun b o z n1 n2 n3 n4 n5 n6=>k b o (h b o z n1 n2 n3 n4 n5 n6)
theorem MI.kp2 {K:PySem.W.Frag}{CM CF:Addr}{H H':Hp}{m dm pd fl cd p dp pr pt nd bd vd hd:Addr}{fm fs:List (Str×V)}{nm:Str}{ts:List Addr}{k:Nat}{g:Int}{b:Bool}{kvs cvs:List (Key×V)}(h:MI K CM CF H m dm pd fl cd p dp pr pt nd bd fm fs nm ts k g b) (e:Kp2 vd hd H H') (hv:H vd=some (.dK kvs)) (hh:H hd=some (.dK cvs)):MI K CM CF H' m dm pd fl cd p dp pr pt nd bd fm fs nm ts k g b :=
 h.same fun c o ho hc=>e c o hc (fun z=>by rw[z,hv] at hc;cases hc;exact ho _ rfl) (fun z=>by rw[z,hh] at hc;cases hc;exact ho _ rfl)
theorem Kp6.at {m p nd cd vd hd CM CF dm dp:Addr}{fm fs:List (Str×V)}{X H:Hp}{k1 k2 k3 k4:List (Key×V)}(h:Kp6 m p nd cd vd hd X H) (hm:X m=some (.ins CM dm fm)) (hp:X p=some (.ins CF dp fs)) (hn:X nd=some (.dK k1)) (hc:X cd=some (.dK k2)) (hv:X vd=some (.dK k3)) (hh:X hd=some (.dK k4)) {b:Addr}{o:HO}(hb:X b=some o) (h1:∀C d f,o≠.ins C d f) (h2:∀kvs,o≠.dK kvs):H b=some o :=
 h b o hb (fun z=>by rw[z,hm] at hb;cases hb;exact h1 _ _ _ rfl) (fun z=>by rw[z,hp] at hb;cases hb;exact h1 _ _ _ rfl) (fun z=>by rw[z,hn] at hb;cases hb;exact h2 _ rfl) (fun z=>by rw[z,hc] at hb;cases hb;exact h2 _ rfl) (fun z=>by rw[z,hv] at hb;cases hb;exact h2 _ rfl) (fun z=>by rw[z,hh] at hb;cases hb;exact h2 _ rfl)
theorem r6 {K:PySem.W.Frag}{H:Hp}:∀{ts:List Addr},Paired (AlikeV K H) (ts.map V.ref) (ts.map V.ref)
 | []=>.nil
 | _::_=>.cons (.inl ⟨rfl,rfl⟩) r6
inductive LV (K:PySem.W.Frag) (CM CF:Addr) (X:Hp) (m dm pd fl cd p dp pr nd bd a nl pt0 dl sp vd hd pl hl kl:Addr) (pk:Int) (res nm:Str) (tsM:List Addr) (ys zs:List Str) (i:Nat) (σ:St) (H:Hp):Prop
 | mk (pt:Addr) (fm fs:List (Str×V)) (k:Nat) (g:Int) (b:Bool) (F:Str->Int) (hs:Hs) (z16 z17:Option V) (I:MI K CM CF H m dm pd fl cd p dp pr pt nd bd fm fs nm tsM k g b) (hn:H nd=some (.dK (vK ys F))) (hc:HA H cd hs) (hv:H vd=some (.dK (vK zs F))) (hh:HA H hd hs) (kp:Kp6 m p nd cd vd hd X H) (hk:k<=tsM.length) (hln:hs.length<=6+i)
     (hσ:σ=[some (.ref a),some (.ref nl),some (.int pk),some (.ref pt0),some (.str res),some (.ref dl),some (.ref hd),some (.ref sp),some (.ref vd),some (.int (k:Int)),some (.ref pl),some (.ref hl),some (.ref m),some (.ref kl),some (.int g),some (.bl b),z16,z17])
theorem scLaw:FnScope ["_law_script","_law_names_here","_law_pick","_law_params","_law_result","_law_deeds_here","_law_heap_here","_law_spots","_law_values_here","_law_k","_law_program","_law_handed","_law_machine","_law_kept","_law_great","_law_fallen","_law_turn","_law_good"] ["_law_script"] (ao sLaw):=⟨rfl,rfl,rfl,by decide +kernel,rfl,by decide +kernel,by decide +kernel⟩
theorem aa9 {n:Nat}(hn7:7<=n) (C:Con K mg w) (T:TxM K mg CM fI) (U:TxF K mg CF fJ) (F:Fun K "law" "law" sLaw f fd)
   (GC:FnOk P w K mg base CX0 1 gC dC ["_law_script","_law_k"] (qh K)) (cC:Cal K mg "_law_cell_at" gC dC ["_law_script","_law_k"])
   (GN:FnOk P w K mg base CX0 3 gN dN ["_law_base","_law_place","_law_many"] spNm) (cN:Cal K mg "_law_names" gN dN ["_law_base","_law_place","_law_many"])
   (GD:FnOk P w K mg base CX0 3 gD dD ["_law_script","_law_names_here","_law_params"] (spDeeds K)) (cD:Cal K mg "_law_deeds" gD dD ["_law_script","_law_names_here","_law_params"])
   (GH:FnOk P w K mg base CX0 3 gH dH ["_law_script","_law_start"] (spHeapL K)) (cH:Cal K mg "_law_heap" gH dH ["_law_script","_law_start"])
   (GV:FnOk P w K mg base CX0 3 gV dV ["_law_script","_law_start","_law_told","_law_spots"] (spValues K)) (cV:Cal K mg "_law_values" gV dV ["_law_script","_law_start","_law_told","_law_spots"])
   (GA:FnOk P w K mg base CX0 2 gA dA ["_law_deeds_here","_law_params","_law_result"] (spSaid K)) (cA:Cal K mg "_law_said" gA dA ["_law_deeds_here","_law_params","_law_result"])
   (GO:FnOk P w K mg base CX0 1 gO dO ["_law_deed","_law_values_here","_law_heap_here","_law_great"] (spDone K)) (cO:Cal K mg "_law_done" gO dO ["_law_deed","_law_values_here","_law_heap_here","_law_great"])
   (GT:FnOk P w K mg base CX0 7 gT dT ["_law_machine","_law_name","_law_k","_law_many","_law_values_here","_law_heap_here","_law_fallen"] (spStands K CM CF)) (cT:Cal K mg "_law_stands" gT dT ["_law_machine","_law_name","_law_k","_law_many","_law_values_here","_law_heap_here","_law_fallen"])
   (GI:FnOk P w K mg base CX0 n fI dI ["self","program","name","path","values","heap"] (spMInit K CM CF [30])) (bI:Binds K dI ["self","program","name","path","values","heap"] [])
   (GS:FnOk P w K mg base CX0 6 gS dS ["self"] (spStep1 K CM CF)) (cS:MCal K CM "step" gS dS ["self"]):FnOk P w K mg base CX0 (n+1+1) f fd ["_law_script"] (uo K):=by
 refine F.okQ scLaw (fun vs H Q E h=>?_) (fun cdv A outer s0 H vs Q E hr h=>?_)
 . obtain⟨_,_,rfl,_⟩:=h;rfl
 have nd:=scLaw.nd
 have hu1:=ft hr
 have hu:=Nat.lt_of_le_of_lt (Nat.add_le_add_left (show 32<=64 by decide) _) hr.units
 have hr1:=hr.mono (j:=1) (by omega)
 have hr2:=hr.mono (j:=2) (by omega)
 have hr3:=hr.mono (j:=3) (by omega)
 have hr6:=hr.mono (j:=6) (by omega)
 have hr7:=hr.mono (j:=7) (by omega)
 refine⟨_,ae (aq (i:=1) nd rfl (Or.inl rfl) (ak GN hr3 rfl cN.name cN.keep cN.bind .nil am (az (ak GC hr1 rfl cC.name cC.keep cC.bind .nil am (af (qv 0) (b8 aa))) (az (ak GC hr1 rfl cC.name cC.keep cC.bind .nil am (af (qv 0) (b8 aa))) (b8 aa)))))
   (ae (aq (i:=2) nd rfl (Or.inl rfl) (ak GC hr1 rfl cC.name cC.keep cC.bind .nil am (af (qv 0) (b8 aa))))
   (ae (aq (i:=3) nd rfl (Or.inl rfl) (b7 lc rfl C.tuple PyProof.Rows.boot_tuple (aw (bz (oi (K:=K) rfl) (qv 1) cy (cb (ap cr (qv 2) ab))) aa)))
   (ae (aq (i:=4) nd rfl (Or.inl rfl) (ah (ixK (K:=K) rfl) (bc (bg (aw (ah (ixK (K:=K) rfl) (qv 1) ab (fun _ _=>rfl)) aa))) (ap cr (ap fc (qv 2) ab) ab) (fun _ _=>rfl)))
   (ae (aq (i:=5) nd rfl (Or.inl rfl) (ak GD hr3 rfl cD.name cD.keep cD.bind .nil am (af (qv 0) (af (qv 1) (ce (ap cr (qv 2) ab) aa)))))
   (ae (jo (ak GH hr3 rfl cH.name cH.keep cH.bind .nil am (af (qv 0) (b8 aa))) (sd (bq (i:=6) nd rfl (Or.inl rfl)) (bq (i:=7) nd rfl (Or.inl rfl))))
   (ae (aq (i:=8) nd rfl (Or.inl rfl) (ak GV hr3 rfl cV.name cV.keep cV.bind .nil am (af (qv 0) (b8 (az (ak GA hr2 rfl cA.name cA.keep cA.bind .nil am (af (qv 5) (af (qv 3) (af (qv 4) aa)))) (af (qv 7) aa))))))
   (ae (aq (i:=9) nd rfl (Or.inl rfl) (ah (ixK (K:=K) rfl) (bc (b8 (b8 (ce (ap cr (ap fc (qv 2) ab) (ap bh (ba (lenK (K:=K) rfl) rfl C.len PySem.boot_len (af (qv 5) aa)) ab)) aa)))) (ap cr (ap fc (qv 2) ab) ab) (fun _ _=>rfl)))
   (ae (aq (i:=10) nd rfl (Or.inl rfl) (bc (m9 (aw (ah (ixK (K:=K) rfl) (qv 1) (ap cr (ap fc (qv 2) ab) ab) (fun _ _=>rfl)) (af (qv 3) (af (qv 4) (m9 (uw aa (uw aa aa)) (m9 (uw aa (uw aa aa)) (az (b7 cv rfl C.list PyProof.Rows.boot_list (af (qv 5) aa)) aa)))))) aa)))
   (ae (aq (i:=11) nd rfl (Or.inl rfl) (bc (az (b7 dz rfl C.dict PyProof.Rows.boot_dict (af (qv 8) aa)) (az (b7 dz rfl C.dict PyProof.Rows.boot_dict (af (qv 6) aa)) aa))))
   (ae (aq (i:=12) nd rfl (Or.inl rfl) (zg T.mkC GI hr rfl T.mgC bI .nil am (af (qv 10) (aw (ah (ixTK (K:=K) rfl) (ah (ixK (K:=K) rfl) (qv 10) ab (fun _ _=>rfl)) ab (fun _ _=>rfl)) (m9 (af (qv 9) aa) (aw (ah (ixK (K:=K) rfl) (qv 11) ab (fun _ _=>rfl)) (aw (ah (ixK (K:=K) rfl) (qv 11) ab (fun _ _=>rfl)) aa)))))))
   (ae (aq (i:=13) nd rfl (Or.inl rfl) (bc (az (b7 dz rfl C.dict PyProof.Rows.boot_dict (af (qv 8) aa)) (az (b7 dz rfl C.dict PyProof.Rows.boot_dict (af (qv 6) aa)) aa))))
   (ae (aq (i:=14) nd rfl (Or.inl rfl) (ba (a1r (K:=K) rfl rfl) rfl C.max PyProof.Rows.Boot.max (ce (ap g6 (bc (b8 aa)) (b7 (jn rfl) rfl C.list PyProof.Rows.boot_list (af (qv 6) aa))) aa)))
   (ae (aq (i:=15) nd rfl (Or.inl rfl) fb)
   (ae (de PassesOwn.never rfl (fi rfl C.range (ce (ap bh (ap x3 (ba (lenK (K:=K) rfl) rfl C.len PySem.boot_len (af (qv 5) aa)) (qv 9)) ab) aa)) (bq (i:=16) nd rfl (Or.inl rfl)) (ae (b6 (gs (di (ak GT hr7 rfl cT.name cT.keep cT.bind .nil am (af (qv 12) (aw (ah (ixTK (K:=K) rfl) (ah (ixK (K:=K) rfl) (qv 10) ab (fun _ _=>rfl)) ab (fun _ _=>rfl)) (af (qv 9) (az (ba (lenK (K:=K) rfl) rfl C.len PySem.boot_len (af (qv 5) aa)) (af (qv 8) (af (qv 6) (af (qv 15) aa)))))))))) (ag (av fb)) b9)
   (ae (dg (cz (qv 12) T.cl cS.meth GS hr6 cS.bind .nil am))
   (ag (b6 (QW.qt (li (ar a0n (qv 9) (ba (lenK (K:=K) rfl) rfl C.len PySem.boot_len (af (qv 5) aa)) (ax _)) (jp (gs (di (qv 15)))))) (ae (jo (ak GO hr1 rfl cO.name cO.keep cO.bind .nil am (aw (ah (ixK (K:=K) rfl) (qv 5) (qv 9) (fun _ _=>rfl)) (af (qv 8) (af (qv 6) (af (qv 14) aa))))) (sd (bq (i:=17) nd rfl (Or.inl rfl)) (bq (i:=14) nd rfl (Or.inl rfl))))
   (ae (aq (i:=15) nd rfl (Or.inl rfl) (aa6 (qv 17)))
   (ag (aq (i:=9) nd rfl (Or.inl rfl) (ap bh (qv 9) (b7 gz rfl C.int PyProof.Rows.boot_int (af (qv 17) aa))))))) b9)))))
   (ae (b6 (gs (di (ak GT hr7 rfl cT.name cT.keep cT.bind .nil am (af (qv 12) (aw (ah (ixTK (K:=K) rfl) (ah (ixK (K:=K) rfl) (qv 10) ab (fun _ _=>rfl)) ab (fun _ _=>rfl)) (af (qv 9) (az (ba (lenK (K:=K) rfl) rfl C.len PySem.boot_len (af (qv 5) aa)) (af (qv 8) (af (qv 6) (af (qv 15) aa)))))))))) (ag (av fb)) b9)
   (ag (av (a1v (jm (a2v hu) (qv 11) (qv 13) (ax _)) (a4a (jm (a2v hu) (ah (ixTK (K:=K) rfl) (ah (ixK (K:=K) rfl) (qv 10) ab (fun _ _=>rfl)) ab (fun _ _=>rfl)) (qv 5) (ax _))))))))))))))))))))),?_⟩
 obtain⟨a,ns,rfl,hS,q⟩:=h
 refine au (a:=tAsg _ _) fun A1 hA1 _ _=>?_
 refine⟨_,rfl,a,ns,0,rfl,hS,_,rfl,a,ns,1,rfl,hS,.mk _ _ 6 rfl (by decide) fun nl xs H1 e1 knl hxl hxn hxs=>?_⟩
 refine hA1 _ _ ?_
 clear hA1
 refine au (a:=tAsg _ _) fun A2 hA2 _ _=>?_
 refine⟨_,rfl,a,ns,2,rfl,e1.seq hS,?_⟩
 refine hA2 _ _ ?_
 clear hA2
 generalize gb ns 2=pk
 obtain⟨pp,hpp,hpp3⟩:∃j:Nat,pk % 3=(j:Int)/\j<3:=⟨(pk % 3).toNat,by have:=Int.emod_nonneg pk (show (3:Int)≠0 by decide);omega,by have:=Int.emod_lt_of_pos pk (show (0:Int)<3 by decide);omega⟩
 refine au (a:=tAsg _ _) fun A3 hA3 _ _=>?_
 refine⟨_,rfl,_,rfl,_,_,rfl,rfl,(show (0:Int)<3 by decide),_,rfl,nl,_,rfl,SqL.of knl,fun sl hsl=>?_⟩
 rw[hpp,aam,<- List.map_take]
 refine⟨sl,_,rfl,.inl ⟨SqL.of a0,fun pt hpt=>?_⟩⟩
 have s2:=(ad hsl (.lst ((xs.take pp).map V.str))).trans (ad hpt (.tup ((xs.take pp).map V.str)))
 have kpt:(upd (upd H1 sl (.lst ((xs.take pp).map V.str))) pt (.tup ((xs.take pp).map V.str))) pt=some (.tup ((xs.take pp).map V.str)):=a0
 generalize upd (upd H1 sl (.lst ((xs.take pp).map V.str))) pt (.tup ((xs.take pp).map V.str))=H2 at s2 kpt |-
 refine hA3 _ _ ?_
 clear hA3 hsl hpt
 have hpsx:∀y∈xs.take pp,y∈xs:=fun y hy=>List.mem_of_mem_take hy
 have hpsl:(xs.take pp).length<=2:=by rw[List.length_take];omega
 generalize xs.take pp=ps at kpt hpsx hpsl
 have knl2:=s2 _ _ knl
 refine au (a:=tAsg _ _) fun A4 hA4 _ _=>?_
 obtain⟨x5,hx5⟩:∃x,xs[5]? = some x:=⟨_,List.getElem?_eq_getElem (by omega)⟩
 have hx5m:=List.mem_of_getElem? hx5
 have hat5:atI (xs.map V.str) 5=some (.str x5):=ca (j:=5) (by rw[List.getElem?_map,hx5];rfl)
 refine⟨_,rfl,nl,_,_,.str x5,rfl,rfl,SqL.of knl2,hat5,(show 2<=sizeLine by decide),fun rl hrl=>?_⟩
 have s3:=ad hrl (.lst [.str "",.str x5])
 have krl:(upd H2 rl (.lst [.str "",.str x5])) rl=some (.lst [.str "",.str x5]):=a0
 generalize upd H2 rl (.lst [.str "",.str x5])=H3 at s3 krl |-
 obtain⟨rv,hrv,hrm⟩:=jf (xs:=[V.str "",V.str x5]) (m:=2) (i:=pk / 3) rfl (by decide)
 obtain⟨res,rfl,hres⟩:∃res:Str,rv=.str res/\(res = "" \/ res∈xs):=by
   rcases List.mem_cons.mp hrm with z|z
   . exact⟨_,z,.inl rfl⟩
   . exact⟨_,List.mem_singleton.mp z,.inr hx5m⟩
 refine⟨_,rfl,_,_,rfl,rfl,(show CDiv _ 3 from⟨by decide,by decide⟩),_,_,rfl,rfl,(show (0:Int)<2 by decide),rl,_,_,.str res,rfl,rfl,SqL.of krl,hrv,?_⟩
 refine hA4 _ _ ?_
 clear hA4 krl hrv hrm hrl
 refine au (a:=tAsg _ _) fun A5 hA5 _ _=>?_
 have e13:Same H H3:=(e1.trans s2).trans s3
 refine⟨_,rfl,_,rfl,_,rfl,_,_,rfl,rfl,(show (0:Int)<3 by decide),.mk a nl ns xs pp (congrArg (fun z:Int=>[V.ref a,V.ref nl,V.int z]) hpp) (e13.seq hS) (s3 _ _ knl2) hxl (by omega) fun dl ts ds H4 e4 ndl kdl rows h30 ins=>?_⟩
 refine hA5 [some (.ref a),some (.ref nl),some (.int pk),some (.ref pt),some (.str res),some (.ref dl),none,none,none,none,none,none,none,none,none,none,none,none] _ ?_
 clear hA5
 refine au (a:=tAsg _ _) fun A6 hA6 _ _=>?_
 have e14:=e13.trans e4
 refine⟨_,rfl,.mk a ns 3 rfl (e14.seq hS) fun t hd sp hp ss H5 e5 nhd nsp kt HL hl6=>?_⟩
 refine⟨t,_,rfl,SqT.of kt,rfl,_,_,rfl,_,_,rfl,rfl,?_⟩
 refine hA6 [some (.ref a),some (.ref nl),some (.int pk),some (.ref pt),some (.str res),some (.ref dl),some (.ref hd),some (.ref sp),none,none,none,none,none,none,none,none,none,none] _ ?_
 clear hA6
 refine au (a:=tAsg _ _) fun A7 hA7 _ _=>?_
 have e15:=e14.trans e5
 refine⟨_,rfl,_,rfl,_,rfl,_,rfl,.mk dl pt res ts ds ps xs rfl (e5 _ _ kdl) (rows.same e5) h30 (SqT.of (((s3.trans e4).trans e5) _ _ kpt)) (by omega) (by omega) (fun y hy=>jz hpsx hres ins hy) fun zl zs H6 e6 kzl hzn hzs=>?_⟩
 have hzl:zs.length<=6:=by
   have:=lx hzn (xs:=xs) fun y hy=>by
     obtain⟨h1,h2,h3⟩:=(hzs y).mp hy
     rcases jz hpsx hres ins h3 with z|z|z
     . exact absurd z h1
     . exact absurd z h2
     . exact z
   omega
 refine⟨_,rfl,.mk a zl sp ns ss zs 7 rfl ((e15.trans e6).seq hS) kzl hzn hzl (e6 _ _ HL.hs) HL.ls fun vd f0 H7 e7 nvd kvd=>?_⟩
 refine hA7 [some (.ref a),some (.ref nl),some (.int pk),some (.ref pt),some (.str res),some (.ref dl),some (.ref hd),some (.ref sp),some (.ref vd),none,none,none,none,none,none,none,none,none] _ ?_
 clear hA7 kzl kt
 have e57:=e6.trans e7
 refine au (a:=tAsg _ _) fun A8 hA8 _ _=>?_
 have kdl7:=e57 _ _ (e5 _ _ kdl)
 have hlt:=Paired.length rows
 have pos1:(0:Int)<(((ts.map V.ref).length:Nat):Int)+1:=by omega
 refine⟨_,rfl,_,_,rfl,rfl,(show CDiv _ 18 from⟨by decide,by decide⟩),_,rfl,dl,_,rfl,.inl (SqL.of kdl7),_,_,rfl,rfl,_,_,rfl,rfl,pos1,(show 3<=sizeLine by decide),fun kl hkl=>?_⟩
 dsimp only
 generalize hr18:pk / 18 % ((((ts.map V.ref).length:Nat):Int)+1)=r18
 have g1:=Int.emod_nonneg (pk / 18) (Int.ne_of_gt pos1)
 have g2:=Int.emod_lt_of_pos (pk / 18) pos1
 rw[hr18] at g1 g2
 rw[List.length_map] at g2
 obtain⟨kv,hkv,hkm⟩:=jf (xs:=[V.int 0,V.int 0,V.int r18]) (m:=3) (i:=pk / 6) rfl (by decide)
 obtain⟨k0,rfl,hk0⟩:∃k0:Nat,kv=.int (k0:Int)/\k0<=ts.length:=by
   simp only[List.mem_cons,List.not_mem_nil,or_false] at hkm
   rcases hkm with z|z|z
   . exact⟨0,z,Nat.zero_le _⟩
   . exact⟨0,z,Nat.zero_le _⟩
   . exact⟨r18.toNat,by rw[z,Int.toNat_of_nonneg g1],by omega⟩
 have s8:=ad hkl (.lst [.int 0,.int 0,.int r18])
 have kkl:(upd H7 kl (.lst [.int 0,.int 0,.int r18])) kl=some (.lst [.int 0,.int 0,.int r18]):=a0
 generalize upd H7 kl (.lst [.int 0,.int 0,.int r18])=H8 at s8 kkl |-
 refine⟨_,rfl,_,_,rfl,rfl,(show CDiv _ 6 from⟨by decide,by decide⟩),_,_,rfl,rfl,(show (0:Int)<3 by decide),kl,_,_,.int (k0:Int),rfl,rfl,SqL.of kkl,hkv,?_⟩
 refine hA8 [some (.ref a),some (.ref nl),some (.int pk),some (.ref pt),some (.str res),some (.ref dl),some (.ref hd),some (.ref sp),some (.ref vd),some (.int (k0:Int)),none,none,none,none,none,none,none,none] _ ?_
 clear hA8 kkl hkv hkm hkl g1 g2 hr18
 have kpt8:=s8 _ _ (e57 _ _ (((s3.trans e4).trans e5) _ _ kpt))
 have knl8:=s8 _ _ (e57 _ _ (((s3.trans e4).trans e5) _ _ knl2))
 have kdl8:=s8 _ _ kdl7
 have rows8:RowsX H8 ts ds:=((rows.same e5).same e57).same s8
 have kvd8:=s8 _ _ kvd
 have khd8:=s8 _ _ (e57 _ _ HL.hd)
 have hcu8:CellsU H8 hp:=(HL.cu.same e57).same s8
 obtain⟨u7,hu7,hum7⟩:=jf (xs:=xs.map V.str) (m:=6) (i:=pk / 7) (by rw[List.length_map,hxl];rfl) (by decide)
 obtain⟨nm,hnm,rfl⟩:=List.mem_map.mp hum7
 refine au (a:=tAsg _ _) fun A9 hA9 _ _=>?_
 have z0:0<=sizeLine:=Nat.zero_le _
 have z1:1<=sizeLine:=by decide
 have z2:2<=sizeLine:=by decide
 refine⟨_,rfl,_,rfl,_,_,rfl,rfl,(show CDiv _ 7 from⟨by decide,by decide⟩),_,_,rfl,rfl,(show (0:Int)<6 by decide),nl,_,_,.str nm,rfl,rfl,SqL.of knl8,hu7,_,rfl,_,rfl,z0,fun f1 hf1=>?_⟩
 have a2:=ad hf1 (.lst [])
 have kf1:(upd H8 f1 (.lst [])) f1=some (.lst []):=a0
 generalize upd H8 f1 (.lst [])=J2 at a2 kf1 |-
 refine⟨z0,fun p1 hp1=>?_⟩
 have a3:=ad hp1 (.lst [])
 have kp1:(upd J2 p1 (.lst [])) p1=some (.lst []):=a0
 generalize upd J2 p1 (.lst [])=J3 at a3 kp1 |-
 refine⟨z2,fun t1 ht1=>?_⟩
 have a4:=ad ht1 (.tup [.ref f1,.ref p1])
 have kt1:(upd J3 t1 (.tup [.ref f1,.ref p1])) t1=some (.tup [.ref f1,.ref p1]):=a0
 generalize upd J3 t1 (.tup [.ref f1,.ref p1])=J4 at a4 kt1 |-
 refine⟨z0,fun f2 hf2=>?_⟩
 have a5:=ad hf2 (.lst [])
 have kf2:(upd J4 f2 (.lst [])) f2=some (.lst []):=a0
 generalize upd J4 f2 (.lst [])=J5 at a5 kf2 |-
 refine⟨z0,fun p2 hp2=>?_⟩
 have a6:=ad hp2 (.lst [])
 have kp2:(upd J5 p2 (.lst [])) p2=some (.lst []):=a0
 generalize upd J5 p2 (.lst [])=J6 at a6 kp2 |-
 refine⟨z2,fun t2 ht2=>?_⟩
 have a7:=ad ht2 (.tup [.ref f2,.ref p2])
 have kt2:(upd J6 t2 (.tup [.ref f2,.ref p2])) t2=some (.tup [.ref f2,.ref p2]):=a0
 generalize upd J6 t2 (.tup [.ref f2,.ref p2])=J7 at a7 kt2 |-
 have a27:Same H8 J7:=((((a2.trans a3).trans a4).trans a5).trans a6).trans a7
 refine⟨_,rfl,dl,_,rfl,.inl (SqL.of (a27 _ _ kdl8)),fun d2 hd2=>?_⟩
 have a8:=ad hd2 (.lst (ts.map V.ref))
 have kd2:(upd J7 d2 (.lst (ts.map V.ref))) d2=some (.lst (ts.map V.ref)):=a0
 generalize upd J7 d2 (.lst (ts.map V.ref))=J8 at a8 kd2 |-
 refine⟨(show 6<=sizeLine by decide),fun tp htp=>?_⟩
 have a9:=ad htp (.tup [.str nm,.ref pt,.str res,.ref t1,.ref t2,.ref d2])
 have ktp:(upd J8 tp (.tup [.str nm,.ref pt,.str res,.ref t1,.ref t2,.ref d2])) tp=some (.tup [.str nm,.ref pt,.str res,.ref t1,.ref t2,.ref d2]):=a0
 generalize upd J8 tp (.tup [.str nm,.ref pt,.str res,.ref t1,.ref t2,.ref d2])=J9 at a9 ktp |-
 have b1:Same H8 J9:=(a27.trans a8).trans a9
 have hPx:PrcAt K J9 [30] tp (prc nm ps res ds):=by
   have o4:Ok nm:=jl (hxs nm hnm)
   have o0:Ok res:=hres.elim (fun z=>by rw[z];exact x0 "" (by simp)) fun z=>jl (hxs _ z)
   have n0:(∀r∈([]:List (List Str)),∀y∈r,Ok y)/\∀r∈([]:List (List Str)),∀y∈r,Ok y:=⟨(fun r hr=>by cases hr),(fun r hr=>by cases hr)⟩
   exact⟨pt,t1,t2,f1,p1,f2,p2,d2,ktp,b1 _ _ kpt8,((((a5.trans a6).trans a7).trans a8).trans a9) _ _ kt1,(a8.trans a9) _ _ kt2,⟨[],((((((a3.trans a4).trans a5).trans a6).trans a7).trans a8).trans a9) _ _ kf1,.nil⟩,⟨[],(((((a4.trans a5).trans a6).trans a7).trans a8).trans a9) _ _ kp1,.nil⟩,⟨[],(((a6.trans a7).trans a8).trans a9) _ _ kf2,.nil⟩,⟨[],((a7.trans a8).trans a9) _ _ kp2,.nil⟩,a89 hxs ins (a9 _ _ kd2) (rows8.same b1) h30,o4,o0,(fun y hy=>jl (hxs y (hpsx y hy))),n0,n0,⟨Nat.zero_le _,Nat.zero_le _⟩,⟨Nat.zero_le _,Nat.zero_le _⟩⟩
 have kd9:=a9 _ _ kd2
 clear a2 a3 a4 a5 a6 a7 a8 a9 a27 kf1 kp1 kt1 kf2 kp2 kt2 hf1 hp1 ht1 hf2 hp2 ht2 htp kd2
 refine⟨z1,fun pl hpl'=>?_⟩
 have c1:=ad hpl' (.lst [V.ref tp])
 have kpl:(upd J9 pl (.lst [V.ref tp])) pl=some (.lst ([tp].map V.ref)):=a0
 generalize upd J9 pl (.lst [V.ref tp])=J10 at c1 kpl |-
 refine hA9 [some (.ref a),some (.ref nl),some (.int pk),some (.ref pt),some (.str res),some (.ref dl),some (.ref hd),some (.ref sp),some (.ref vd),some (.int (k0:Int)),some (.ref pl),none,none,none,none,none,none,none] _ ?_
 clear hA9
 refine au (a:=tAsg _ _) fun A10 hA10 _ _=>?_
 have b2:Same H8 J10:=b1.trans c1
 refine⟨_,rfl,vd,_,rfl,b2 _ _ kvd8,fun va hva=>?_⟩
 have c2:=ad hva (.dK (vK zs f0))
 have kva:(upd J10 va (.dK (vK zs f0))) va=some (.dK (vK zs f0)):=a0
 generalize upd J10 va (.dK (vK zs f0))=J11 at c2 kva |-
 refine⟨_,rfl,hd,_,rfl,(b2.trans c2) _ _ khd8,fun ha hha=>?_⟩
 have c3:=ad hha (.dK (hK hp))
 have kha:(upd J11 ha (.dK (hK hp))) ha=some (.dK (hK hp)):=a0
 generalize upd J11 ha (.dK (hK hp))=J12 at c3 kha |-
 refine⟨z2,fun hl hhl=>?_⟩
 have c4:=ad hhl (.lst [V.ref va,V.ref ha])
 have khl:(upd J12 hl (.lst [V.ref va,V.ref ha])) hl=some (.lst [V.ref va,V.ref ha]):=a0
 generalize upd J12 hl (.lst [V.ref va,V.ref ha])=J13 at c4 khl |-
 refine hA10 [some (.ref a),some (.ref nl),some (.int pk),some (.ref pt),some (.str res),some (.ref dl),some (.ref hd),some (.ref sp),some (.ref vd),some (.int (k0:Int)),some (.ref pl),some (.ref hl),none,none,none,none,none,none] _ ?_
 clear hA10
 refine au (a:=tAsg _ _) fun A11 hA11 _ _=>?_
 have c24:=(c2.trans c3).trans c4
 refine⟨_,rfl,_,rfl,pl,_,0,.ref tp,rfl,rfl,SqL.of (c24 _ _ kpl),rfl,tp,_,0,.str nm,rfl,rfl,SqT.of ((c1.trans c24) _ _ ktp),rfl,_,rfl,z1,fun q0 hq0=>?_⟩
 have c5:=ad hq0 (.tup [V.int (k0:Int)])
 have kq0:(upd J13 q0 (.tup [V.int (k0:Int)])) q0=some (.tup [V.int (k0:Int)]):=a0
 generalize upd J13 q0 (.tup [V.int (k0:Int)])=J14 at c5 kq0 |-
 refine⟨_,rfl,hl,_,0,.ref va,rfl,rfl,SqL.of (c5 _ _ khl),rfl,_,rfl,hl,_,1,.ref ha,rfl,rfl,SqL.of (c5 _ _ khl),rfl,?_⟩
 intro m dm hmn hdmn hne
 have s20:Same J14 (upd (upd J14 dm (.own m)) m (.ins CM dm [])):=fun b o z=>by rw[ac (ai z hmn),ac (ai z hdmn)];exact z
 have b3:Same H8 J14:=(b2.trans c24).trans c5
 refine .mk J14 m dm pl q0 va ha nm [tp] [prc nm ps res ds] 0 (prc nm ps res ds) xs (vK zs f0) (hK hp) (hp.map (·.1)) [] k0 ([],k0) rfl s20 hmn a0 ((c24.trans c5) _ _ kpl) (.cons (hPx.same ((c1.trans c24).trans c5)) .nil) (by simp) (show 1<=10 by decide) rfl rfl (a92 hxs hpsx (by omega) hres ins h30 (by omega)) (SqT.of kq0) (fun G' bd h=>a57 (show k0<=(ds.map _).length by rw[List.length_map,<- hlt];exact hk0) G' bd h) (by decide) (((c3.trans c4).trans c5) _ _ kva) ((c4.trans c5) _ _ kha) a7i fun G1 pd fl p dxp q1 nd' cd pr bd prs fsm fs' ys g H20 MN=>⟨rfl,?_⟩
 refine hA11 [some (.ref a),some (.ref nl),some (.int pk),some (.ref pt),some (.str res),some (.ref dl),some (.ref hd),some (.ref sp),some (.ref vd),some (.int (k0:Int)),some (.ref pl),some (.ref hl),some (.ref m),none,none,none,none,none] _ ?_
 clear hA11
 have b4:Same H8 H20:=(b3.trans MN.g1).trans MN.gH
 obtain⟨hs0,hcs0⟩:=w4 hcu8
 have hhs0:hs0.length<=6:=by rw[<- Paired.length hcs0];exact hl6
 refine au (a:=tAsg _ _) fun A12 hA12 _ _=>?_
 refine⟨_,rfl,vd,_,rfl,b4 _ _ kvd8,fun vb hvb=>?_⟩
 have d1:=ad hvb (.dK (vK zs f0))
 have kvb:(upd H20 vb (.dK (vK zs f0))) vb=some (.dK (vK zs f0)):=a0
 generalize upd H20 vb (.dK (vK zs f0))=H21 at d1 kvb |-
 refine⟨_,rfl,hd,_,rfl,(b4.trans d1) _ _ khd8,fun hb hhb=>?_⟩
 have d2':=ad hhb (.dK (hK hp))
 have khb:(upd H21 hb (.dK (hK hp))) hb=some (.dK (hK hp)):=a0
 generalize upd H21 hb (.dK (hK hp))=H22 at d2' khb |-
 refine⟨z2,fun kl hkl=>?_⟩
 have d3:=ad hkl (.lst [V.ref vb,V.ref hb])
 have kkl:(upd H22 kl (.lst [V.ref vb,V.ref hb])) kl=some (.lst [V.ref vb,V.ref hb]):=a0
 generalize upd H22 kl (.lst [V.ref vb,V.ref hb])=H23 at d3 kkl |-
 refine hA12 [some (.ref a),some (.ref nl),some (.int pk),some (.ref pt),some (.str res),some (.ref dl),some (.ref hd),some (.ref sp),some (.ref vd),some (.int (k0:Int)),some (.ref pl),some (.ref hl),some (.ref m),some (.ref kl),none,none,none,none] _ ?_
 clear hA12
 refine au (a:=tAsg _ _) fun A13 hA13 _ _=>?_
 have d03:=(d1.trans d2').trans d3
 refine⟨z1,fun g1 hg1=>?_⟩
 have d4:=ad hg1 (.lst [V.int 0])
 have kg1:(upd H23 g1 (.lst [V.int 0])) g1=some (.lst [V.int 0]):=a0
 generalize upd H23 g1 (.lst [V.int 0])=H24 at d4 kg1 |-
 refine⟨_,rfl,hd,_,rfl,((b4.trans d03).trans d4) _ _ khd8,fun g2 hg2=>?_⟩
 rw[a80]
 have d5:=ad hg2 (.lst ((hp.map (·.1)).map V.int))
 have kg2:(upd H24 g2 (.lst ((hp.map (·.1)).map V.int))) g2=some (.lst ((hp.map (·.1)).map V.int)):=a0
 generalize upd H24 g2 (.lst ((hp.map (·.1)).map V.int))=H25 at d5 kg2 |-
 refine⟨g1,g2,_,_,rfl,rfl,d5 _ _ kg1,kg2,bn (by rw[List.length_map,List.length_map];show 1+_<=_;omega),fun g3 hg3=>?_⟩
 have d6:=ad hg3 (.lst ([V.int 0]++(hp.map (·.1)).map V.int))
 have kg3:(upd H25 g3 (.lst ([V.int 0]++(hp.map (·.1)).map V.int))) g3=some (.lst ((0::hp.map (·.1)).map V.int)):=a0
 generalize upd H25 g3 (.lst ([V.int 0]++(hp.map (·.1)).map V.int))=X at d6 kg3 |-
 refine .mk g3 (0::hp.map (·.1)) rfl (SqL.of kg3) (by simp) fun M hM hMx=>?_
 have hMg:M=g:=by
   by_cases he:hp.map (·.1)=[]
   . rw[MN.g0 he];rw[he] at hM;exact List.mem_singleton.mp hM
   . obtain⟨hgi,hgm⟩:=MN.gm he
     have h1:=hMx g (List.mem_cons_of_mem _ hgi)
     have h2:=HL.pos g hgi
     rcases List.mem_cons.mp hM with z|z
     . omega
     . have:=hgm M z;omega
 subst hMg
 refine hA13 [some (.ref a),some (.ref nl),some (.int pk),some (.ref pt),some (.str res),some (.ref dl),some (.ref hd),some (.ref sp),some (.ref vd),some (.int (k0:Int)),some (.ref pl),some (.ref hl),some (.ref m),some (.ref kl),some (.int M),none,none,none] _ ?_
 clear hA13 hg1 hg2 hg3 kg1 kg2 kg3
 have d06:Same H20 X:=((d03.trans d4).trans d5).trans d6
 have bX:Same H8 X:=b4.trans d06
 have G1X:Same G1 X:=MN.gH.trans d06
 obtain⟨tsM,hbd1,rowsM⟩:=a1e MN.body
 have hlM:tsM.length=ts.length:=by rw[Paired.length rowsM,hlt]
 have hprn:∃v1 v2 v3 v4,G1 pr=some (.tup [.str nm,v1,v2,v3,v4,.ref bd]):=by
   obtain⟨v0,v1,v2,v3,v4,h⟩:=MN.hbd
   obtain⟨_,_,_,_,_,_,_,_,k,_⟩:=Paired.at2 MN.hps MN.hpr (show ([prc nm ps res ds])[0]? = some (prc nm ps res ds) from rfl)
   rw[h] at k
   have k':=HO.tup.inj (Option.some.inj k)
   injection k' with k1 _
   exact⟨v1,v2,v3,v4,by rw[h,k1];rfl⟩
 have hyz:∀y,y∈ys↔y∈zs:=fun y=>by rw[MN.zm y,a48 hxs hpsx hres ins,hzs]
 have hlyz:ys.length=zs.length:=Nat.le_antisymm (lx MN.zn fun y hy=>(hyz y).mp hy) (lx hzn fun y hy=>(hyz y).mpr hy)
 have hnd0:=MN.hnd
 rw[y9 fun z hz=>(hyz z).mp hz] at hnd0
 have gvd:=MN.g1 _ _ (b3 _ _ kvd8)
 have ghd:=MN.g1 _ _ (b3 _ _ khd8)
 have nvm:vd≠m/\vd≠p/\vd≠nd'/\vd≠cd:=⟨ai gvd MN.n1,ai gvd MN.n2,ai gvd MN.n3,ai gvd MN.n4⟩
 have nhm:hd≠m/\hd≠p/\hd≠nd'/\hd≠cd:=⟨ai ghd MN.n1,ai ghd MN.n2,ai ghd MN.n3,ai ghd MN.n4⟩
 have nvh:vd≠hd:=(ai (e6 _ _ HL.hd) nvd).symm
 obtain⟨v1,v2,v3,v4,hprn⟩:=hprn
 refine au (a:=tAsg _ _) fun A14 hA14 _ _=>?_
 refine hA14 [some (.ref a),some (.ref nl),some (.int pk),some (.ref pt),some (.str res),some (.ref dl),some (.ref hd),some (.ref sp),some (.ref vd),some (.int (k0:Int)),some (.ref pl),some (.ref hl),some (.ref m),some (.ref kl),some (.int M),some (.bl false),none,none] _ ?_
 clear hA14
 have at6:∀{G:Hp} {b:Addr} {o:HO},Kp6 m p nd' cd vd hd X G->X b=some o->(∀C d f,o≠.ins C d f)->(∀kvs,o≠.dK kvs)->G b=some o:=fun kp hb h1 h2=>kp.at (d06 _ _ MN.hm) (d06 _ _ MN.hp) (d06 _ _ hnd0) (d06 _ _ MN.hcd) (bX _ _ kvd8) (bX _ _ khd8) hb h1 h2
 have atL:∀{G:Hp} {b:Addr} {vs:List V},Kp6 m p nd' cd vd hd X G->X b=some (.lst vs)->G b=some (.lst vs):=fun kp hb=>at6 kp hb (fun _ _ _ z=>by cases z) (fun _ z=>by cases z)
 have atT:∀{G:Hp} {b:Addr} {vs:List V},Kp6 m p nd' cd vd hd X G->X b=some (.tup vs)->G b=some (.tup vs):=fun kp hb=>at6 kp hb (fun _ _ _ z=>by cases z) (fun _ z=>by cases z)
 have c6:Same J10 X:=(((c24.trans c5).trans MN.g1).trans MN.gH).trans d06
 have xpl:=c6 _ _ kpl
 have xtp:=(c1.trans c6) _ _ ktp
 have xdl:=bX _ _ kdl8
 have xrows:=rows8.same bX
 have xrowsM:=rowsM.same G1X
 have hl30:tsM.length<=30:=by rw[hlM,hlt];exact h30
 have oknm:Ok nm:=jl (hxs nm hnm)
 have hzl7:ys.length<=6:=by omega
 have nilz:¬ ("nil" : Str)∈zs:=fun z=>((hzs _).mp z).2.1 rfl
 have ncd:nd'≠cd:=MN.nc
 have c7:Same J14 X:=(MN.g1.trans MN.gH).trans d06
 have c8:Same J14 G1:=MN.g1
 have xhl:=(c5.trans c7) _ _ khl
 have xkl:=((d4.trans d5).trans d6) _ _ kkl
 have xd2:=(c1.trans c6) _ _ kd9
 have oldN:∀{b:Addr} {o:HO},J14 b=some o->J10 b=none->∀{G:Hp},Kp6 m p nd' cd vd hd X G->G b=some o:=fun {b o} h1 h2 G kp=>by
   have g:=c8 _ _ h1
   exact kp _ _ (c7 _ _ h1) (ai g MN.n1) (ai g MN.n2) (ai g MN.n3) (ai g MN.n4) (ai (b2 _ _ kvd8) h2).symm (ai (b2 _ _ khd8) h2).symm
 have newN:∀{b:Addr} {o:HO},X b=some o->H20 b=none->∀{G:Hp},Kp6 m p nd' cd vd hd X G->G b=some o:=fun {b o} h1 h2 G kp =>
   kp _ _ h1 (ai MN.hm h2).symm (ai MN.hp h2).symm (ai hnd0 h2).symm (ai MN.hcd h2).symm (ai (b4 _ _ kvd8) h2).symm (ai (b4 _ _ khd8) h2).symm
 have jva:=((c3.trans c4).trans c5) _ _ kva
 have jha:=(c4.trans c5) _ _ kha
 have gva:∀{G:Hp},Kp6 m p nd' cd vd hd X G->G va=some (.dK (vK zs f0)):=oldN jva hva
 have gha:∀{G:Hp},Kp6 m p nd' cd vd hd X G->G ha=some (.dK (hK hp)):=oldN jha (c2.free hha)
 have xvb:=((((d2'.trans d3).trans d4).trans d5).trans d6) _ _ kvb
 have xhb:=(((d3.trans d4).trans d5).trans d6) _ _ khb
 have gvb:∀{G:Hp},Kp6 m p nd' cd vd hd X G->G vb=some (.dK (vK zs f0)):=newN xvb hvb
 have ghb:∀{G:Hp},Kp6 m p nd' cd vd hd X G->G hb=some (.dK (hK hp)):=newN xhb (d1.free hhb)
 have nab:va≠vb:=ai ((c8.trans MN.gH) _ _ jva) hvb
 have nhb:ha≠hb:=ai ((c8.trans MN.gH) _ _ jha) (d1.free hhb)
 refine au (a:=tFor _ _ _) fun F1 hF1 hR1 _=>?_
 refine⟨_,rfl,dl,_,rfl,.inl (SqL.of (bX _ _ kdl8)),_,rfl,_,_,rfl,rfl,_,_,rfl,rfl,_,rfl,(by rw[List.length_map];omega),(by rw[List.length_map];omega),?_⟩
 refine gj (LV K CM CF X m dm pd fl cd p dxp pr nd' bd a nl pt dl sp vd hd pl hl kl pk res nm tsM ys zs) ⟨q1,fsm,fs',k0,M,false,f0,hs0,none,none,⟨d06 _ _ MN.hm,MN.mf,by have:=MN.lm;omega,d06 _ _ MN.hfl,d06 _ _ MN.hp,MN.ff,by have:=MN.lf;omega,⟨v1,v2,v3,v4,G1X _ _ hprn⟩,d06.seqT MN.hq1,G1X _ _ hbd1,MN.mp⟩,d06 _ _ hnd0,⟨hp,d06 _ _ MN.hcd,hcs0.keep fun b vs=>bX b _⟩,bX _ _ kvd8,⟨hp,bX _ _ khd8,hcs0.keep fun b vs=>bX b _⟩,fun b o z _ _ _ _ _ _=>z,by omega,by omega,rfl⟩ ?_ ?_
 . rintro i σ G hi ⟨pt1,fm1,fs1,k,g,b,F',hs,z16,z17,I,hn,hc,hv,hh,kp,hk,hln,rfl⟩
   have hi32:i<32:=by
     rw[List.length_map] at hi
     omega
   have hs9:hs.length<=900:=by omega
   refine au (a:=tIfS _ _ _) fun B1 hB1 _ _=>?_
   have el:(((ts.map V.ref).length:Nat):Int)=(tsM.length:Int):=by rw[List.length_map,hlM]
   refine⟨_,rfl,_,rfl,pl,_,0,.ref tp,rfl,rfl,SqL.of (atL kp xpl),rfl,tp,_,0,.str nm,rfl,rfl,SqT.of (atT kp xtp),rfl,_,rfl,_,rfl,dl,_,rfl,.inl (SqL.of (atL kp xdl)),_,rfl,_,rfl,_,rfl,?_⟩
   rw[el]
   refine .mk m pd fl cd p pr pt1 nd' bd vd hd g b "" nm tsM k ys zs F' hs rfl (I.ms (by omega) hn hc) hk oknm hv hh hlyz (fun y hy=>(hyz y).mp hy) (by omega) (by omega) fun Ga s1=>?_
   refine⟨_,rfl,iteB (fun c=>absurd c (by simp)) (fun _=>?_)⟩
   refine hB1 _ _ ?_
   clear hB1
   have Ia:=I.same fun c o _ h=>s1 c o h
   have kpa:=kp.same s1
   have hna:=s1 _ _ hn
   have hca:=hc.same s1
   have hva':=s1 _ _ hv
   have hha':=hh.same s1
   refine au (a:=a0r _) fun B2 hB2 _ _=>?_
   refine⟨_,rfl,m,dm,fm1,rfl,Ia.hm,Ia.mf.meth _ (by decide +kernel),?_⟩
   by_cases hdo:b=false/\k<tsM.length
   . obtain⟨rfl,hkl⟩:=hdo
     obtain⟨tm,htm⟩:∃x,tsM[k]? = some x:=⟨_,List.getElem?_eq_getElem hkl⟩
     obtain⟨td,htd⟩:∃x,ts[k]? = some x:=⟨_,List.getElem?_eq_getElem (by omega)⟩
     obtain⟨d,hd1⟩:∃x,ds[k]? = some x:=⟨_,List.getElem?_eq_getElem (by omega)⟩
     have hdm:=List.mem_of_getElem? hd1
     have rM:Ga tm=some (.tup ((rowD d).map V.str)):=atT kpa (Paired.at2 (F:=fun t d=>X t=some (.tup ((rowD d).map V.str))) xrowsM htm hd1)
     have rD:=Paired.at2 (F:=fun t d=>X t=some (.tup ((rowD d).map V.str))) xrows htd hd1
     have after:∀G' pt' fm' fs' k' g' b' F'' hs',KpM m p nd' cd Ga G'->MI K CM CF G' m dm pd fl cd p dxp pr pt' nd' bd fm' fs' nm tsM k' g' b'->G' nd'=some (.dK (vK ys F''))->HA G' cd hs'->((fg d F' hs g=none/\b'=true/\k'=k/\g'=g/\F''=F'/\hs'=hs)\/(fg d F' hs g=some (F'',hs',g')/\b'=false/\k'=k+1))->B2.nx [some (.ref a),some (.ref nl),some (.int pk),some (.ref pt),some (.str res),some (.ref dl),some (.ref hd),some (.ref sp),some (.ref vd),some (.int (k:Int)),some (.ref pl),some (.ref hl),some (.ref m),some (.ref kl),some (.int g),some (.bl false),some (.int (0+(i:Int))),z17] G':=by
       intro G' pt' fm' fs' k' g' b' F'' hs' km I' hn' hc' hst
       refine hB2 _ _ ?_
       have kpb:=kpa.step km
       have hvb':=km _ _ nvm.1 nvm.2.1 nvm.2.2.1 nvm.2.2.2 hva'
       obtain⟨_,hcd0,_⟩:=id hca
       have hhb':=hha'.kpM km Ia.hm Ia.hp hna hcd0 nhm.2.2.1 nhm.2.2.2
       refine⟨_,rfl,_,rfl,dl,_,rfl,.inl (SqL.of (atL kpb xdl)),_,_,rfl,rfl,_,rfl,iteB (fun _=>?_) (fun c=>absurd (show (k:Int)<(((ts.map V.ref).length:Nat):Int) by rw[List.length_map];omega) (of_decide_eq_false c))⟩
       refine⟨_,rfl,_,rfl,iteB (fun _=>?_) (fun c=>by cases c)⟩
       refine⟨_,rfl,_,rfl,dl,_,k,.ref td,rfl,rfl,SqL.of (atL kpb xdl),ca (by rw[List.getElem?_map,htd];rfl),_,rfl,_,rfl,_,rfl,?_⟩
       refine .mk td vd hd g d zs F' hs rfl nvh (atT kpb rD) (a6f hxs ins hzs hdm) nilz hzl hvb' hhb' hs9 fun r G'' k2 dr=>?_
       obtain⟨_,hhd0,_⟩:=id hhb'
       have I'':=I'.kp2 k2 hvb' hhd0
       have hn'':=k2 _ _ hn' (Ne.symm nvm.2.2.1) (Ne.symm nhm.2.2.1)
       have hc'':=hc'.kp2 k2 hvb' hhd0 (Ne.symm nvm.2.2.2) (Ne.symm nhm.2.2.2)
       have kpc:=kpb.done k2
       rcases dr with⟨h,h1,h2,h3⟩|⟨f',hs2,g2,h,h1,h2,h3⟩
       . rcases hst with⟨_,rfl,rfl,rfl,rfl,rfl⟩|⟨z,_⟩
         . refine⟨r,_,rfl,SqT.of h1,rfl,_,_,rfl,_,_,rfl,rfl,?_⟩
           refine⟨_,rfl,_,rfl,?_⟩
           refine⟨_,rfl,_,rfl,_,rfl,_,_,rfl,rfl,?_⟩
           exact⟨pt',fm',fs',_,_,true,_,_,_,_,I'',hn'',hc'',h2,h3,kpc,hk,by omega,rfl⟩
         . rw[h] at z;cases z
       . rcases hst with⟨z,_⟩|⟨z,rfl,rfl⟩
         . rw[h] at z;cases z
         . rw[h] at z
           cases z
           have hl2:=a2g h
           refine⟨r,_,rfl,SqT.of h1,rfl,_,_,rfl,_,_,rfl,rfl,?_⟩
           refine⟨_,rfl,_,rfl,?_⟩
           refine⟨_,rfl,_,rfl,_,rfl,_,_,rfl,rfl,?_⟩
           exact⟨pt',fm',fs',k+1,_,false,_,_,_,_,I'',hn'',hc'',h2,h3,kpc,hkl,by omega,rfl⟩
     exact a8k Ia (by omega) htm rM hna hca (by omega) hs9 ncd (a6f hxs ins (fun y=>(hyz y).trans (hzs y)) hdm) (fun h0 G' fm' km I' hn' hc'=>after G' _ _ _ _ _ _ _ _ km I' hn' hc' (.inl ⟨h0,rfl,rfl,rfl,rfl,rfl⟩)) fun F'' hs' g' h0 G' pt' fm' fs' km I' hn' hc'=>after G' _ _ _ _ _ _ _ _ km I' hn' hc' (.inr ⟨h0,rfl,rfl⟩)
   . have rest:∀Gb,Same Ga Gb->B2.nx [some (.ref a),some (.ref nl),some (.int pk),some (.ref pt),some (.str res),some (.ref dl),some (.ref hd),some (.ref sp),some (.ref vd),some (.int (k:Int)),some (.ref pl),some (.ref hl),some (.ref m),some (.ref kl),some (.int g),some (.bl b),some (.int (0+(i:Int))),z17] Gb:=fun Gb s2=>by
       refine hB2 _ _ ?_
       have L:LV K CM CF X m dm pd fl cd p dxp pr nd' bd a nl pt dl sp vd hd pl hl kl pk res nm tsM ys zs (i+1) [some (.ref a),some (.ref nl),some (.int pk),some (.ref pt),some (.str res),some (.ref dl),some (.ref hd),some (.ref sp),some (.ref vd),some (.int (k:Int)),some (.ref pl),some (.ref hl),some (.ref m),some (.ref kl),some (.int g),some (.bl b),some (.int (0+(i:Int))),z17] Gb:=⟨pt1,fm1,fs1,k,g,b,F',hs,_,_,Ia.same fun c o _ h=>s2 c o h,s2 _ _ hna,hca.same s2,s2 _ _ hva',hha'.same s2,kpa.same s2,hk,by omega,rfl⟩
       refine⟨_,rfl,_,rfl,dl,_,rfl,.inl (SqL.of (atL (kpa.same s2) xdl)),_,_,rfl,rfl,_,rfl,iteB (fun c=>?_) (fun _=>L)⟩
       refine⟨_,rfl,_,rfl,iteB (fun c'=>?_) (fun _=>L)⟩
       refine absurd ⟨?_,?_⟩ hdo
       . cases b with
         | false=>rfl
         | true=>cases c'
       . have:=of_decide_eq_true c
         rw[List.length_map] at this
         omega
     cases b with
     | true=>exact .fallen m dm pd fl cd fm1 g rfl Ia.hm Ia.mf (rest _ fun _ _ z=>z)
     | false=>exact .ended m pd fl cd p pr pt1 nd' bd g "" tsM k rfl (Ia.at1 (by omega)) (Nat.le_of_not_lt fun z=>hdo ⟨rfl,z⟩) rest
 . rintro σ G ⟨pt1,fm1,fs1,k,g,b,F',hs,z16,z17,I,hn,hc,hv,hh,kp,hk,hln,rfl⟩
   refine hF1 _ _ ?_
   rw[List.length_map] at hln
   have hs9:hs.length<=900:=by omega
   refine au (a:=tIfS _ _ _) fun B1 hB1 _ _=>?_
   have el:(((ts.map V.ref).length:Nat):Int)=(tsM.length:Int):=by rw[List.length_map,hlM]
   refine⟨_,rfl,_,rfl,pl,_,0,.ref tp,rfl,rfl,SqL.of (atL kp xpl),rfl,tp,_,0,.str nm,rfl,rfl,SqT.of (atT kp xtp),rfl,_,rfl,_,rfl,dl,_,rfl,.inl (SqL.of (atL kp xdl)),_,rfl,_,rfl,_,rfl,?_⟩
   rw[el]
   refine .mk m pd fl cd p pr pt1 nd' bd vd hd g b "" nm tsM k ys zs F' hs rfl (I.ms (by omega) hn hc) hk oknm hv hh hlyz (fun y hy=>(hyz y).mp hy) (by omega) (by omega) fun Ga s1=>?_
   refine⟨_,rfl,iteB (fun c=>absurd c (by simp)) (fun _=>?_)⟩
   refine hB1 _ _ ?_
   have kpa:=kp.same s1
   refine⟨_,rfl,_,rfl,hl,kl,_,_,rfl,rfl,atL kpa xhl,atL kpa xkl,.cons (.inr (.inl ⟨va,vb,_,rfl,rfl,nab,gva kpa,gvb kpa,fun z hz=>?_⟩)) (.cons (.inr (.inl ⟨ha,hb,_,rfl,rfl,nhb,gha kpa,ghb kpa,fun z hz=>?_⟩)) .nil),_,rfl,iteB (fun _=>?_) (fun c=>by cases c)⟩
   . obtain⟨y,_,rfl⟩:=List.mem_map.mp hz;rfl
   . obtain⟨y,_,rfl⟩:=List.mem_map.mp hz;rfl
   refine⟨_,rfl,pl,_,0,.ref tp,rfl,rfl,SqL.of (atL kpa xpl),rfl,tp,_,5,.ref d2,rfl,rfl,SqT.of (atT kpa xtp),rfl,_,rfl,d2,dl,_,_,rfl,rfl,atL kpa xd2,atL kpa xdl,?_,?_⟩
   . exact r6
   . exact q _
noncomputable abbrev a5q:Stmt:=cx (top 30) 7
noncomputable abbrev a7w:Stmt:=cx (top 30) 8
theorem kq {K:PySem.W.Frag}{h:Heap}{mg:Str->Option Value}{x:Str}{a:Addr}(X:K.In h) (G:h.Ns mainGlobals mg) (e:PySem.W.nsIn K mainGlobals x=some (some (.ref a))):Glob mg x (.ref a):=⟨_,PySem.W.mg_of X G e,rfl⟩
theorem vn {K:PySem.W.Frag}{h:Heap}{mg:Str->Option Value}{x y z:Str}{t:Tok}(X:K.In h) (G:h.Ns mainGlobals mg) (e:PySem.W.nsIn K mainGlobals x=some (some (.str y t))) (hy:y=z):Glob mg x (.str z):=⟨_,PySem.W.mg_of X G e,t,by rw[hy]⟩
theorem a5w {K:PySem.W.Frag}{h:Heap}{mg:Str->Option Value}{x:Str}{i j:Int}{t:Tok}(X:K.In h) (G:h.Ns mainGlobals mg) (e:PySem.W.nsIn K mainGlobals x=some (some (.int i t))) (hj:i=j):Glob mg x (.int j):=⟨_,PySem.W.mg_of X G e,t,by rw[hj]⟩
theorem rel_find {es:Array DictEntry}{kvs:List (Str×V)}(h:Paired (fun (kv:Str×V) (e:DictEntry)=>∃hh t u,e=⟨hh,.str kv.1 t,u⟩/\RelV kv.2 u) kvs es.toList) (x:Str):RelO (kvs.lookup x) (findBy Value.isStrOf es x):=by
 unfold findBy
 rw[<- Array.find?_toList]
 generalize es.toList=l at h
 have b:∀y t,Value.isStrOf x (.str y t)=(x == y):=fun y t=>by
   show (y == x)=(x == y)
   exact Bool.eq_iff_iff.mpr ⟨fun z=>beq_iff_eq.mpr (beq_iff_eq.mp z).symm,fun z=>beq_iff_eq.mpr (beq_iff_eq.mp z).symm⟩
 induction h with
 | nil=>exact trivial
 | cons h1 _ ih =>
   rename_i kv e _ _ _
   obtain⟨k,v⟩:=kv
   obtain⟨hh,t,u,rfl,r⟩:=h1
   simp only[List.find?_cons,b,List.lookup_cons]
   dsimp only at r ih |-
   cases x == k with
   | true=>exact r
   | false=>exact ih
theorem all_mk {l:PySem.W.OpenLaw}{w:World}{K:PySem.W.Frag}{h:Heap}{mg:Str->Option Value}{fa CF CM f1 f2 f3 f4 f5 f6 f7 f8 f9 f10 f11 f12 f13 f14 f15 f16 f17 f18 f19 f20 f21 f22 f23 f24 f25 f26 f27 f28 f29 f30 f31 f32 f33 f34 f35 f36 f37 f38 f39 f40 f41 f42 f43 f44 f45 f46 f47:Addr}(X:K.In h) (G:h.Ns mainGlobals mg) (hfa:mg "law" = some (.ref fa))
   {d1 d2 d3 d4 d5 d6 d7 d8 d9 d10 d11 d12 d13 d14 d15 d16 d17 d18 d19 d20 d21 d22 d23 d24 d25 d26 d27 d28 d29 d30 d31 d32 d33 d34 d35 d36 d37 d38 d39 d40 d41 d42 d43 d44 d45 d46 d47:FuncData}
   (aCFrame:PySem.W.nsIn K mainGlobals "Frame" = some (some (.ref CF)))
   (aCMachine:PySem.W.nsIn K mainGlobals "Machine" = some (some (.ref CM)))
   (a1:PySem.W.nsIn K mainGlobals "is_name" = some (some (.ref f1)))
   (F1:Fun K "is_name" "is_name" sq f1 d1)
   (a2:PySem.W.nsIn K mainGlobals "names_of" = some (some (.ref f2)))
   (F2:Fun K "names_of" "names_of" pi f2 d2)
   (a3:PySem.W.nsIn K mainGlobals "number_of" = some (some (.ref f3)))
   (F3:Fun K "number_of" "number_of" vv f3 d3)
   (a4:PySem.W.nsIn K mainGlobals "lists_in" = some (some (.ref f4)))
   (F4:Fun K "lists_in" "lists_in" o8 f4 d4)
   (a5:PySem.W.nsIn K mainGlobals "own_deed" = some (some (.ref f5)))
   (F5:Fun K "own_deed" "own_deed" pe f5 d5)
   (a6:PySem.W.nsIn K mainGlobals "own_deeds" = some (some (.ref f6)))
   (F6:Fun K "own_deeds" "own_deeds" lr f6 d6)
   (a7:PySem.W.nsIn K mainGlobals "cell_name" = some (some (.ref f7)))
   (F7:Fun K "cell_name" "cell_name" lj f7 d7)
   (a8:PySem.W.nsIn K mainGlobals "all_deeds" = some (some (.ref f8)))
   (F8:Fun K "all_deeds" "all_deeds" sAll f8 d8)
   (a9:PySem.W.nsIn K mainGlobals "words_of" = some (some (.ref f9)))
   (F9:Fun K "words_of" "words_of" w9 f9 d9)
   (a10:PySem.W.nsIn K mainGlobals "names_in" = some (some (.ref f10)))
   (F10:Fun K "names_in" "names_in" om f10 d10)
   (a11:PySem.W.nsIn K mainGlobals "by_names" = some (some (.ref f11)))
   (F11:Fun K "by_names" "by_names" o7 f11 d11)
   (a12:PySem.W.nsIn K mainGlobals "list_of" = some (some (.ref f12)))
   (F12:Fun K "list_of" "list_of" sj f12 d12)
   (a13:PySem.W.nsIn K mainGlobals "found_at" = some (some (.ref f13)))
   (F13:Fun K "found_at" "found_at" vf f13 d13)
   (a14:PySem.W.nsIn K mainGlobals "behind_deed" = some (some (.ref f14)))
   (F14:Fun K "behind_deed" "behind_deed" rh f14 d14)
   (a15:PySem.W.nsIn K mainGlobals "settled" = some (some (.ref f15)))
   (F15:Fun K "settled" "settled" pb f15 d15)
   (a16:PySem.W.nsIn K mainGlobals "_law_cell_at" = some (some (.ref f16)))
   (F16:Fun K "_law_cell_at" "_law_cell_at" a0k f16 d16)
   (a17:PySem.W.nsIn K mainGlobals "_law_rich" = some (some (.ref f17)))
   (F17:Fun K "_law_rich" "_law_rich" a0j f17 d17)
   (a18:PySem.W.nsIn K mainGlobals "_law_fed" = some (some (.ref f18)))
   (F18:Fun K "_law_fed" "_law_fed" sFed f18 d18)
   (a19:PySem.W.nsIn K mainGlobals "_law_digit" = some (some (.ref f19)))
   (F19:Fun K "_law_digit" "_law_digit" x9 f19 d19)
   (a20:PySem.W.nsIn K mainGlobals "_law_unlike" = some (some (.ref f20)))
   (F20:Fun K "_law_unlike" "_law_unlike" rg f20 d20)
   (a21:PySem.W.nsIn K mainGlobals "_law_names" = some (some (.ref f21)))
   (F21:Fun K "_law_names" "_law_names" vp f21 d21)
   (a22:PySem.W.nsIn K mainGlobals "_law_plain" = some (some (.ref f22)))
   (F22:Fun K "_law_plain" "_law_plain" x4 f22 d22)
   (a23:PySem.W.nsIn K mainGlobals "_law_value" = some (some (.ref f23)))
   (F23:Fun K "_law_value" "_law_value" wt f23 d23)
   (a24:PySem.W.nsIn K mainGlobals "_law_heap" = some (some (.ref f24)))
   (F24:Fun K "_law_heap" "_law_heap" zw f24 d24)
   (a25:PySem.W.nsIn K mainGlobals "_law_values" = some (some (.ref f25)))
   (F25:Fun K "_law_values" "_law_values" rp f25 d25)
   (a26:PySem.W.nsIn K mainGlobals "_law_done" = some (some (.ref f26)))
   (F26:Fun K "_law_done" "_law_done" a0a f26 d26)
   (a27:PySem.W.nsIn K mainGlobals "_law_numbers_alike" = some (some (.ref f27)))
   (F27:Fun K "_law_numbers_alike" "_law_numbers_alike" ul f27 d27)
   (a28:PySem.W.nsIn K mainGlobals "_law_cells_alike" = some (some (.ref f28)))
   (F28:Fun K "_law_cells_alike" "_law_cells_alike" q5 f28 d28)
   (a29:PySem.W.nsIn K mainGlobals "_law_stands" = some (some (.ref f29)))
   (F29:Fun K "_law_stands" "_law_stands" mr f29 d29)
   (a30:PySem.W.nsIn K mainGlobals "_law_deeds" = some (some (.ref f30)))
   (F30:Fun K "_law_deeds" "_law_deeds" vq f30 d30)
   (a31:PySem.W.nsIn K mainGlobals "_law_said_by" = some (some (.ref f31)))
   (F31:Fun K "_law_said_by" "_law_said_by" rn f31 d31)
   (a32:PySem.W.nsIn K mainGlobals "_law_said" = some (some (.ref f32)))
   (F32:Fun K "_law_said" "_law_said" a06 f32 d32)
   (a33:PySem.W.nsIn K mainGlobals "law" = some (some (.ref f33)))
   (F33:Fun K "law" "law" sLaw f33 d33)
   (a34:PySem.W.findIn K (.ref CF) "__init__" = some (some (.ref f34))) (i34:PySem.W.isFn K (.ref f34)=true)
   (F34:Fun K "__init__" "Frame.__init__" w6 f34 d34)
   (a35:PySem.W.findIn K (.ref CF) "deed" = some (some (.ref f35))) (i35:PySem.W.isFn K (.ref f35)=true)
   (F35:Fun K "deed" "Frame.deed" xh f35 d35)
   (a36:PySem.W.findIn K (.ref CF) "move" = some (some (.ref f36))) (i36:PySem.W.isFn K (.ref f36)=true)
   (F36:Fun K "move" "Frame.move" xb f36 d36)
   (a37:PySem.W.findIn K (.ref CF) "number" = some (some (.ref f37))) (i37:PySem.W.isFn K (.ref f37)=true)
   (F37:Fun K "number" "Frame.number" a09 f37 d37)
   (a38:PySem.W.findIn K (.ref CM) "__init__" = some (some (.ref f38))) (i38:PySem.W.isFn K (.ref f38)=true)
   (F38:Fun K "__init__" "Machine.__init__" xl f38 d38)
   (a39:PySem.W.findIn K (.ref CM) "word" = some (some (.ref f39))) (i39:PySem.W.isFn K (.ref f39)=true)
   (F39:Fun K "word" "Machine.word" vx f39 d39)
   (a40:PySem.W.findIn K (.ref CM) "where" = some (some (.ref f40))) (i40:PySem.W.isFn K (.ref f40)=true)
   (F40:Fun K "where" "Machine.where" sk f40 d40)
   (a41:PySem.W.findIn K (.ref CM) "held" = some (some (.ref f41))) (i41:PySem.W.isFn K (.ref f41)=true)
   (F41:Fun K "held" "Machine.held" xf f41 d41)
   (a42:PySem.W.findIn K (.ref CM) "heap" = some (some (.ref f42))) (i42:PySem.W.isFn K (.ref f42)=true)
   (F42:Fun K "heap" "Machine.heap" v7 f42 d42)
   (a43:PySem.W.findIn K (.ref CM) "step" = some (some (.ref f43))) (i43:PySem.W.isFn K (.ref f43)=true)
   (F43:Fun K "step" "Machine.step" x8 f43 d43)
   (a44:PySem.W.findIn K (.ref CM) "branch" = some (some (.ref f44))) (i44:PySem.W.isFn K (.ref f44)=true)
   (F44:Fun K "branch" "Machine.branch" a5q f44 d44)
   (a45:PySem.W.findIn K (.ref CM) "enter" = some (some (.ref f45))) (i45:PySem.W.isFn K (.ref f45)=true)
   (F45:Fun K "enter" "Machine.enter" a7w f45 d45)
   (a46:PySem.W.findIn K (.ref CM) "leave_ended" = some (some (.ref f46))) (i46:PySem.W.isFn K (.ref f46)=true)
   (F46:Fun K "leave_ended" "Machine.leave_ended" sm f46 d46)
   (a47:PySem.W.findIn K (.ref CM) "change" = some (some (.ref f47))) (i47:PySem.W.isFn K (.ref f47)=true)
   (F47:Fun K "change" "Machine.change" oa f47 d47)
   (pgFrame:PySem.W.plainGet K CF Str.empty=true) (hdFrame:PySem.W.hasDictIn K CF=true) (poFrame:PySem.W.plainOver K CF=true) (saFrame:PySem.W.findIn K (.ref CF) "__setattr__" = some (some (.builtin "object.__setattr__"))) (mkFrame:PySem.W.makesIn K CF=true) (kcFrame:PySem.W.keepIn K (.ref CF)=true)
   (nFrame0:PySem.W.findIn K (.ref CF) "procedure" = some none)
   (nFrame1:PySem.W.findIn K (.ref CF) "path" = some none)
   (nFrame2:PySem.W.findIn K (.ref CF) "numbers" = some none)
   (nFrame3:PySem.W.findIn K (.ref CF) "receiver" = some none)
   (pgMachine:PySem.W.plainGet K CM Str.empty=true) (hdMachine:PySem.W.hasDictIn K CM=true) (poMachine:PySem.W.plainOver K CM=true) (saMachine:PySem.W.findIn K (.ref CM) "__setattr__" = some (some (.builtin "object.__setattr__"))) (mkMachine:PySem.W.makesIn K CM=true) (kcMachine:PySem.W.keepIn K (.ref CM)=true)
   (nMachine0:PySem.W.findIn K (.ref CM) "procedures" = some none)
   (nMachine1:PySem.W.findIn K (.ref CM) "frames" = some none)
   (nMachine2:PySem.W.findIn K (.ref CM) "cells" = some none)
   (nMachine3:PySem.W.findIn K (.ref CM) "greatest" = some none)
   (nMachine4:PySem.W.findIn K (.ref CM) "fallen" = some none)
   (z1:PySem.W.nsIn K mainGlobals "len" = some none)
   (z2:PySem.W.nsIn K mainGlobals "all" = some none)
   (z3:PySem.W.nsIn K mainGlobals "any" = some none)
   (z4:PySem.W.nsIn K mainGlobals "isinstance" = some none)
   (z5:PySem.W.nsIn K mainGlobals "list" = some none)
   (z6:PySem.W.nsIn K mainGlobals "int" = some none)
   (z7:PySem.W.nsIn K mainGlobals "bool" = some none)
   (z8:PySem.W.nsIn K mainGlobals "str" = some none)
   (z9:PySem.W.nsIn K mainGlobals "dict" = some none)
   (z10:PySem.W.nsIn K mainGlobals "sorted" = some none)
   (z11:PySem.W.nsIn K mainGlobals "set" = some none)
   (z12:PySem.W.nsIn K mainGlobals "sum" = some none)
   (z13:PySem.W.nsIn K mainGlobals "range" = some none)
   (z14:PySem.W.nsIn K mainGlobals "tuple" = some none)
   (z15:PySem.W.nsIn K mainGlobals "max" = some none)
   (z16:PySem.W.nsIn K mainGlobals "zip" = some none)
   (z17:PySem.W.nsIn K mainGlobals "min" = some none)
   (z18:PySem.W.nsIn K mainGlobals "enumerate" = some none)
   {yL yF:Str} {tL tF:Tok} (gL:PySem.W.nsIn K mainGlobals "LETTERS" = some (some (.str yL tL))) (eL:yL=Mir.letters) (gF:PySem.W.nsIn K mainGlobals "FIGURES" = some (some (.str yF tF))) (eF:yF=Mir.figures)
   {jS:Int} {tS:Tok} (gS:PySem.W.nsIn K mainGlobals "MOST_SIGNS" = some (some (.int jS tS))) (eS:jS=8)
   {aN aP aE aT t1 t2 t3 t4 t5:Addr} {oN oT o1 o2 o3 o4 o5:Obj} {itN itT it1 it2 it3 it4 it5:Array Value} {nN nT nP nE n1 n2 n3 n4 n5:Nat} {es ec:Array DictEntry}
   (gN:PySem.W.nsIn K mainGlobals "NO_NAMES" = some (some (.ref aN))) (lN:K.lookup aN=some oN) (cN:oN.cls=.type "tuple") (dN:oN.data=.seq itN nN) (sN:itN.size<=100) (vN:Vals (Mir.noNames.map V.str) itN.toList)
   (gT:PySem.W.nsIn K mainGlobals "FIELDS" = some (some (.ref aT))) (lT:K.lookup aT=some oT) (cT:oT.cls=.type "tuple") (dT:oT.data=.seq itT nT) (sT:itT.size<=100) (bT:oT.dict=none) (vT:Vals (([("first" : Str),"second"]:List Str).map V.str) itT.toList)
   (gP:PySem.W.nsIn K mainGlobals "PLAIN_FORMS" = some (some (.ref aP))) (lP:K.lookup aP=some ⟨.type "dict",none,.dict es nP,#[]⟩) (hP:PySem.W.KeysLit w.params es.toList) (mP:(aP == sysModules)=false) (rP:∀x,RelO (([("set",.ref t1),("read",.ref t2),("write",.ref t3),("new",.ref t4),("free",.ref t5)]:List (Str×V)).lookup x) (findBy Value.isStrOf es x))
   (lT1:K.lookup t1=some o1) (cT1:o1.cls=.type "tuple") (dT1:o1.data=.seq it1 n1) (sT1:it1.size<=100) (vT1:Vals ((["name","value"]:List Str).map V.str) it1.toList)
   (lT2:K.lookup t2=some o2) (cT2:o2.cls=.type "tuple") (dT2:o2.data=.seq it2 n2) (sT2:it2.size<=100) (vT2:Vals ((["name","name","field"]:List Str).map V.str) it2.toList)
   (lT3:K.lookup t3=some o3) (cT3:o3.cls=.type "tuple") (dT3:o3.data=.seq it3 n3) (sT3:it3.size<=100) (vT3:Vals ((["name","field","value"]:List Str).map V.str) it3.toList)
   (lT4:K.lookup t4=some o4) (cT4:o4.cls=.type "tuple") (dT4:o4.data=.seq it4 n4) (sT4:it4.size<=100) (vT4:Vals ((["name","value","value"]:List Str).map V.str) it4.toList)
   (lT5:K.lookup t5=some o5) (cT5:o5.cls=.type "tuple") (dT5:o5.data=.seq it5 n5) (sT5:it5.size<=100) (vT5:Vals ((["name"]:List Str).map V.str) it5.toList)
   (gE:PySem.W.nsIn K mainGlobals "CELL_PLACES" = some (some (.ref aE))) (lE:K.lookup aE=some ⟨.type "dict",none,.dict ec nE,#[]⟩) (hE:PySem.W.KeysLit w.params ec.toList) (mE:(aE == sysModules)=false) (rE:∀x,RelO (([("read",.int 2),("write",.int 1),("free",.int 1)]:List (Str×V)).lookup x) (findBy Value.isStrOf ec x)) :
   ∃fd:FuncData,(∀(s:Shared) (v:Value),BindsTo s fd ⟨[v],[]⟩ [("_law_script",v)])/\∀base:Heap,K.In base->base.Ns mainGlobals mg->FnOk l.prog w K mg base CX0 9 fa fd ["_law_script"] (uo K):=by
 have e:=hfa.symm.trans (PySem.W.mg_of X G a33)
 cases e
 have B1:=F1.binds (ps:=["text"]) fun _ _ _ _ _ _ us hl=>match us,hl with | [_],_=>rfl
 have C1:Cal K mg "is_name" f1 _ ["text"]:=⟨PySem.W.mg_of X G a1,F1.kp,B1⟩
 have B2:=F2.binds (ps:=["telling"]) fun _ _ _ _ _ _ us hl=>match us,hl with | [_],_=>rfl
 have C2:Cal K mg "names_of" f2 _ ["telling"]:=⟨PySem.W.mg_of X G a2,F2.kp,B2⟩
 have B3:=F3.binds (ps:=["values","word"]) fun _ _ _ _ _ _ us hl=>match us,hl with | [_,_],_=>rfl
 have C3:Cal K mg "number_of" f3 _ ["values","word"]:=⟨PySem.W.mg_of X G a3,F3.kp,B3⟩
 have B4:=F4.binds (ps:=["deed"]) fun _ _ _ _ _ _ us hl=>match us,hl with | [_],_=>rfl
 have C4:Cal K mg "lists_in" f4 _ ["deed"]:=⟨PySem.W.mg_of X G a4,F4.kp,B4⟩
 have B5:=F5.binds (ps:=["deed"]) fun _ _ _ _ _ _ us hl=>match us,hl with | [_],_=>rfl
 have C5:Cal K mg "own_deed" f5 _ ["deed"]:=⟨PySem.W.mg_of X G a5,F5.kp,B5⟩
 have B6:=F6.binds (ps:=["deeds"]) fun _ _ _ _ _ _ us hl=>match us,hl with | [_],_=>rfl
 have C6:Cal K mg "own_deeds" f6 _ ["deeds"]:=⟨PySem.W.mg_of X G a6,F6.kp,B6⟩
 have B7:=F7.binds (ps:=["deed"]) fun _ _ _ _ _ _ us hl=>match us,hl with | [_],_=>rfl
 have C7:Cal K mg "cell_name" f7 _ ["deed"]:=⟨PySem.W.mg_of X G a7,F7.kp,B7⟩
 have B8:=F8.binds (ps:=["deeds"]) fun _ _ _ _ _ _ us hl=>match us,hl with | [_],_=>rfl
 have C8:Cal K mg "all_deeds" f8 _ ["deeds"]:=⟨PySem.W.mg_of X G a8,F8.kp,B8⟩
 have B9:=F9.binds (ps:=["deed"]) fun _ _ _ _ _ _ us hl=>match us,hl with | [_],_=>rfl
 have C9:Cal K mg "words_of" f9 _ ["deed"]:=⟨PySem.W.mg_of X G a9,F9.kp,B9⟩
 have B10:=F10.binds (ps:=["procedure"]) fun _ _ _ _ _ _ us hl=>match us,hl with | [_],_=>rfl
 have C10:Cal K mg "names_in" f10 _ ["procedure"]:=⟨PySem.W.mg_of X G a10,F10.kp,B10⟩
 have B11:=F11.binds (ps:=["program"]) fun _ _ _ _ _ _ us hl=>match us,hl with | [_],_=>rfl
 have C11:Cal K mg "by_names" f11 _ ["program"]:=⟨PySem.W.mg_of X G a11,F11.kp,B11⟩
 have B12:=F12.binds (ps:=["body","path"]) fun _ _ _ _ _ _ us hl=>match us,hl with | [_,_],_=>rfl
 have C12:Cal K mg "list_of" f12 _ ["body","path"]:=⟨PySem.W.mg_of X G a12,F12.kp,B12⟩
 have B13:=F13.binds (ps:=["body","path"]) fun _ _ _ _ _ _ us hl=>match us,hl with | [_,_],_=>rfl
 have C13:Cal K mg "found_at" f13 _ ["body","path"]:=⟨PySem.W.mg_of X G a13,F13.kp,B13⟩
 have B14:=F14.binds (ps:=["path"]) fun _ _ _ _ _ _ us hl=>match us,hl with | [_],_=>rfl
 have C14:Cal K mg "behind_deed" f14 _ ["path"]:=⟨PySem.W.mg_of X G a14,F14.kp,B14⟩
 have B15:=F15.binds (ps:=["body","path"]) fun _ _ _ _ _ _ us hl=>match us,hl with | [_,_],_=>rfl
 have C15:Cal K mg "settled" f15 _ ["body","path"]:=⟨PySem.W.mg_of X G a15,F15.kp,B15⟩
 have B16:=F16.binds (ps:=["_law_script","_law_k"]) fun _ _ _ _ _ _ us hl=>match us,hl with | [_,_],_=>rfl
 have C16:Cal K mg "_law_cell_at" f16 _ ["_law_script","_law_k"]:=⟨PySem.W.mg_of X G a16,F16.kp,B16⟩
 have B17:=F17.binds (ps:=["_law_cell","_law_k"]) fun _ _ _ _ _ _ us hl=>match us,hl with | [_,_],_=>rfl
 have C17:Cal K mg "_law_rich" f17 _ ["_law_cell","_law_k"]:=⟨PySem.W.mg_of X G a17,F17.kp,B17⟩
 have B18:=F18.binds (ps:=["_law_cell","_law_k"]) fun _ _ _ _ _ _ us hl=>match us,hl with | [_,_],_=>rfl
 have C18:Cal K mg "_law_fed" f18 _ ["_law_cell","_law_k"]:=⟨PySem.W.mg_of X G a18,F18.kp,B18⟩
 have B19:=F19.binds (ps:=["_law_digits","_law_many"]) fun _ _ _ _ _ _ us hl=>match us,hl with | [_,_],_=>rfl
 have C19:Cal K mg "_law_digit" f19 _ ["_law_digits","_law_many"]:=⟨PySem.W.mg_of X G a19,F19.kp,B19⟩
 have B20:=F20.binds (ps:=["_law_name","_law_names_here"]) fun _ _ _ _ _ _ us hl=>match us,hl with | [_,_],_=>rfl
 have C20:Cal K mg "_law_unlike" f20 _ ["_law_name","_law_names_here"]:=⟨PySem.W.mg_of X G a20,F20.kp,B20⟩
 have B21:=F21.binds (ps:=["_law_base","_law_place","_law_many"]) fun _ _ _ _ _ _ us hl=>match us,hl with | [_,_,_],_=>rfl
 have C21:Cal K mg "_law_names" f21 _ ["_law_base","_law_place","_law_many"]:=⟨PySem.W.mg_of X G a21,F21.kp,B21⟩
 have B22:=F22.binds (ps:=["_law_digits","_law_own","_law_every","_law_word"]) fun _ _ _ _ _ _ us hl=>match us,hl with | [_,_,_,_],_=>rfl
 have C22:Cal K mg "_law_plain" f22 _ ["_law_digits","_law_own","_law_every","_law_word"]:=⟨PySem.W.mg_of X G a22,F22.kp,B22⟩
 have B23:=F23.binds (ps:=["_law_digits","_law_spots"]) fun _ _ _ _ _ _ us hl=>match us,hl with | [_,_],_=>rfl
 have C23:Cal K mg "_law_value" f23 _ ["_law_digits","_law_spots"]:=⟨PySem.W.mg_of X G a23,F23.kp,B23⟩
 have B24:=F24.binds (ps:=["_law_script","_law_start"]) fun _ _ _ _ _ _ us hl=>match us,hl with | [_,_],_=>rfl
 have C24:Cal K mg "_law_heap" f24 _ ["_law_script","_law_start"]:=⟨PySem.W.mg_of X G a24,F24.kp,B24⟩
 have B25:=F25.binds (ps:=["_law_script","_law_start","_law_told","_law_spots"]) fun _ _ _ _ _ _ us hl=>match us,hl with | [_,_,_,_],_=>rfl
 have C25:Cal K mg "_law_values" f25 _ ["_law_script","_law_start","_law_told","_law_spots"]:=⟨PySem.W.mg_of X G a25,F25.kp,B25⟩
 have B26:=F26.binds (ps:=["_law_deed","_law_values_here","_law_heap_here","_law_great"]) fun _ _ _ _ _ _ us hl=>match us,hl with | [_,_,_,_],_=>rfl
 have C26:Cal K mg "_law_done" f26 _ ["_law_deed","_law_values_here","_law_heap_here","_law_great"]:=⟨PySem.W.mg_of X G a26,F26.kp,B26⟩
 have B27:=F27.binds (ps:=["_law_found","_law_due"]) fun _ _ _ _ _ _ us hl=>match us,hl with | [_,_],_=>rfl
 have C27:Cal K mg "_law_numbers_alike" f27 _ ["_law_found","_law_due"]:=⟨PySem.W.mg_of X G a27,F27.kp,B27⟩
 have B28:=F28.binds (ps:=["_law_found","_law_due"]) fun _ _ _ _ _ _ us hl=>match us,hl with | [_,_],_=>rfl
 have C28:Cal K mg "_law_cells_alike" f28 _ ["_law_found","_law_due"]:=⟨PySem.W.mg_of X G a28,F28.kp,B28⟩
 have B29:=F29.binds (ps:=["_law_machine","_law_name","_law_k","_law_many","_law_values_here","_law_heap_here","_law_fallen"]) fun _ _ _ _ _ _ us hl=>match us,hl with | [_,_,_,_,_,_,_],_=>rfl
 have C29:Cal K mg "_law_stands" f29 _ ["_law_machine","_law_name","_law_k","_law_many","_law_values_here","_law_heap_here","_law_fallen"]:=⟨PySem.W.mg_of X G a29,F29.kp,B29⟩
 have B30:=F30.binds (ps:=["_law_script","_law_names_here","_law_params"]) fun _ _ _ _ _ _ us hl=>match us,hl with | [_,_,_],_=>rfl
 have C30:Cal K mg "_law_deeds" f30 _ ["_law_script","_law_names_here","_law_params"]:=⟨PySem.W.mg_of X G a30,F30.kp,B30⟩
 have B31:=F31.binds (ps:=["_law_deed"]) fun _ _ _ _ _ _ us hl=>match us,hl with | [_],_=>rfl
 have C31:Cal K mg "_law_said_by" f31 _ ["_law_deed"]:=⟨PySem.W.mg_of X G a31,F31.kp,B31⟩
 have B32:=F32.binds (ps:=["_law_deeds_here","_law_params","_law_result"]) fun _ _ _ _ _ _ us hl=>match us,hl with | [_,_,_],_=>rfl
 have C32:Cal K mg "_law_said" f32 _ ["_law_deeds_here","_law_params","_law_result"]:=⟨PySem.W.mg_of X G a32,F32.kp,B32⟩
 have B34:=F34.binds (ps:=["self","procedure","path","numbers","receiver"]) fun _ _ _ _ _ _ us hl=>match us,hl with | [_,_,_,_,_],_=>rfl
 have C34:MCal K CF "__init__" f34 _ ["self","procedure","path","numbers","receiver"]:=⟨⟨a34,i34,F34.kp⟩,B34⟩
 have B35:=F35.binds (ps:=["self"]) fun _ _ _ _ _ _ us hl=>match us,hl with | [_],_=>rfl
 have C35:MCal K CF "deed" f35 _ ["self"]:=⟨⟨a35,i35,F35.kp⟩,B35⟩
 have B36:=F36.binds (ps:=["self","path"]) fun _ _ _ _ _ _ us hl=>match us,hl with | [_,_],_=>rfl
 have C36:MCal K CF "move" f36 _ ["self","path"]:=⟨⟨a36,i36,F36.kp⟩,B36⟩
 have B37:=F37.binds (ps:=["self","word"]) fun _ _ _ _ _ _ us hl=>match us,hl with | [_,_],_=>rfl
 have C37:MCal K CF "number" f37 _ ["self","word"]:=⟨⟨a37,i37,F37.kp⟩,B37⟩
 have B38:=F38.binds (ps:=["self","program","name","path","values","heap"]) fun _ _ _ _ _ _ us hl=>match us,hl with | [_,_,_,_,_,_],_=>rfl
 have C38:MCal K CM "__init__" f38 _ ["self","program","name","path","values","heap"]:=⟨⟨a38,i38,F38.kp⟩,B38⟩
 have B39:=F39.binds (ps:=["self"]) fun _ _ _ _ _ _ us hl=>match us,hl with | [_],_=>rfl
 have C39:MCal K CM "word" f39 _ ["self"]:=⟨⟨a39,i39,F39.kp⟩,B39⟩
 have B40:=F40.binds (ps:=["self"]) fun _ _ _ _ _ _ us hl=>match us,hl with | [_],_=>rfl
 have C40:MCal K CM "where" f40 _ ["self"]:=⟨⟨a40,i40,F40.kp⟩,B40⟩
 have B41:=F41.binds (ps:=["self"]) fun _ _ _ _ _ _ us hl=>match us,hl with | [_],_=>rfl
 have C41:MCal K CM "held" f41 _ ["self"]:=⟨⟨a41,i41,F41.kp⟩,B41⟩
 have B42:=F42.binds (ps:=["self"]) fun _ _ _ _ _ _ us hl=>match us,hl with | [_],_=>rfl
 have C42:MCal K CM "heap" f42 _ ["self"]:=⟨⟨a42,i42,F42.kp⟩,B42⟩
 have B43:=F43.binds (ps:=["self"]) fun _ _ _ _ _ _ us hl=>match us,hl with | [_],_=>rfl
 have C43:MCal K CM "step" f43 _ ["self"]:=⟨⟨a43,i43,F43.kp⟩,B43⟩
 have B44:=F44.binds (ps:=["self","frame","deed"]) fun _ _ _ _ _ _ us hl=>match us,hl with | [_,_,_],_=>rfl
 have C44:MCal K CM "branch" f44 _ ["self","frame","deed"]:=⟨⟨a44,i44,F44.kp⟩,B44⟩
 have B45:=F45.binds (ps:=["self","frame","deed"]) fun _ _ _ _ _ _ us hl=>match us,hl with | [_,_,_],_=>rfl
 have C45:MCal K CM "enter" f45 _ ["self","frame","deed"]:=⟨⟨a45,i45,F45.kp⟩,B45⟩
 have B46:=F46.binds (ps:=["self"]) fun _ _ _ _ _ _ us hl=>match us,hl with | [_],_=>rfl
 have C46:MCal K CM "leave_ended" f46 _ ["self"]:=⟨⟨a46,i46,F46.kp⟩,B46⟩
 have B47:=F47.binds (ps:=["self","frame","deed"]) fun _ _ _ _ _ _ us hl=>match us,hl with | [_,_,_],_=>rfl
 have C47:MCal K CM "change" f47 _ ["self","frame","deed"]:=⟨⟨a47,i47,F47.kp⟩,B47⟩
 have C:Con K mg w:={
   len:=PySem.W.mg_none_of X G z1
   all:=PySem.W.mg_none_of X G z2
   any:=PySem.W.mg_none_of X G z3
   isi:=PySem.W.mg_none_of X G z4
   list:=PySem.W.mg_none_of X G z5
   int:=PySem.W.mg_none_of X G z6
   bool:=PySem.W.mg_none_of X G z7
   str:=PySem.W.mg_none_of X G z8
   dict:=PySem.W.mg_none_of X G z9
   sorted:=PySem.W.mg_none_of X G z10
   set:=PySem.W.mg_none_of X G z11
   sum:=PySem.W.mg_none_of X G z12
   range:=PySem.W.mg_none_of X G z13
   tuple:=PySem.W.mg_none_of X G z14
   max:=PySem.W.mg_none_of X G z15
   zip:=PySem.W.mg_none_of X G z16
   min:=PySem.W.mg_none_of X G z17
   enumerate:=PySem.W.mg_none_of X G z18
   letters:=vn X G gL eL
   figures:=vn X G gF eF
   mostSigns:=a5w X G gS eS
   noNames:=⟨aN,kq X G gN,fun _=>.inr ⟨oN,itN,nN,lN,cN,dN,Nat.le_trans sN (by decide),vN⟩⟩
   fields:=⟨aT,kq X G gT,(fun _=>.inr ⟨oT,itT,nT,lT,cT,dT,Nat.le_trans sT (by decide),vT⟩),oT,lT,cT,bT⟩
   places:=⟨aE,kq X G gE,ec,nE,lE,hE,mE,rE⟩
   forms:=⟨aP,[("set",t1),("read",t2),("write",t3),("new",t4),("free",t5)],kq X G gP,⟨es,nP,lP,hP,mP,rP⟩,rfl,fun w t r h1 h2 H=>by
     have S1:SqT K H t1 (([("name" : Str),"value"]:List Str).map V.str):=.inr ⟨o1,it1,n1,lT1,cT1,dT1,Nat.le_trans sT1 (by decide),vT1⟩
     have S2:SqT K H t2 (([("name" : Str),"name","field"]:List Str).map V.str):=.inr ⟨o2,it2,n2,lT2,cT2,dT2,Nat.le_trans sT2 (by decide),vT2⟩
     have S3:SqT K H t3 (([("name" : Str),"field","value"]:List Str).map V.str):=.inr ⟨o3,it3,n3,lT3,cT3,dT3,Nat.le_trans sT3 (by decide),vT3⟩
     have S4:SqT K H t4 (([("name" : Str),"value","value"]:List Str).map V.str):=.inr ⟨o4,it4,n4,lT4,cT4,dT4,Nat.le_trans sT4 (by decide),vT4⟩
     have S5:SqT K H t5 (([("name" : Str)]:List Str).map V.str):=.inr ⟨o5,it5,n5,lT5,cT5,dT5,Nat.le_trans sT5 (by decide),vT5⟩
     have hl:=ee fh h2
     simp only[List.mem_cons,List.not_mem_nil,or_false,Prod.mk.injEq] at h1
     rcases h1 with⟨rfl,rfl⟩|⟨rfl,rfl⟩|⟨rfl,rfl⟩|⟨rfl,rfl⟩|⟨rfl,rfl⟩
     . rw[show forms.lookup ("set" : Str)=some [("name" : Str),"value"] by decide +kernel] at hl;cases hl;exact S1
     . rw[show forms.lookup ("read" : Str)=some [("name" : Str),"name","field"] by decide +kernel] at hl;cases hl;exact S2
     . rw[show forms.lookup ("write" : Str)=some [("name" : Str),"field","value"] by decide +kernel] at hl;cases hl;exact S3
     . rw[show forms.lookup ("new" : Str)=some [("name" : Str),"value","value"] by decide +kernel] at hl;cases hl;exact S4
     . rw[show forms.lookup ("free" : Str)=some [("name" : Str)] by decide +kernel] at hl;cases hl;exact S5⟩ }
 obtain⟨_,_,kV,dc,pm,an,cd,ct,_,rfl,_,_⟩:=id F33.ex
 refine⟨PySem.W.fnOf "law" "law" (ja sLaw) (gy sLaw) (ao sLaw) .none kV dc pm an cd ct,fun s v=>.of_eq rfl,fun base _ _=>?_⟩
 have O1:=a1h (P:=l.prog) (base:=base) C F1
 have O2:=zy (P:=l.prog) (base:=base) C F2
 have U:TxF K mg CF f34:=⟨⟨pgFrame,hdFrame,poFrame,saFrame⟩,nFrame0,nFrame1,nFrame2,nFrame3,PySem.W.mg_of X G aCFrame,⟨mkFrame,a34,i34,kcFrame⟩⟩
 have T:TxM K mg CM f38:=⟨⟨pgMachine,hdMachine,poMachine,saMachine⟩,nMachine0,nMachine1,nMachine2,nMachine3,nMachine4,PySem.W.mg_of X G aCMachine,⟨mkMachine,a38,i38,kcMachine⟩⟩
 have O4:=a0d (P:=l.prog) (base:=base) C F4
 have s0:FnOk l.prog w K mg base CX0 1 f8 d8 ["deeds"] (spAll K []):=a7s
 have s1:=a88 (n:=0) (b:=30) C F8 O4 C4 s0 C8
 have O9:=xu  C F9 O2 C2
 have O10:=a0i (n:=1) (bs:=[30]) (by decide) C F10 O2 C2 s1 C8 O9 C9 O1 C1
 have O11:=a0w (P:=l.prog) (base:=base) C F11
 have O12:=a3y  C F12 O4 C4
 have O13:=a4o  C F13 O12 C12
 have O14:=a3v (P:=l.prog) (base:=base) C F14
 have O15:=a0l  C F15 O12 C12 O13 C13 O14 C14
 have w0:FnOk l.prog w K mg base CX0 1 f6 d6 ["deeds"] (spCopy K []):=a51
 have w1:=a7u (n:=0) C F5 w0 C6
 have w2:=a5r (n:=1) (b:=30) (by decide) C F6 w1 C5
 have O3:=a5y (P:=l.prog) (base:=base) C F3
 have O7:=xp (P:=l.prog) (base:=base) C F7
 have O37:=a7m  U F37 O3 C3
 have O35:=a4i  U F35 O13 C13
 have O36:=a5x  U F36 O15 C15
 have O34:=a55 (n:=4) (bs:=[30]) (by decide) C U F34 O15 C15 (O10.mono (by decide)) C10
 have O41:=a8r (P:=l.prog) (base:=base) C T U F41
 have O42:=a7h (P:=l.prog) (base:=base) C T F42
 have O39:=a7o  C T U F39 O35 C35
 have O47:=a2m  C T U F47 O37 C37
 have O46:=a1d  C T U F46 O35 C35
 have O43:=a4l  C T U F43 O39 C39 O35 C35 O37 C37 C44 C45 O47 C47 O36 C36 O46 C46 O7 C7 O14 C14
 have O38:=a6b (n:=5) (bs:=[30]) C T U F38 (w2.mono (by decide)) C6 O11 C11 O34 B34
 have O16:=a3n (P:=l.prog) (base:=base) C F16
 have O17:=a7k (P:=l.prog) (w:=w) (mg:=mg) (base:=base) F17
 have O18:=a9w  F18 O17 C17
 have O19:=a61 (P:=l.prog) (w:=w) (mg:=mg) (base:=base) F19
 have O20:=a2a (P:=l.prog) (base:=base) C F20
 have O21:=a68  C F21 O18 C18 O19 C19 O20 C20
 have O40:=a62  C T U F40 O39 C39
 have O22:=a4u  C F22 O19 C19
 have O23:=a5e  C F23 O19 C19
 have O24:=a59  C F24 O16 C16 O18 C18 O19 C19 O23 C23
 have O25:=a1z  C F25 O16 C16 O18 C18 O23 C23
 have O26:=a85 (P:=l.prog) (base:=base) C F26
 have O27:=a7l (P:=l.prog) (base:=base) C F27
 have O28:=a4m (P:=l.prog) (base:=base) C F28
 have O29:=a1c  C T U F29 O39 C39 O40 C40 O41 C41 O42 C42 O27 C27 O28 C28
 have O30:=a5b  C F30 O18 C18 O19 C19 O22 C22
 have O31:=a2q (P:=l.prog) (base:=base) C F31
 have O32:=a7c  C F32 O31 C31
 exact aa9 (n:=7) (by decide) C T U F33 O16 C16 O21 C21 O30 C30 O24 C24 O25 C25 O32 C32 O26 C26 O29 C29 O38 B38 O43 C43
theorem walk {l:PySem.W.OpenLaw}{q:Program}{loose:List Str}{XP:(Str->Option Value)->Heap->Prop}{YP:World->Heap->Prop}{d:DefRec}{K:Params->PySem.W.Frag}(hn:l.most=some 63) (hdf:d.params.defaults=[])
   (hY:∀(w:World) (h:Heap),YP w h->(K w.params).In h)
   (F:∀(w:World) (mg:Str->Option Value) (fa:Addr) (h:Heap),(K w.params).In h->h.Ns mainGlobals mg->mg d.name=some (.ref fa)->
     ∃fd:FuncData,(∀(s:Shared) (u:Value),BindsTo s fd ⟨[u],[]⟩ [("_law_script",u)])/\∀base:Heap,(K w.params).In base->base.Ns mainGlobals mg->FnOk l.prog w (K w.params) mg base CX0 9 fa fd ["_law_script"] (uo (K w.params))) :
   PySem.W.WalkO q loose XP YP l.row.toRowW d [] (fun f vs=>PySem.call f vs) :=
 L2.walk_of (n:=63) (k:=9) (x := "_law_script") (CX:=fun _=>CX0) (sp:=fun w=>uo (K w.params)) hn (by decide) hdf ⟨rfl,by decide,by decide⟩ hY F (fun _ _ a ns hl _ hS=>⟨a,ns,rfl,hS,fun _=>rfl⟩) fun _ _ _ _ _ z=>z
end K50
open PySem PySem.W PyProof.Rows
namespace PySem.W.Fast
theorem tw9857632516186029249 : True := ⟨⟩
theorem tw381595719874894327 : True := ⟨⟩
theorem tw13074351864021875772 : True := ⟨⟩
theorem tw15176247113017940731 : True := ⟨⟩
theorem tw765688994332864277 : True := ⟨⟩
theorem tw17271592798840738360 : True := ⟨⟩
theorem tw9470380320746322036 : True := ⟨⟩
theorem tw17791934864075045457 : True := ⟨⟩
theorem tw17196685263896971703 : True := ⟨⟩
theorem tw5365507138719063530 : True := ⟨⟩
theorem tw535600476073688844 : True := ⟨⟩
theorem tw7512191726478006873 : True := ⟨⟩
theorem tw808145884146968659 : True := ⟨⟩
theorem tw17773446514035195876 : True := ⟨⟩
theorem tw471827763565546412 : True := ⟨⟩
theorem tw2315927978169258968 : True := ⟨⟩
theorem tw14401327399932906217 : True := ⟨⟩
theorem tw17485236512996394257 : True := ⟨⟩
theorem tw16490447217213188805 : True := ⟨⟩
theorem tw12504548120591143950 : True := ⟨⟩
theorem tw14802933000011187842 : True := ⟨⟩
theorem tw17940171776870311736 : True := ⟨⟩
theorem tw9001296761227662343 : True := ⟨⟩
theorem tw8690582071357240761 : True := ⟨⟩
theorem tw2478852315718896972 : True := ⟨⟩
theorem tw9617664465069718669 : True := ⟨⟩
theorem tw9871505348065133805 : True := ⟨⟩
theorem tw7694404864388428938 : True := ⟨⟩
theorem tw3081556747794361546 : True := ⟨⟩
theorem tw7670793206371443919 : True := ⟨⟩
theorem tw9275630288066412957 : True := ⟨⟩
theorem tw4061909653288019096 : True := ⟨⟩
theorem tw17263812668090830223 : True := ⟨⟩
theorem tw9390139146033802674 : True := ⟨⟩
theorem tw12622191950982715163 : True := ⟨⟩
theorem tw1124954980159174413 : True := ⟨⟩
theorem tw10489787267802909359 : True := ⟨⟩
theorem tw3749558134995096344 : True := ⟨⟩
theorem tw15595665019870937217 : True := ⟨⟩
theorem tw2653346937703278917 : True := ⟨⟩
theorem tw16151207469005511246 : True := ⟨⟩
theorem tw11246565406370368724 : True := ⟨⟩
theorem tw12146047931849365878 : True := ⟨⟩
theorem tw10970552771051112372 : True := ⟨⟩
theorem tw1227298060462859548 : True := ⟨⟩
theorem tw5271959426938650610 : True := ⟨⟩
theorem tw11559529950607537821 : True := ⟨⟩
theorem tw18109076862561162531 : True := ⟨⟩
theorem tw14478240606601039959 : True := ⟨⟩
theorem tw12334404216481102961 : True := ⟨⟩
theorem tw464187966255940354 : True := ⟨⟩
theorem tw15267394281816048165 : True := ⟨⟩
theorem tw5411612266441986924 : True := ⟨⟩
theorem tw8363495269257454028 : True := ⟨⟩
theorem tw2673913480276306897 : True := ⟨⟩
theorem tw16537157084484003160 : True := ⟨⟩
theorem tw7660278587339641396 : True := ⟨⟩
theorem tw8671467663805329075 : True := ⟨⟩
theorem tw3491497711358571995 : True := ⟨⟩
theorem tw8849689500540242904 : True := ⟨⟩
theorem tw4385979803536019713 : True := ⟨⟩
theorem tw12565324981339766949 : True := ⟨⟩
theorem tw4600830339006780626 : True := ⟨⟩
theorem tw4045516502468989807 : True := ⟨⟩
theorem tw17238924408346522713 : True := ⟨⟩
theorem tw8147156070029294826 : True := ⟨⟩
theorem tw1438476958115273829 : True := ⟨⟩
theorem tw11910098021209614675 : True := ⟨⟩
theorem tw2380567160080394716 : True := ⟨⟩
theorem tw9186659545559104165 : True := ⟨⟩
theorem tw15882000169072295190 : True := ⟨⟩
theorem tw7186430087174275418 : True := ⟨⟩
theorem tw10843062192431653132 : True := ⟨⟩
theorem tw14897107982493721089 : True := ⟨⟩
theorem tw13882888457512817376 : True := ⟨⟩
theorem tw5645760715769190153 : True := ⟨⟩
theorem tw7406322417719449668 : True := ⟨⟩
theorem tw5369307827557469425 : True := ⟨⟩
theorem tw6526771911329748137 : True := ⟨⟩
theorem tw6861948302851203808 : True := ⟨⟩
theorem tw9457605408023919187 : True := ⟨⟩
theorem tw9954114504359369129 : True := ⟨⟩
theorem tw4042155982534035782 : True := ⟨⟩
theorem tw5095579505967203938 : True := ⟨⟩
theorem tw16410758658516668255 : True := ⟨⟩
theorem tw15512819284146061972 : True := ⟨⟩
theorem tw11320834731093371308 : True := ⟨⟩
theorem tw3934459579784764599 : True := ⟨⟩
theorem tw9334541026253525717 : True := ⟨⟩
theorem tw16280164760349126661 : True := ⟨⟩
theorem tw7310955394044506393 : True := ⟨⟩
theorem tw2329511252475817079 : True := ⟨⟩
theorem tw6094158164240738098 : True := ⟨⟩
theorem tw5727170511882391575 : True := ⟨⟩
theorem tw13237862103651926787 : True := ⟨⟩
theorem tw14466751621118909317 : True := ⟨⟩
theorem tw12310351072080537098 : True := ⟨⟩
theorem tw13710400069022147333 : True := ⟨⟩
theorem tw2118397304057400472 : True := ⟨⟩
theorem tw15824748524652652653 : True := ⟨⟩
theorem tw6340684995558079919 : True := ⟨⟩
theorem tw15982189222992355922 : True := ⟨⟩
theorem tw6872183453840586532 : True := ⟨⟩
theorem tw10206728158865225399 : True := ⟨⟩
theorem tw2971884784830626647 : True := ⟨⟩
theorem tw8360719639937496211 : True := ⟨⟩
theorem tw8514007515360003372 : True := ⟨⟩
theorem tw6965106817848330092 : True := ⟨⟩
theorem tw7914584877493972834 : True := ⟨⟩
theorem tw1257483380894030809 : True := ⟨⟩
theorem tw6889421240450158450 : True := ⟨⟩
theorem tw3553641348330491767 : True := ⟨⟩
theorem tw18218011024007917682 : True := ⟨⟩
theorem tw2419803084955214818 : True := ⟨⟩
theorem tw12637283658371808913 : True := ⟨⟩
theorem tw7069605619016450363 : True := ⟨⟩
theorem tw16939135921604568117 : True := ⟨⟩
theorem tw14122391993682290038 : True := ⟨⟩
theorem tw5160221150790566175 : True := ⟨⟩
theorem tw15424652388890522380 : True := ⟨⟩
theorem tw8890079123194471289 : True := ⟨⟩
theorem tw11239385730970424897 : True := ⟨⟩
theorem tw15523966991275219524 : True := ⟨⟩
theorem tw8431343626036606293 : True := ⟨⟩
theorem tw17677193581622884638 : True := ⟨⟩
theorem tw11107951223912435971 : True := ⟨⟩
theorem tw8112303590963699073 : True := ⟨⟩
theorem tw18097076662036799111 : True := ⟨⟩
theorem tw10294047598005468063 : True := ⟨⟩
theorem tw9910333897893102819 : True := ⟨⟩
end PySem.W.Fast
set_option maxRecDepth 100000 in
set_option maxHeartbeats 0 in
theorem PySem.Challenge.cw_apart_k50_plain_deeds_holds : PySem.Challenge.rw_apart_k50_plain_deeds.Holds := by
 w_on; o_law; k_head; (case hw => w_witness2)
 k_fill
 refine K50.walk (l := PySem.Challenge.rw_apart_k50_plain_deeds) rfl rfl (fun w h Y => PySem.W.kIn_of Y) ?F
 case F =>
   intro w mg fa h KX G hmg
   refine' K50.all_mk KX G hmg ?aCFrame ?aCMachine ?a1 ?F1 ?a2 ?F2 ?a3 ?F3 ?a4 ?F4 ?a5 ?F5 ?a6 ?F6 ?a7 ?F7 ?a8 ?F8 ?a9 ?F9 ?a10 ?F10 ?a11 ?F11 ?a12 ?F12 ?a13 ?F13 ?a14 ?F14 ?a15 ?F15 ?a16 ?F16 ?a17 ?F17 ?a18 ?F18 ?a19 ?F19 ?a20 ?F20 ?a21 ?F21 ?a22 ?F22 ?a23 ?F23 ?a24 ?F24 ?a25 ?F25 ?a26 ?F26 ?a27 ?F27 ?a28 ?F28 ?a29 ?F29 ?a30 ?F30 ?a31 ?F31 ?a32 ?F32 ?a33 ?F33 ?a34 ?i34 ?F34 ?a35 ?i35 ?F35 ?a36 ?i36 ?F36 ?a37 ?i37 ?F37 ?a38 ?i38 ?F38 ?a39 ?i39 ?F39 ?a40 ?i40 ?F40 ?a41 ?i41 ?F41 ?a42 ?i42 ?F42 ?a43 ?i43 ?F43 ?a44 ?i44 ?F44 ?a45 ?i45 ?F45 ?a46 ?i46 ?F46 ?a47 ?i47 ?F47 ?pgFrame ?hdFrame ?poFrame ?saFrame ?mkFrame ?kcFrame ?nFrame0 ?nFrame1 ?nFrame2 ?nFrame3 ?pgMachine ?hdMachine ?poMachine ?saMachine ?mkMachine ?kcMachine ?nMachine0 ?nMachine1 ?nMachine2 ?nMachine3 ?nMachine4 ?z1 ?z2 ?z3 ?z4 ?z5 ?z6 ?z7 ?z8 ?z9 ?z10 ?z11 ?z12 ?z13 ?z14 ?z15 ?z16 ?z17 ?z18 ?gL ?eL ?gF ?eF ?gS ?eS ?gN ?lN ?cN ?dN ?sN ?vN ?gT ?lT ?cT ?dT ?sT ?bT ?vT ?gP ?lP ?hP ?mP ?rP ?lT1 ?cT1 ?dT1 ?sT1 ?vT1 ?lT2 ?cT2 ?dT2 ?sT2 ?vT2 ?lT3 ?cT3 ?dT3 ?sT3 ?vT3 ?lT4 ?cT4 ?dT4 ?sT4 ?vT4 ?lT5 ?cT5 ?dT5 ?sT5 ?vT5 ?gE ?lE ?hE ?mE ?rE
   (case aCFrame => k_is)
   (case aCMachine => k_is)
   (case a1 => k_is)
   (case F1 => (refine' L2.fun_mk ?l ?c ?k; (case l => k_is); (case c => k_is); (case k => k_is)))
   (case a2 => k_is)
   (case F2 => (refine' L2.fun_mk ?l ?c ?k; (case l => k_is); (case c => k_is); (case k => k_is)))
   (case a3 => k_is)
   (case F3 => (refine' L2.fun_mk ?l ?c ?k; (case l => k_is); (case c => k_is); (case k => k_is)))
   (case a4 => k_is)
   (case F4 => (refine' L2.fun_mk ?l ?c ?k; (case l => k_is); (case c => k_is); (case k => k_is)))
   (case a5 => k_is)
   (case F5 => (refine' L2.fun_mk ?l ?c ?k; (case l => k_is); (case c => k_is); (case k => k_is)))
   (case a6 => k_is)
   (case F6 => (refine' L2.fun_mk ?l ?c ?k; (case l => k_is); (case c => k_is); (case k => k_is)))
   (case a7 => k_is)
   (case F7 => (refine' L2.fun_mk ?l ?c ?k; (case l => k_is); (case c => k_is); (case k => k_is)))
   (case a8 => k_is)
   (case F8 => (refine' L2.fun_mk ?l ?c ?k; (case l => k_is); (case c => k_is); (case k => k_is)))
   (case a9 => k_is)
   (case F9 => (refine' L2.fun_mk ?l ?c ?k; (case l => k_is); (case c => k_is); (case k => k_is)))
   (case a10 => k_is)
   (case F10 => (refine' L2.fun_mk ?l ?c ?k; (case l => k_is); (case c => k_is); (case k => k_is)))
   (case a11 => k_is)
   (case F11 => (refine' L2.fun_mk ?l ?c ?k; (case l => k_is); (case c => k_is); (case k => k_is)))
   (case a12 => k_is)
   (case F12 => (refine' L2.fun_mk ?l ?c ?k; (case l => k_is); (case c => k_is); (case k => k_is)))
   (case a13 => k_is)
   (case F13 => (refine' L2.fun_mk ?l ?c ?k; (case l => k_is); (case c => k_is); (case k => k_is)))
   (case a14 => k_is)
   (case F14 => (refine' L2.fun_mk ?l ?c ?k; (case l => k_is); (case c => k_is); (case k => k_is)))
   (case a15 => k_is)
   (case F15 => (refine' L2.fun_mk ?l ?c ?k; (case l => k_is); (case c => k_is); (case k => k_is)))
   (case a16 => k_is)
   (case F16 => (refine' L2.fun_mk ?l ?c ?k; (case l => k_is); (case c => k_is); (case k => k_is)))
   (case a17 => k_is)
   (case F17 => (refine' L2.fun_mk ?l ?c ?k; (case l => k_is); (case c => k_is); (case k => k_is)))
   (case a18 => k_is)
   (case F18 => (refine' L2.fun_mk ?l ?c ?k; (case l => k_is); (case c => k_is); (case k => k_is)))
   (case a19 => k_is)
   (case F19 => (refine' L2.fun_mk ?l ?c ?k; (case l => k_is); (case c => k_is); (case k => k_is)))
   (case a20 => k_is)
   (case F20 => (refine' L2.fun_mk ?l ?c ?k; (case l => k_is); (case c => k_is); (case k => k_is)))
   (case a21 => k_is)
   (case F21 => (refine' L2.fun_mk ?l ?c ?k; (case l => k_is); (case c => k_is); (case k => k_is)))
   (case a22 => k_is)
   (case F22 => (refine' L2.fun_mk ?l ?c ?k; (case l => k_is); (case c => k_is); (case k => k_is)))
   (case a23 => k_is)
   (case F23 => (refine' L2.fun_mk ?l ?c ?k; (case l => k_is); (case c => k_is); (case k => k_is)))
   (case a24 => k_is)
   (case F24 => (refine' L2.fun_mk ?l ?c ?k; (case l => k_is); (case c => k_is); (case k => k_is)))
   (case a25 => k_is)
   (case F25 => (refine' L2.fun_mk ?l ?c ?k; (case l => k_is); (case c => k_is); (case k => k_is)))
   (case a26 => k_is)
   (case F26 => (refine' L2.fun_mk ?l ?c ?k; (case l => k_is); (case c => k_is); (case k => k_is)))
   (case a27 => k_is)
   (case F27 => (refine' L2.fun_mk ?l ?c ?k; (case l => k_is); (case c => k_is); (case k => k_is)))
   (case a28 => k_is)
   (case F28 => (refine' L2.fun_mk ?l ?c ?k; (case l => k_is); (case c => k_is); (case k => k_is)))
   (case a29 => k_is)
   (case F29 => (refine' L2.fun_mk ?l ?c ?k; (case l => k_is); (case c => k_is); (case k => k_is)))
   (case a30 => k_is)
   (case F30 => (refine' L2.fun_mk ?l ?c ?k; (case l => k_is); (case c => k_is); (case k => k_is)))
   (case a31 => k_is)
   (case F31 => (refine' L2.fun_mk ?l ?c ?k; (case l => k_is); (case c => k_is); (case k => k_is)))
   (case a32 => k_is)
   (case F32 => (refine' L2.fun_mk ?l ?c ?k; (case l => k_is); (case c => k_is); (case k => k_is)))
   (case a33 => k_is)
   (case F33 => (refine' L2.fun_mk ?l ?c ?k; (case l => k_is); (case c => k_is); (case k => k_is)))
   (case a34 => k_is)
   (case i34 => k_is)
   (case F34 => (refine' L2.fun_mk ?l ?c ?k; (case l => k_is); (case c => k_is); (case k => k_is)))
   (case a35 => k_is)
   (case i35 => k_is)
   (case F35 => (refine' L2.fun_mk ?l ?c ?k; (case l => k_is); (case c => k_is); (case k => k_is)))
   (case a36 => k_is)
   (case i36 => k_is)
   (case F36 => (refine' L2.fun_mk ?l ?c ?k; (case l => k_is); (case c => k_is); (case k => k_is)))
   (case a37 => k_is)
   (case i37 => k_is)
   (case F37 => (refine' L2.fun_mk ?l ?c ?k; (case l => k_is); (case c => k_is); (case k => k_is)))
   (case a38 => k_is)
   (case i38 => k_is)
   (case F38 => (refine' L2.fun_mk ?l ?c ?k; (case l => k_is); (case c => k_is); (case k => k_is)))
   (case a39 => k_is)
   (case i39 => k_is)
   (case F39 => (refine' L2.fun_mk ?l ?c ?k; (case l => k_is); (case c => k_is); (case k => k_is)))
   (case a40 => k_is)
   (case i40 => k_is)
   (case F40 => (refine' L2.fun_mk ?l ?c ?k; (case l => k_is); (case c => k_is); (case k => k_is)))
   (case a41 => k_is)
   (case i41 => k_is)
   (case F41 => (refine' L2.fun_mk ?l ?c ?k; (case l => k_is); (case c => k_is); (case k => k_is)))
   (case a42 => k_is)
   (case i42 => k_is)
   (case F42 => (refine' L2.fun_mk ?l ?c ?k; (case l => k_is); (case c => k_is); (case k => k_is)))
   (case a43 => k_is)
   (case i43 => k_is)
   (case F43 => (refine' L2.fun_mk ?l ?c ?k; (case l => k_is); (case c => k_is); (case k => k_is)))
   (case a44 => k_is)
   (case i44 => k_is)
   (case F44 => (refine' L2.fun_mk ?l ?c ?k; (case l => k_is); (case c => k_is); (case k => k_is)))
   (case a45 => k_is)
   (case i45 => k_is)
   (case F45 => (refine' L2.fun_mk ?l ?c ?k; (case l => k_is); (case c => k_is); (case k => k_is)))
   (case a46 => k_is)
   (case i46 => k_is)
   (case F46 => (refine' L2.fun_mk ?l ?c ?k; (case l => k_is); (case c => k_is); (case k => k_is)))
   (case a47 => k_is)
   (case i47 => k_is)
   (case F47 => (refine' L2.fun_mk ?l ?c ?k; (case l => k_is); (case c => k_is); (case k => k_is)))
   (case pgFrame => k_is)
   (case hdFrame => k_is)
   (case poFrame => k_is)
   (case saFrame => k_is)
   (case mkFrame => k_is)
   (case kcFrame => k_is)
   (case nFrame0 => k_is)
   (case nFrame1 => k_is)
   (case nFrame2 => k_is)
   (case nFrame3 => k_is)
   (case pgMachine => k_is)
   (case hdMachine => k_is)
   (case poMachine => k_is)
   (case saMachine => k_is)
   (case mkMachine => k_is)
   (case kcMachine => k_is)
   (case nMachine0 => k_is)
   (case nMachine1 => k_is)
   (case nMachine2 => k_is)
   (case nMachine3 => k_is)
   (case nMachine4 => k_is)
   (case z1 => k_is)
   (case z2 => k_is)
   (case z3 => k_is)
   (case z4 => k_is)
   (case z5 => k_is)
   (case z6 => k_is)
   (case z7 => k_is)
   (case z8 => k_is)
   (case z9 => k_is)
   (case z10 => k_is)
   (case z11 => k_is)
   (case z12 => k_is)
   (case z13 => k_is)
   (case z14 => k_is)
   (case z15 => k_is)
   (case z16 => k_is)
   (case z17 => k_is)
   (case z18 => k_is)
   (case gL => k_is)
   (case eL => decide +kernel)
   (case gF => k_is)
   (case eF => decide +kernel)
   (case gS => k_is)
   (case eS => rfl)
   (case gN => k_is)
   (case lN => k_is)
   (case cN => rfl)
   (case dN => rfl)
   (case sN => decide)
   (case vN => repeat (first | exact .nil | refine .cons ⟨_, rfl⟩ ?_))
   (case gT => k_is)
   (case lT => k_is)
   (case cT => rfl)
   (case dT => rfl)
   (case sT => decide)
   (case bT => rfl)
   (case vT => repeat (first | exact .nil | refine .cons ⟨_, rfl⟩ ?_))
   (case gP => k_is)
   (case lP => k_is)
   (case hP => exact ⟨⟨_, _, rfl, rfl⟩, ⟨_, _, rfl, rfl⟩, ⟨_, _, rfl, rfl⟩, ⟨_, _, rfl, rfl⟩, ⟨_, _, rfl, rfl⟩, trivial⟩)
   (case mP => rfl)
   (case rP => exact K50.rel_find (.cons ⟨_, _, _, rfl, rfl⟩ (.cons ⟨_, _, _, rfl, rfl⟩ (.cons ⟨_, _, _, rfl, rfl⟩ (.cons ⟨_, _, _, rfl, rfl⟩ (.cons ⟨_, _, _, rfl, rfl⟩ (.nil)))))))
   (case lT1 => k_is)
   (case cT1 => rfl)
   (case dT1 => rfl)
   (case sT1 => decide)
   (case vT1 => repeat (first | exact .nil | refine .cons ⟨_, rfl⟩ ?_))
   (case lT2 => k_is)
   (case cT2 => rfl)
   (case dT2 => rfl)
   (case sT2 => decide)
   (case vT2 => repeat (first | exact .nil | refine .cons ⟨_, rfl⟩ ?_))
   (case lT3 => k_is)
   (case cT3 => rfl)
   (case dT3 => rfl)
   (case sT3 => decide)
   (case vT3 => repeat (first | exact .nil | refine .cons ⟨_, rfl⟩ ?_))
   (case lT4 => k_is)
   (case cT4 => rfl)
   (case dT4 => rfl)
   (case sT4 => decide)
   (case vT4 => repeat (first | exact .nil | refine .cons ⟨_, rfl⟩ ?_))
   (case lT5 => k_is)
   (case cT5 => rfl)
   (case dT5 => rfl)
   (case sT5 => decide)
   (case vT5 => repeat (first | exact .nil | refine .cons ⟨_, rfl⟩ ?_))
   (case gE => k_is)
   (case lE => k_is)
   (case hE => exact ⟨⟨_, _, rfl, rfl⟩, ⟨_, _, rfl, rfl⟩, ⟨_, _, rfl, rfl⟩, trivial⟩)
   (case mE => rfl)
   (case rE => exact K50.rel_find (.cons ⟨_, _, _, rfl, ⟨_, rfl⟩⟩ (.cons ⟨_, _, _, rfl, ⟨_, rfl⟩⟩ (.cons ⟨_, _, _, rfl, ⟨_, rfl⟩⟩ (.nil)))))
