import PyProof.Rows.All
import Wide.All
import OpenK.AllK
import Wide.FinOn
import PyProof.EqAt
import PyProof.EqKinds
import PyProof.TupleCall
import PyProof.NeData
import PyProof.P3In
import PySem.Challenge.RW_slate_k61_leans_told
set_option Elab.async false
set_option linter.all false
set_option maxRecDepth 100000
namespace L2
open PySem PySem.Spec PyProof.Rows
abbrev Key:=Sum Int Str
noncomputable def keyIs:Key->Value->Bool
 | .inl k,v=>Value.isInt k v
 | .inr x,v=>Value.isStrOf x v
noncomputable def keyH (w:World):Key->Int
 | .inl k=>hashInt k
 | .inr x=>hashStr w x
theorem zb9:∀ {k:Key} {v:Value},keyIs k v=true->(∃ i t,k=Sum.inl i/\v=Value.int i t)\/(∃ x t,k=Sum.inr x/\v=Value.str x t)
 | .inl i,v,h=>by
  obtain⟨t,e⟩:=Value.isInt_shape (k:=i) (v:=v) h
  exact .inl ⟨i,t,rfl,e⟩
 | .inr x,v,h=>by
  obtain⟨t,e⟩:=Value.isStrOf_shape (x:=x) (v:=v) h
  exact .inr ⟨x,t,rfl,e⟩
theorem keyIs_int (i:Int) (t:Tok):keyIs (.inl i) (.int i t)=true:=by simp [keyIs,Value.isInt]
theorem keyIs_str (x:Str) (t:Tok):keyIs (.inr x) (.str x t)=true:=by simp [keyIs,Value.isStrOf]
theorem key_ll (a b:Int):decide ((Sum.inl a:Key)=Sum.inl b)=(a == b):=by
 by_cases e:a=b
 ·subst e;simp
 ·have h:¬ (Sum.inl a:Key)=Sum.inl b:=fun q=>e (Sum.inl.inj q)
  rw[decide_eq_false h]
  exact (beq_eq_false_iff_ne.mpr e).symm
theorem key_rr (a b:Str):decide ((Sum.inr a:Key)=Sum.inr b)=decide (a=b):=by
 by_cases e:a=b
 ·subst e;simp
 ·have h:¬ (Sum.inr a:Key)=Sum.inr b:=fun q=>e (Sum.inr.inj q)
  rw[decide_eq_false h,decide_eq_false e]
theorem key_lr (a:Int) (b:Str):decide ((Sum.inl a:Key)=Sum.inr b)=false:=decide_eq_false (fun q=>nomatch q)
theorem key_rl (a:Str) (b:Int):decide ((Sum.inr a:Key)=Sum.inl b)=false:=decide_eq_false (fun q=>nomatch q)
noncomputable def mixKind (prog:Program) (w:World):PySem.KeyKind prog w Key where
 is:=keyIs
 hash:=keyH w
 inj:=fun v a b ha hb=>by
  rcases zb9 ha with ⟨i,t,rfl,rfl⟩ | ⟨x,t,rfl,rfl⟩
  ·rcases zb9 hb with ⟨j,u,rfl,e⟩ | ⟨y,u,rfl,e⟩
   ·injection e with e1 _;rw[e1]
   ·exact nomatch e
  ·rcases zb9 hb with ⟨j,u,rfl,e⟩ | ⟨y,u,rfl,e⟩
   ·exact nomatch e
   ·injection e with e1 _;rw[e1]
 byValue:=fun k v h=>by
  rcases zb9 h with ⟨i,t,rfl,rfl⟩ | ⟨x,t,rfl,rfl⟩<;>rfl
 pyHash:=fun hv h=>by
  rcases zb9 hv with ⟨i,t,rfl,rfl⟩ | ⟨x,t,rfl,rfl⟩
  ·exact wpAny_pyHash_int h
  ·exact wpAny_pyHash_str h
 eqBool:=fun hu hv h=>by
  rcases zb9 hu with ⟨i,t,rfl,rfl⟩ | ⟨x,t,rfl,rfl⟩
  ·rcases zb9 hv with ⟨j,u,rfl,rfl⟩ | ⟨y,u,rfl,rfl⟩
   ·rw[key_ll] at h;exact wpAny_eqBool_int h
   ·rw[key_lr] at h;exact SeqAt.EqAt.int_str i t y u _ _ _ _ h
  ·rcases zb9 hv with ⟨j,u,rfl,rfl⟩ | ⟨y,u,rfl,rfl⟩
   ·rw[key_rl] at h;exact SeqAt.EqAt.str_int x t j u _ _ _ _ h
   ·rw[key_rr] at h;exact wpAny_eqBool_str h
 «strs»:=fun k x t v h=>by
  rcases zb9 h with ⟨i,u,rfl,e⟩ | ⟨y,u,rfl,e⟩
  ·exact nomatch e
  ·injection e with e1 _
   subst e1
   cases v<;>rfl
theorem mixKind_int (prog:Program) (w:World) (i:Int) (t:Tok):(mixKind prog w).is (.inl i) (.int i t)=true:=keyIs_int i t
theorem mixKind_str (prog:Program) (w:World) (x:Str) (t:Tok):(mixKind prog w).is (.inr x) (.str x t)=true:=keyIs_str x t
end L2
namespace L2
open PySem PySem.Spec PyProof.Rows
inductive V where
 | non | bl (b:Bool) | int (i:Int) | str (x:Str) | byt (b:Array UInt8) | flt (b:UInt64) | ref (a:Addr) | ty (n:String)
 deriving DecidableEq
noncomputable def RelV:V->Value->Prop
 | .non,u=>u=Value.none
 | .bl b,u=>u=Value.bool b
 | .int i,u=>∃ t,u=Value.int i t
 | .str x,u=>∃ t,u=Value.str x t
 | .byt b,u=>∃ t,u=Value.bytes b t
 | .flt b,u=>∃ t,u=Value.float b t
 | .ref a,u=>u=Value.ref a
 | .ty n,u=>u=Value.type n
abbrev Vals:List V->List Value->Prop:=Paired RelV
theorem Vals.length {xs:List V} {us:List Value} (r:Vals xs us):xs.length=us.length:=Paired.length r
theorem Vals.get:∀ {xs:List V} {us:List Value} {i:Nat} {x:V},Vals xs us->xs[i]? = some x->∃ u,us[i]? = some u/\RelV x u
 | _,_,_,_,.nil,e=>by simp at e
 | _,_,0,_,.cons r _,e=>by simp at e;subst e;exact⟨_,rfl,r⟩
 | _,_,i+1,x,.cons _ t,e=>by
  obtain⟨u,h1,h2⟩:=Vals.get (i:=i) (x:=x) t (by simpa using e)
  exact⟨u,by simpa using h1,h2⟩
theorem Vals.append:∀ {xs ys:List V} {us ws:List Value},Vals xs us->Vals ys ws->Vals (xs++ys) (us++ws)
 | _,_,_,_,.nil,s=>s
 | _,_,_,_,.cons r t,s=>.cons r (Vals.append t s)
theorem Vals.take:∀ {xs:List V} {us:List Value} (n:Nat),Vals xs us->Vals (xs.take n) (us.take n)
 | _,_,0,_=>.nil
 | _,_,_+1,.nil=>.nil
 | _,_,n+1,.cons r t=>.cons r (Vals.take n t)
theorem Vals.drop:∀ {xs:List V} {us:List Value} (n:Nat),Vals xs us->Vals (xs.drop n) (us.drop n)
 | _,_,0,r=>r
 | _,_,_+1,.nil=>.nil
 | _,_,n+1,.cons _ t=>Vals.drop n t
noncomputable def RelO:Option V->Option Value->Prop
 | some v,some u=>RelV v u
 | none,none=>True
 | _,_=>False
noncomputable def KV {κ:Type} : List (κ×V)->List (κ×Value)->Prop:=Paired fun (p:κ×V) (q:κ×Value)=>p.1=q.1/\RelV p.2 q.2
noncomputable def kV:Key->V
 | .inl i=>.int i
 | .inr x=>.str x
inductive HO where
 /-- a list -/
 | lst (xs:List V)
 /-- a tuple (never changes) -/
 | tup (xs:List V)
 /-- a dict whose keys are ints and texts;one whose keys are tuples of ints and texts (the empty one is both) -/
 | dK (kvs:List (Key×V)) | dT (kvs:List (List Key×V))
 /-- a set of ints: its members,its size -/
 | set (S:Int->Bool) (n:Nat)
 /-- an instance of the class at C,its dict at dx,its attributes -/
 | ins (C dx:Addr) (fs:List (Str×V))
 /-- the dict of the instance at x -/
 | own (x:Addr)
 /-- the dict of an exception -/
 | xd (fs:List (Str×V))
 /-- a bound method,f of x -/
 | met (f x:Addr)
 /-- a range object lo,lo+1,.. below hi -/
 | rng (lo hi:Int)
 /-- a thing that is known to the object (the script;a dict while a loop walks it): read,never written while it is so -/
 | frz (o:Obj) (u:HO)
 /-- a code object's table -/
 | tbl (ps:Array Value)
 /-- any other thing,by what is true of its one object (a def of one's own: SetO a S n:=HO.ext fun h=>..) -/
 | ext (φ : Heap->Prop)
abbrev Hp:=Addr->Option HO
noncomputable def upd (H:Hp) (a:Addr) (o:HO):Hp:=fun b=>if b=a then some o else H b
theorem za4 {H:Hp} {a:Addr} {o:HO} : upd H a o a=some o:=by unfold upd;rw[if_pos rfl]
theorem za2 {H:Hp} {a b:Addr} {o:HO} (h:b ≠ a):upd H a o b=H b:=by unfold upd;rw[if_neg h]
theorem ne_of {H:Hp} {a b:Addr} {o u:HO} (h:H a=some o) (h':H b=some u) (d:o ≠ u):a ≠ b:=by
 intro e;subst e;rw[h] at h';exact d (Option.some.inj h')
theorem za5 {H:Hp} {a b:Addr} {o:HO} (h:H a=some o) (h':H b=none):a ≠ b:=by
 intro e;subst e;rw[h] at h';cases h'
section
variable (P:Program) (w:World)
noncomputable def ObjOk (H:Hp) (h:Heap) (a:Addr):HO->Prop
 | .lst xs=>xs.length<=sizeLine/\∃ (its:List Value) (n:Nat),Vals xs its/\h.get? a=some { cls:=.type "list",data:=.seq its.toArray n }
 | .tup xs=>xs.length<=sizeLine/\∃ its:List Value,Vals xs its/\IsTup h a its.toArray
 | .dK kvs=>kvs.length<=sizeLine/\(a == sysModules)=false/\∃ vs,KV kvs vs/\h.DictOf (mixKind P w) a vs
 | .dT kvs=>kvs.length<=sizeLine/\(a == sysModules)=false/\∃ xs:List (List Key×Addr×Value),
   Paired (fun (p:List Key×V) (q:List Key×Addr×Value)=>p.1=q.1/\H q.2.1=some (.tup (p.1.map kV))/\RelV p.2 q.2.2) kvs xs ∧
   ∃ o es ep,h.get? a=some o/\o.ExactDict/\o.data=.dict es ep/\es.toList=xs.map (entryOfKey (tupleKind (mixKind P w)))/\(xs.map (·.1)).Nodup
 | .set S n=>h.SetOf (intKind P w) a S n
 | .ins C dx fs=>H dx=some (.own a)/\fs.length<=1000/\dx ≠ a/\h.get? a=some (PySem.W.instObj C dx) ∧
   ∃ mA,h.Ns1 dx mA/\(∀ f,RelO (fs.lookup f) (mA f))/\PySem.Within mA (fs.map (·.1))
 | .own _=>∃ o,h.get? a=some o
 | .xd fs=>∃ mA,h.Ns1 a mA/\∀ f,RelO (fs.lookup f) (mA f)
 | .rng lo hi=>∃ t u v,h.get? a=some { cls:=.type "range",data:=.fields #[.int lo t,.int hi u,.int 1 v] }
 | .frz o u=>h.get? a=some o/\ObjOk H h a u
 | .tbl ps=>h.get? a=some { cls:=.none,data:=.fields ps }
 | .met f x=>h.get? a=some (PySem.W.methodObj (.ref f) (.ref x))
 | .ext φ => φ h/\(∃ o,h.get? a=some o)/\∀ h1 h2:Heap,φ h1->(∀ o,h1.get? a=some o->h2.get? a=some o) -> φ h2
noncomputable def HOk (H:Hp) (h:Heap):Prop:=∀ a o,H a=some o->ObjOk P w H h a o
end
section
variable {P:Program} {w:World} {H H':Hp} {h h':Heap} {a:Addr} {o:HO}
theorem ObjOk.lt (x:ObjOk P w H h a o):a<h.objs.size:=by
 cases o with
 | lst xs=>obtain⟨_,_,_,_,e⟩:=x;exact Heap.lt_size e
 | tup xs=>obtain⟨_,_,_,p⟩:=x;exact p.lt
 | dK kvs=>obtain⟨_,_,_,_,o,_,_,e,_⟩:=x;exact Heap.lt_size e
 | dT kvs=>obtain⟨_,_,_,_,o,_,_,e,_⟩:=x;exact Heap.lt_size e
 | set S n=>obtain⟨o,_,_,_,e,_⟩:=x;exact Heap.lt_size e
 | ins C dx fs=>obtain⟨_,_,_,e,_⟩:=x;exact Heap.lt_size e
 | own y=>obtain⟨_,e⟩:=x;exact Heap.lt_size e
 | xd fs=>obtain⟨_,⟨_,_,_,e,_⟩,_⟩:=x;exact Heap.lt_size e
 | rng lo hi=>obtain⟨_,_,_,e⟩:=x;exact Heap.lt_size e
 | frz ob u=>obtain⟨e,_⟩:=x;exact Heap.lt_size e
 | tbl ps=>exact Heap.lt_size (show h.get? a=some _ from x)
 | met f y=>exact Heap.lt_size (show h.get? a=some _ from x)
 | ext φ => obtain⟨_,⟨_,e⟩,_⟩:=x;exact Heap.lt_size e
theorem Paired.mapP {α β:Type} {F G:α->β->Prop} : ∀ {l₁:List α} {l₂:List β},Paired F l₁ l₂->(∀ a b,F a b->G a b)->Paired G l₁ l₂
 | _,_,.nil,_=>.nil
 | _,_,.cons r t,f=>.cons (f _ _ r) (Paired.mapP t f)
theorem ObjOk.stay (x:ObjOk P w H h a o) (k:∀ b u,(b=a\/H b=some (.own a))->h.get? b=some u->h'.get? b=some u)
  (ho:∀ b,H b=some (.own a)->H' b=some (.own a)) (ht:∀ b xs,H b=some (.tup xs)->H' b=some (.tup xs)):ObjOk P w H' h' a o:=by
 induction o with
 | lst xs=>obtain⟨z,its,n,r,e⟩:=x;exact⟨z,its,n,r,k _ _ (.inl rfl) e⟩
 | tup xs=>obtain⟨z,its,r,ob,e,c⟩:=x;exact⟨z,its,r,ob,k _ _ (.inl rfl) e,c⟩
 | dK kvs=>obtain⟨z,y,vs,r,ob,es,ep,e,c⟩:=x;exact⟨z,y,vs,r,ob,es,ep,k _ _ (.inl rfl) e,c⟩
 | dT kvs=>
  obtain⟨z,y,xs,r,ob,es,ep,e,c⟩:=x
  exact⟨z,y,xs,Paired.mapP r fun p q z=>⟨z.1,ht _ _ z.2.1,z.2.2⟩,ob,es,ep,k _ _ (.inl rfl) e,c⟩
 | set S n=>obtain⟨ob,es,ep,t,e,c⟩:=x;exact⟨ob,es,ep,t,k _ _ (.inl rfl) e,c⟩
 | ins C dx fs=>
  obtain⟨d,z,ne,e,mA,⟨od,es,ep,e2,c⟩,r⟩:=x
  exact⟨ho _ d,z,ne,k _ _ (.inl rfl) e,mA,⟨od,es,ep,k _ _ (.inr d) e2,c⟩,r⟩
 | own y=>obtain⟨ob,e⟩:=x;exact⟨ob,k _ _ (.inl rfl) e⟩
 | xd fs=>obtain⟨mA,⟨od,es,ep,e,c⟩,r⟩:=x;exact⟨mA,⟨od,es,ep,k _ _ (.inl rfl) e,c⟩,r⟩
 | rng lo hi=>obtain⟨t,u,v,e⟩:=x;exact⟨t,u,v,k _ _ (.inl rfl) e⟩
 | frz ob u ih=>obtain⟨e,q⟩:=x;exact⟨k _ _ (.inl rfl) e,ih q⟩
 | tbl ps=>
  have e:h.get? a=some { cls:=.none,data:=.fields ps }:=x
  show h'.get? a=some { cls:=.none,data:=.fields ps }
  exact k a _ (.inl rfl) e
 | met f y=>
  have e:h.get? a=some (PySem.W.methodObj (.ref f) (.ref y)):=x
  show h'.get? a=some (PySem.W.methodObj (.ref f) (.ref y))
  exact k a _ (.inl rfl) e
 | ext φ => obtain⟨p,⟨o,e⟩,st⟩:=x;exact⟨st _ _ p fun o q=>k _ _ (.inl rfl) q,⟨o,k _ _ (.inl rfl) e⟩,st⟩
theorem HOk.lt (x:HOk P w H h) (e:H a=some o):a<h.objs.size:=(x a o e).lt
theorem HOk.fresh (x:HOk P w H h) (e:h.objs.size<=a):H a=none:=by
 cases q:H a with
 | none=>rfl
 | some u=>exact absurd (Nat.lt_of_lt_of_le (x.lt q) e) (Nat.lt_irrefl _)
theorem HOk.kept (x:HOk P w H h) (k:∀ b u,h.get? b=some u->h'.get? b=some u):HOk P w H h':=fun a o e=>
 (x a o e).stay (fun b u _ q=>k b u q) (fun _ q=>q) fun _ _ q=>q
theorem HOk.laid (x:HOk P w H h) (k:∀ b u,h.get? b=some u->h'.get? b=some u) (hp:h.objs.size<=a) (new:ObjOk P w (upd H a o) h' a o):HOk P w (upd H a o) h':=fun b u e=>by
 have hn:=x.fresh hp
 by_cases hb:b=a
 ·subst hb;rw[za4] at e;cases e;exact new
 ·rw[za2 hb] at e
  exact (x b u e).stay (fun c v _ q=>k c v q) (fun c q=>by rw[za2 (za5 q hn)];exact q) fun c xs q=>by rw[za2 (za5 q hn)];exact q
end
noncomputable def Rd (H:Hp) (a:Addr) (u:HO):Prop:=H a=some u\/∃ o,H a=some (.frz o u)
theorem Rd.ok {P:Program} {w:World} {H:Hp} {h:Heap} {a:Addr} {u:HO} (r:Rd H a u) (x:HOk P w H h):ObjOk P w H h a u:=by
 rcases r with r | ⟨o,r⟩
 ·exact x a u r
 ·obtain⟨_,q⟩:=x a _ r
  exact q
noncomputable def Mut:Option HO->Prop
 | some (.lst _)=>True
 | some (.dK _)=>True
 | some (.dT _)=>True
 | some (.set _ _)=>True
 | some (.ins _ _ _)=>True
 | some (.ext _)=>True
 | _=>False
section
variable {P:Program} {w:World} {H:Hp} {h h':Heap} {x e:Addr} {o':HO}
theorem HOk.write (ok:HOk P w H h) (mu:Mut (H x)) (he:e=x\/H e=some (.own x)) (k:∀ b u,b ≠ e->h.get? b=some u->h'.get? b=some u) (heo:∃ u,h'.get? e=some u)
  (new:ObjOk P w (upd H x o') h' x o'):HOk P w (upd H x o') h':=fun b u q=>by
 have nown:∀ c y,H c=some (.own y)->c ≠ x:=fun c y r z=>by subst z;rw[r] at mu;exact mu
 have ntup:∀ c xs,H c=some (.tup xs)->c ≠ x:=fun c xs r z=>by subst z;rw[r] at mu;exact mu
 by_cases hb:b=x
 ·subst hb;rw[za4] at q;cases q;exact new
 ·rw[za2 hb] at q
  by_cases hbe:b=e
  ·have q':H b=some (.own x):=by
    rcases he with z | z
    ·exact absurd (hbe.trans z) hb
    ·rw[hbe];exact z
   rw[q] at q';cases q'
   obtain⟨v,hv⟩:=heo
   exact⟨v,by rw[hbe];exact hv⟩
  ·refine (ok b u q).stay (fun c v hc r=>k c v ?_ r) (fun c r=>by rw[za2 (nown c b r)];exact r) fun c xs r=>by rw[za2 (ntup c xs r)];exact r
   rcases hc with rfl | hc
   ·exact hbe
   ·rintro rfl
    rcases he with z | z
    ·exact nown c b hc z
    ·rw[hc] at z;cases z;exact hb rfl
end
structure Un (fs ex:List Addr) (H H':Hp) (h h':Heap):Prop where
 keep:∀ b o,h.get? b=some o->H b=none->b ∉ fs->b ∉ ex->h'.get? b=some o
 slot:∀ b o,h.get? b=some o->H b=none->b ∈fs->b ∉ ex->∃ sl,h'.get? b=some { o with slots:=sl }
 free:∀ b o,h.get? b=some o->H b=none->b ∉ ex->H' b=none
 there:∀ b o,h.get? b=some o->b ∉ ex->∃ o',h'.get? b=some o'
 tups:∀ b xs,H b=some (.tup xs)->H' b=some (.tup xs)
 frzs:∀ b o u,H b=some (.frz o u)->H' b=some (.frz o u)
 tbls:∀ b ps,H b=some (.tbl ps)->∃ more,H' b=some (.tbl (ps++more))
section
variable {fs fs' ex ex':List Addr} {H H1 H2:Hp} {h h1 h2 h':Heap} {a x e:Addr} {o:HO}
theorem Un.any (u:Un fs ex H H1 h h1) {b:Addr} {ob:Obj} (q:h.get? b=some ob) (n:H b=none) (hx:b ∉ ex):∃ sl,h1.get? b=some { ob with slots:=sl }:=by
 by_cases hb:b ∈fs
 ·exact u.slot b ob q n hb hx
 ·exact⟨ob.slots,u.keep b ob q n hb hx⟩
theorem Un.kept (k:∀ b u,h.get? b=some u->h'.get? b=some u):Un fs ex H H h h':=
 ⟨fun b ob q _ _ _=>k b ob q,fun b ob q _ _ _=>⟨ob.slots,k b ob q⟩,fun _ _ _ n _=>n,fun b ob q _=>⟨ob,k b ob q⟩,fun _ _ q=>q,fun _ _ _ q=>q,fun _ ps q=>⟨#[],by rw[q];simp⟩⟩
theorem Un.refl:Un fs ex H H h h:=Un.kept fun _ _ q=>q
theorem Un.laid (k:∀ b u,h.get? b=some u->h'.get? b=some u) (hp:h.objs.size<=a) (hn:H a=none):Un fs ex H (upd H a o) h h' where
 keep:=fun b u q _ _ _=>k b u q
 slot:=fun b u q _ _ _=>⟨u.slots,k b u q⟩
 free:=fun b u q n _=>by rw[za2 (Nat.ne_of_lt (Nat.lt_of_lt_of_le (Heap.lt_size q) hp))];exact n
 there:=fun b u q _=>⟨u,k b u q⟩
 tups:=fun b xs q=>by rw[za2 (za5 q hn)];exact q
 frzs:=fun b u xs q=>by rw[za2 (za5 q hn)];exact q
 tbls:=fun b ps q=>⟨#[],by rw[za2 (za5 q hn),q];simp⟩
theorem Un.write (mu:Mut (H x)) (he:e=x\/H e=some (.own x)) (k:∀ b u,b ≠ e->h.get? b=some u->h'.get? b=some u) (heo:∃ u,h'.get? e=some u):Un fs ex H (upd H x o) h h':=by
 have hx:∀ b,H b=none->b ≠ x:=fun b n z=>by subst z;rw[n] at mu;exact mu
 have hb:∀ b,H b=none->b ≠ e:=fun b n z=>by
  subst z
  rcases he with r | r
  ·exact hx b n r
  ·rw[n] at r;cases r
 have hm:∀ b u,H b=some u -> ¬ Mut (some u)->b ≠ x:=fun b u q nm z=>by subst z;rw[q] at mu;exact nm mu
 refine⟨fun b u q n _ _=>k b u (hb b n) q,fun b u q n _ _=>⟨u.slots,k b u (hb b n) q⟩,fun b u q n _=>by rw[za2 (hx b n)];exact n,fun b u q _ => ?_,
  fun b xs q=>by rw[za2 (hm b _ q fun z=>z)];exact q,fun b u xs q=>by rw[za2 (hm b _ q fun z=>z)];exact q,fun b ps q=>⟨#[],by rw[za2 (hm b _ q fun z=>z),q];simp⟩⟩
 by_cases hbe:b=e
 ·subst hbe;exact heo
 ·exact⟨u,k b u hbe q⟩
end
noncomputable def trk (h:Heap) (H:Hp):List Addr:=(List.range h.objs.size).filter fun a=>(H a).isSome
noncomputable def hidT (h:Heap) (H:Hp):Heap:=PySem.W.hideAll h (trk h H)
theorem hidT_size (h:Heap) (H:Hp):(hidT h H).objs.size=h.objs.size:=PySem.W.hideAll_size _ _
theorem hidT_get {h:Heap} {H:Hp} {b:Addr} {o:Obj} (e:h.get? b=some o) (n:H b=none):(hidT h H).get? b=some o:=
 PySem.W.hideAll_get _ e fun hm=>by
  have q:(H b).isSome=true:=(List.mem_filter.mp hm).2
  rw[n] at q;simp at q
theorem of_hidT {h:Heap} {H:Hp} {b:Addr} {o:Obj} (e:(hidT h H).get? b=some o):h.get? b=some o/\H b=none:=by
 have e':h.get? b=some o:=PySem.W.of_hideAll (trk h H) e
 refine⟨e',?_⟩
 cases q:H b with
 | none=>rfl
 | some x=>
  have hm:b ∈trk h H:=List.mem_filter.mpr ⟨List.mem_range.mpr (Heap.lt_size e'),by simp [q]⟩
  have z:(hidT h H).get? b=none:=PySem.W.hideAll_none (trk h H) hm
  rw[z] at e;cases e
noncomputable def allNews (g h:Heap) (L:Addr):List (Addr×Obj):=(List.range h.objs.size).filterMap fun a=>if a=L\/(g.get? a).isSome=true then none else (h.get? a).map fun o=>(a,o)
noncomputable def rest (g h:Heap) (L d:Addr):List (Addr×Obj):=(allNews g h L).filter fun p=>decide (p.1 ≠ d)
end L2
namespace L2
open PySem PySem.Spec PyProof.Rows
structure Mod (K:PySem.W.Frag) (mg:Str->Option Value) (base:Heap):Prop where
 kin:K.In base
 glob:base.Ns mainGlobals mg
 blt:∃ mb,base.Ns builtinsNs mb/\∀ x:Str,x ≠ "__name__" -> mb x=bootBuiltins x
 nolimit:base.NoLimit
structure Cx where
 prog:Program
 w:World
 K:PySem.W.Frag
 mg:Str->Option Value
 base:Heap
 A:Around
 N:List Str
 s₀:Shared
 H₀:Hp
 env:Env
 outer:List Env
 stack:List Env
 ex:List Addr
 fn:Str->Bool
 calm:Bool
 pn:List (Addr×Obj)
 xe:Value->Shared->Prop
noncomputable def frs (l:List Env):List Addr:=l.filterMap (·.frame)
noncomputable abbrev Cx.fs (X:Cx):List Addr:=frs X.outer
noncomputable def Vis (sc:Scope) (x:Str):Prop:=sc.names.lookup x=some .local\/sc.names.lookup x=some .cell\/sc.names.lookup x=some .free
noncomputable def Loc (sc:Scope) (x:Str):Prop:=sc.names.lookup x=some .local\/sc.names.lookup x=some .cell
noncomputable def Look (env:Env) (h:Heap) (m:Str->Option Value) (x:Str) (u:Value):Prop:=
 (env.kindOf x=some .local/\m x=some u)\/((env.kindOf x=some .cell\/env.kindOf x=some .free)/\∃ c,env.cells.lookup x=some c/\h.IsCell c (some u))
structure Cx.Ok (X:Cx):Prop where
 mod:Mod X.K X.mg X.base
 kind:X.env.scope.kind=.function
 glob:X.env.globals=mainGlobals
 blt:X.env.builtins=builtinsNs
 above:X.s₀.heap.objs.size<=X.env.locals
 inj:∀ x y c,X.env.cells.lookup x=some c->X.env.cells.lookup y=some c->x=y
 has:∀ x,(X.env.kindOf x=some .cell\/X.env.kindOf x=some .free)->∃ c,X.env.cells.lookup x=some c
 cab:∀ x c,X.fn x=true->X.env.cells.lookup x=some c->X.s₀.heap.objs.size<=c
 hd:X.calm=true->X.A.handled=none
 frames:X.A.frames=some X.stack
 stk:X.stack=X.outer\/(X.stack=X.env::X.outer/\X.env.frame=some X.env.locals)
 exf:∀ b ∈X.ex,b ≠ X.env.locals/\∀ x c,X.env.cells.lookup x=some c->c ≠ b
 bs:∀ b o,X.base.get? b=some o->X.s₀.heap.get? b=some o/\X.H₀ b=none
 bsz:X.base.objs.size<=X.s₀.heap.objs.size
 noex:∀ b o,X.base.get? b=some o->b ∉ X.ex
 exfs:∀ b ∈X.ex,b ∉ X.fs
 funs:X.s₀.heap.FunFrames X.base X.outer
 frf:∀ b ∈X.fs,X.H₀ b=none
structure Inv (X:Cx) (pins:List (Addr×Obj)) (σ:List (Option V)) (H:Hp) (s:Shared):Prop where
 ok:X.Ok
 os:s.os=X.s₀.os
 bare:AllBare s.gens
 base:Un X.fs X.ex X.H₀ H X.s₀.heap s.heap
 loc:∃ m,s.heap.Ns X.env.locals m/\∀ (i:Nat) (x:Str) (v:V),X.N[i]? = some x->σ[i]? = some (some v)->Vis X.env.scope x->∃ u,RelV v u/\Look X.env s.heap m x u
 cell:∀ x c,X.env.cells.lookup x=some c->∃ v,s.heap.IsCell c v
 free:H X.env.locals=none
 freeC:∀ x c,X.env.cells.lookup x=some c->H c=none
 pin:∀ p ∈X.pn++pins,s.heap.get? p.1=some p.2/\H p.1=none/\p.1 ≠ X.env.locals/\p.1 ∉ X.fs/\∀ v,p.2.data ≠ .cell v
 hok:HOk X.prog X.w H s.heap
 len:σ.length=X.N.length
section
variable {X:Cx} {pins:List (Addr×Obj)} {σ:List (Option V)} {H H':Hp} {s:Shared} {h':Heap}
theorem Cx.Ok.nofr (ok:X.Ok) {b:Addr} {o:Obj} (e:X.base.get? b=some o):b ∉ X.fs:=fun hb=>by
 have:=(ok.funs.mem hb).1
 rw[e] at this;cases this
theorem Inv.bs (I:Inv X pins σ H s):∀ b o,X.base.get? b=some o->s.heap.get? b=some o/\H b=none:=fun b o e=>
 ⟨I.base.keep b o (I.ok.bs b o e).1 (I.ok.bs b o e).2 (I.ok.nofr e) (I.ok.noex b o e),I.base.free b o (I.ok.bs b o e).1 (I.ok.bs b o e).2 (I.ok.noex b o e)⟩
theorem Inv.bk (I:Inv X pins σ H s):∀ b o,X.base.get? b=some o->s.heap.get? b=some o:=fun b o e=>(I.bs b o e).1
theorem Inv.mod (I:Inv X pins σ H s):Mod X.K X.mg X.base:=I.ok.mod
theorem Inv.kIn (I:Inv X pins σ H s):X.K.In s.heap:=I.ok.mod.kin.keeps I.bk
theorem Inv.lt (I:Inv X pins σ H s):X.env.locals<s.heap.objs.size:=let ⟨_,hn,_⟩:=I.loc;hn.lt
theorem Inv.sz (I:Inv X pins σ H s):X.s₀.heap.objs.size<=s.heap.objs.size:=Nat.le_trans I.ok.above (Nat.le_of_lt I.lt)
theorem Inv.nofs (I:Inv X pins σ H s) {a:Addr} (h:s.heap.objs.size<=a):a ∉ X.fs:=fun hb=>by
 obtain⟨_,o,ho,_⟩:=I.ok.funs.mem hb
 exact absurd (Nat.lt_of_lt_of_le (Heap.lt_size ho) (Nat.le_trans I.sz h)) (Nat.lt_irrefl _)
theorem Inv.cne (I:Inv X pins σ H s):∀ x c,X.env.cells.lookup x=some c->c ≠ X.env.locals:=fun x c e z=>by
 obtain⟨v,o,ho,hd⟩:=I.cell x c e
 obtain⟨m,⟨o',es,ep,ho',hd',_⟩,_⟩:=I.loc
 rw[z,ho'] at ho;cases ho;rw[hd'] at hd;cases hd
theorem Inv.funs (I:Inv X pins σ H s):s.heap.FunFrames X.base X.outer:=by
 have all:∀ (l:List Env),(∀ b ∈frs l,b ∈X.fs)->X.s₀.heap.FunFrames X.base l->s.heap.FunFrames X.base l:=by
  intro l
  induction l with
  | nil=>intro _ _;trivial
  | cons env r ih=>
   intro hs hl
   obtain⟨hk,⟨L,o,hf,hn,ho,hd⟩,hr⟩:=hl
   have hL:L ∈X.fs:=hs L (by unfold frs;rw[List.filterMap_cons,hf];exact List.mem_cons_self)
   obtain⟨sl,e⟩:=I.base.slot L o ho (I.ok.frf L hL) hL fun z=>I.ok.exfs L z hL
   exact⟨hk,⟨L,_,hf,hn,e,hd⟩,ih (fun b hb=>hs b (by unfold frs;rw[List.filterMap_cons,hf];exact List.mem_cons_of_mem _ hb)) hr⟩
 exact all X.outer (fun _ hb=>hb) I.ok.funs
theorem Inv.stack (I:Inv X pins σ H s):s.heap.FunFrames X.base X.stack:=by
 rcases I.ok.stk with e | ⟨e,hf⟩
 ·rw[e];exact I.funs
 ·rw[e]
  obtain⟨m,hn,_⟩:=I.loc
  refine .cons (by rw[I.ok.kind];decide) hf hn ?_ I.funs
  exact Heap.get?_none_of_le (Nat.le_trans I.ok.bsz I.ok.above)
theorem Inv.stkSub (I:Inv X pins σ H s):∀ b ∈frs X.stack,b ∈X.env.locals::X.fs:=fun b hb=>by
 rcases I.ok.stk with e | ⟨e,hf⟩
 ·rw[e] at hb;exact List.mem_cons_of_mem _ hb
 ·rw[e] at hb
  unfold frs at hb
  rw[List.filterMap_cons,hf] at hb
  exact hb
theorem Inv.stkFree (I:Inv X pins σ H s):∀ b ∈frs X.stack,H b=none:=fun b hb=>by
 rcases List.mem_cons.mp (I.stkSub b hb) with e | hb
 ·rw[e];exact I.free
 ·obtain⟨_,o,ho,_⟩:=I.ok.funs.mem hb
  exact I.base.free b o ho (I.ok.frf b hb) fun z=>I.ok.exfs b z hb
theorem Inv.step {g':Array GenState} {t':Nat} {d':Drawn} {ch:List Addr} (I:Inv X pins σ H s)
  (hch:∀ b ∈ch,(b ∈X.ex\/X.s₀.heap.objs.size<=b)/\b ≠ X.env.locals/\(∀ x c,X.env.cells.lookup x=some c->c ≠ b)/\∀ p ∈X.pn++pins,p.1 ≠ b)
  (keep:∀ b o,b ≠ X.env.locals->b ∉ X.fs->b ∉ ch->s.heap.get? b=some o->H b=none->h'.get? b=some o)
  (slot:∀ b o,b ≠ X.env.locals->b ∈X.fs->b ∉ ch->s.heap.get? b=some o->H b=none->∃ sl,h'.get? b=some { o with slots:=sl }) (free:∀ b o,b ∉ ch->s.heap.get? b=some o->H b=none->H' b=none)
  (there:∀ b o,b ∉ ch->s.heap.get? b=some o->∃ o',h'.get? b=some o')
  (tups:∀ b xs,H b=some (.tup xs)->H' b=some (.tup xs)) (frzs:∀ b o u,H b=some (.frz o u)->H' b=some (.frz o u)) (tbls:∀ b ps,H b=some (.tbl ps)->∃ more,H' b=some (.tbl (ps++more)))
  (ns:∀ m,s.heap.Ns X.env.locals m->h'.Ns X.env.locals m) (hok:HOk X.prog X.w H' h') (hg:AllBare g'):
  Inv X pins σ H' { s with heap:=h',gens:=g',drawn:=d',toks:=t' }:=by
 have neL:∀ b o,X.s₀.heap.get? b=some o->b ≠ X.env.locals:=fun b o e=>Nat.ne_of_lt (Nat.lt_of_lt_of_le (Heap.lt_size e) I.ok.above)
 have neC:∀ b o,X.s₀.heap.get? b=some o->b ∉ X.ex->b ∉ ch:=fun b o e hx hb=>by
  rcases (hch b hb).1 with z | z
  ·exact hx z
  ·exact absurd (Nat.lt_of_lt_of_le (Heap.lt_size e) z) (Nat.lt_irrefl _)
 have cellK:∀ x c,X.env.cells.lookup x=some c->∀ v,s.heap.IsCell c v->h'.IsCell c v:=fun x c e v ⟨o,ho,hd⟩=>by
  have nch:c ∉ ch:=fun z=>(hch c z).2.2.1 x c e rfl
  by_cases hc:c ∈X.fs
  ·obtain⟨sl,q⟩:=slot c o (I.cne x c e) hc nch ho (I.freeC x c e)
   exact⟨_,q,hd⟩
  ·exact⟨o,keep c o (I.cne x c e) hc nch ho (I.freeC x c e),hd⟩
 refine⟨I.ok,I.os,hg,⟨fun b o e n hb hx => ?_,fun b o e n hb hx => ?_,fun b o e n hx => ?_,fun b o e hx => ?_,fun b xs e=>tups b xs (I.base.tups b xs e),fun b o xs e=>frzs b o xs (I.base.frzs b o xs e),fun b ps e => ?_⟩,?_,fun x c e => ?_,?_,fun x c e => ?_,fun p hp => ?_,hok,I.len⟩
 ·exact keep b o (neL b o e) hb (neC b o e hx) (I.base.keep b o e n hb hx) (I.base.free b o e n hx)
 ·obtain⟨sl,e1⟩:=I.base.slot b o e n hb hx
  obtain⟨sl',e2⟩:=slot b _ (neL b o e) hb (neC b o e hx) e1 (I.base.free b o e n hx)
  exact⟨sl',e2⟩
 ·obtain⟨o',e1⟩:=I.base.there b o e hx
  exact free b o' (neC b o e hx) e1 (I.base.free b o e n hx)
 ·obtain⟨o',e1⟩:=I.base.there b o e hx
  exact there b o' (neC b o e hx) e1
 ·obtain⟨m1,e1⟩:=I.base.tbls b ps e
  obtain⟨m2,e2⟩:=tbls b _ e1
  exact⟨m1++m2,by rw[e2,Array.append_assoc]⟩
 ·obtain⟨m,hn,hl⟩:=I.loc
  refine⟨m,ns m hn,fun i x v e1 e2 e3 => ?_⟩
  obtain⟨u,r,l⟩:=hl i x v e1 e2 e3
  refine⟨u,r,?_⟩
  rcases l with l | ⟨k,c,e,z⟩
  ·exact .inl l
  ·exact .inr ⟨k,c,e,cellK x c e _ z⟩
 ·obtain⟨v,z⟩:=I.cell x c e
  exact⟨v,cellK x c e v z⟩
 ·obtain⟨m,⟨o,_,_,ho,_⟩,_⟩:=I.loc
  exact free _ o (fun z=>(hch _ z).2.1 rfl) ho I.free
 ·obtain⟨v,o,ho,hd⟩:=I.cell x c e
  exact free c o (fun z=>(hch c z).2.2.1 x c e rfl) ho (I.freeC x c e)
 ·obtain⟨e,n,ne,nf,d⟩:=I.pin p hp
  have nch:p.1 ∉ ch:=fun z=>(hch p.1 z).2.2.2 p hp rfl
  exact⟨keep p.1 p.2 ne nf nch e n,free p.1 p.2 nch e n,ne,nf,d⟩
theorem Inv.un {t':Nat} (I:Inv X pins σ H s) (u:Un X.fs [] H H' s.heap h') (hok:HOk X.prog X.w H' h'):Inv X pins σ H' { s with heap:=h',toks:=t' }:=by
 obtain⟨m,⟨o,es,ep,ho,r⟩,_⟩:=id I.loc
 obtain⟨sl,hL⟩:=u.any ho I.free (by simp)
 exact I.step (g':=s.gens) (d':=s.drawn) (ch:=[]) (fun _ z=>nomatch z) (fun b o _ hb _ e n=>u.keep b o e n hb (by simp)) (fun b o _ hb _ e n=>u.slot b o e n hb (by simp)) (fun b o _ e n=>u.free b o e n (by simp)) (fun b o _ e=>u.there b o e (by simp)) u.tups u.frzs u.tbls (fun m' hm=>by
  obtain⟨o',es',ep',ho',r'⟩:=hm
  rw[ho] at ho';cases ho'
  exact⟨_,es',ep',hL,r'⟩) hok I.bare
theorem Inv.call {g':Array GenState} {t':Nat} {d':Drawn} {ch:List Addr} (I:Inv X pins σ H s) (u:Un (frs X.stack) ch H H' s.heap h') (hok:HOk X.prog X.w H' h') (hg:AllBare g')
  (hch:∀ b ∈ch,(b ∈X.ex\/X.s₀.heap.objs.size<=b)/\b ≠ X.env.locals/\(∀ x c,X.env.cells.lookup x=some c->c ≠ b)/\∀ p ∈X.pn++pins,p.1 ≠ b):
  Inv X pins σ H' { s with heap:=h',gens:=g',drawn:=d',toks:=t' }:=by
 obtain⟨m,⟨o,es,ep,ho,r⟩,_⟩:=id I.loc
 obtain⟨sl,hL⟩:=u.any ho I.free fun z=>(hch _ z).2.1 rfl
 exact I.step (ch:=ch) hch (fun b o hL hb hc e n=>u.keep b o e n (fun z=>(List.mem_cons.mp (I.stkSub b z)).elim hL hb) hc) (fun b o _ _ hc e n=>u.any e n hc) (fun b o hc e n=>u.free b o e n hc) (fun b o hc e=>u.there b o e hc) u.tups u.frzs u.tbls (fun m' hm=>by
  obtain⟨o',es',ep',ho',r'⟩:=hm
  rw[ho] at ho';cases ho'
  exact⟨_,es',ep',hL,r'⟩) hok hg
theorem Inv.turned {t':Nat} {it:Addr} (I:Inv X pins σ H s) (k:∀ b o,b ≠ it->s.heap.get? b=some o->h'.get? b=some o) (hn:H it=none) (hL:it ≠ X.env.locals)
  (h1:it ∈X.ex\/X.s₀.heap.objs.size<=it) (h2:∀ x c,X.env.cells.lookup x=some c->c ≠ it) (h3:∀ p ∈X.pn++pins,p.1 ≠ it):Inv X pins σ H { s with heap:=h',toks:=t' }:=by
 have nit:∀ b u,H b=some u->b ≠ it:=fun b u e z=>by rw[z,hn] at e;cases e
 refine I.step (g':=s.gens) (d':=s.drawn) (ch:=[it]) (fun b hb => ?_) (fun b o _ _ hc e _=>k b o (fun z=>hc (by simp [z])) e) (fun b o _ _ hc e _=>⟨o.slots,k b o (fun z=>hc (by simp [z])) e⟩) (fun _ _ _ _ n=>n)
  (fun b o hc e=>⟨o,k b o (fun z=>hc (by simp [z])) e⟩) (fun _ _ e=>e) (fun _ _ _ e=>e) (fun b ps e=>⟨#[],by rw[e];simp⟩) (fun m hm => ?_) (fun b u e => ?_) I.bare
 ·have e:b=it:=by simpa using hb
  subst e
  exact⟨h1,hL,h2,h3⟩
 ·obtain⟨o,es,ep,ho,r⟩:=hm
  exact⟨o,es,ep,k _ o (Ne.symm hL) ho,r⟩
 ·refine (I.hok b u e).stay (fun c v hc q=>k c v ?_ q) (fun _ q=>q) fun _ _ q=>q
  rcases hc with z | z
  ·rw[z];exact nit b u e
  ·exact nit c _ z
theorem Inv.tok (I:Inv X pins σ H s) (t:Nat):Inv X pins σ H { s with toks:=t }:=I.un (h':=s.heap) (t':=t) Un.refl I.hok
theorem Inv.kept {t':Nat} (I:Inv X pins σ H s) (k:∀ b u,s.heap.get? b=some u->h'.get? b=some u):Inv X pins σ H { s with heap:=h',toks:=t' }:=I.un (Un.kept k) (I.hok.kept k)
theorem Inv.laid {a:Addr} {o:HO} {t':Nat} (I:Inv X pins σ H s) (k:∀ b u,s.heap.get? b=some u->h'.get? b=some u) (hp:s.heap.objs.size<=a) (new:ObjOk X.prog X.w (upd H a o) h' a o):
  Inv X pins σ (upd H a o) { s with heap:=h',toks:=t' }:=I.un (Un.laid k hp (I.hok.fresh hp)) (I.hok.laid k hp new)
theorem Inv.write {x e:Addr} {o:HO} {t':Nat} (I:Inv X pins σ H s) (mu:Mut (H x)) (he:e=x\/H e=some (.own x)) (k:∀ b u,b ≠ e->s.heap.get? b=some u->h'.get? b=some u) (heo:∃ u,h'.get? e=some u)
  (new:ObjOk X.prog X.w (upd H x o) h' x o):Inv X pins σ (upd H x o) { s with heap:=h',toks:=t' }:=I.un (Un.write mu he k heo) (I.hok.write mu he k heo new)
theorem Inv.pins_of {pins':List (Addr×Obj)} (I:Inv X pins σ H s) (h:∀ p ∈pins',s.heap.get? p.1=some p.2/\H p.1=none/\p.1 ≠ X.env.locals/\p.1 ∉ X.fs/\∀ v,p.2.data ≠ .cell v):Inv X pins' σ H s:=
 ⟨I.ok,I.os,I.bare,I.base,I.loc,I.cell,I.free,I.freeC,fun p hp=>(List.mem_append.mp hp).elim (fun z=>I.pin p (List.mem_append_left _ z)) (h p),I.hok,I.len⟩
theorem nodup_ix {N:List Str} (hN:N.Nodup) {i j:Nat} {x:Str} (a:N[i]? = some x) (b:N[j]? = some x):i=j:=by
 obtain⟨h1,e1⟩:=List.getElem?_eq_some_iff.mp a
 obtain⟨h2,e2⟩:=List.getElem?_eq_some_iff.mp b
 exact (List.getElem_inj hN).mp (e1.trans e2.symm)
theorem store_ok2 {M:Model} {A:Around} {E:Value->Shared->Prop} {i:Nat} {x:Str} {v:V} {u:Value} {Q:Unit->Shared->Prop} (I:Inv X pins σ H s) (hN:X.N.Nodup) (hi:X.N[i]? = some x) (hx:Loc X.env.scope x) (r:RelV v u)
  (h:∀ s',Inv X pins (σ.set i (some v)) H s'->(∃ a,Heap.SameBut a s.heap s'.heap/\(a=X.env.locals\/X.env.cells.lookup x=some a))->Q () s') (hf:X.fn x=true\/X.env.scope.names.lookup x=some .local:=by first | exact .inl rfl | exact .inr rfl | assumption):wpAny M A (storeName X.env x u) Q E s:=by
 obtain⟨m,hn,hl⟩:=id I.loc
 have hcls:(X.env.scope.kind == .class || (X.env.scope.kind == .module && X.env.locals != X.env.globals))=false:=by rw[I.ok.kind];rfl
 have hiσ:i<σ.length:=by rw[I.len];exact (List.getElem?_eq_some_iff.mp hi).1
 have cne:=I.cne
 have tracked:∀ {a:Addr} {h':Heap},(∃ o,s.heap.get? a=some o/\H a=none)->Heap.SameBut a s.heap h'->HOk X.prog X.w H h':=fun {a h'} ha hs b ob e=>by
  obtain⟨_,_,hfree⟩:=ha
  refine (I.hok b ob e).stay (fun c w' hc q=>(hs.2 c ?_).trans q) (fun _ q=>q) fun _ _ q=>q
  rintro rfl
  rcases hc with rfl | hc
  ·rw[hfree] at e;cases e
  ·rw[hfree] at hc;cases hc
 rcases hx with hk | hk
 ·refine wpAny_storeName_local hk hn (fun h' hn' hs => ?_) hcls
  obtain⟨oL,_,_,hoL,_⟩:=id hn
  refine h _ ⟨I.ok,I.os,I.bare,⟨fun b o e n hb hx => ?_,fun b o e n hb hx => ?_,I.base.free,fun b o e hx => ?_,I.base.tups,I.base.frzs,I.base.tbls⟩,⟨_,hn',fun j y v' e1 e2 e3 => ?_⟩,fun y c e => ?_,I.free,I.freeC,fun p hp => ?_,tracked ⟨oL,hoL,I.free⟩ hs,by simpa using I.len⟩ ⟨_,hs,.inl rfl⟩
  ·exact (hs.2 b (Nat.ne_of_lt (Nat.lt_of_lt_of_le (Heap.lt_size e) I.ok.above))).trans (I.base.keep b o e n hb hx)
  ·obtain⟨sl,e1⟩:=I.base.slot b o e n hb hx
   exact⟨sl,(hs.2 b (Nat.ne_of_lt (Nat.lt_of_lt_of_le (Heap.lt_size e) I.ok.above))).trans e1⟩
  ·obtain⟨o',e1⟩:=I.base.there b o e hx
   exact⟨o',(hs.2 b (Nat.ne_of_lt (Nat.lt_of_lt_of_le (Heap.lt_size e) I.ok.above))).trans e1⟩
  ·by_cases hj:j=i
   ·subst hj
    rw[hi] at e1;cases e1
    rw[List.getElem?_set_self hiσ] at e2
    cases e2
    exact⟨u,r,.inl ⟨hk,by simp⟩⟩
   ·rw[List.getElem?_set_ne (Ne.symm hj)] at e2
    obtain⟨u',r',q⟩:=hl j y v' e1 e2 e3
    refine⟨u',r',?_⟩
    rcases q with ⟨k,e⟩ | ⟨k,c,e,z⟩
    ·refine .inl ⟨k,?_⟩
     have:y ≠ x:=fun e=>hj (nodup_ix hN e1 (e ▸ hi))
     simp [this,e]
    ·exact .inr ⟨k,c,e,z.sameBut hs (cne y c e)⟩
  ·obtain⟨w',z⟩:=I.cell y c e
   exact⟨w',z.sameBut hs (cne y c e)⟩
  ·obtain⟨e,n,ne,nf,d⟩:=I.pin p hp
   exact⟨(hs.2 p.1 ne).trans e,n,ne,nf,d⟩
 ·have hfn:X.fn x=true:=by
   rcases hf with z | z
   ·exact z
   ·rw[z] at hk;cases hk
  obtain⟨c,hc⟩:=I.ok.has x (.inl hk)
  obtain⟨w',z⟩:=I.cell x c hc
  refine wpAny_storeName_cell I.ok.kind hk hc z (fun h' hc' hs => ?_)
  obtain⟨oc,hoc,hocd⟩:=id z
  refine h { s with heap:=h' } ⟨I.ok,I.os,I.bare,⟨fun b o e n hb hx => ?_,fun b o e n hb hx => ?_,I.base.free,fun b o e hx => ?_,I.base.tups,I.base.frzs,I.base.tbls⟩,⟨m,hn.sameBut hs (Ne.symm (cne x c hc)),fun j y v' e1 e2 e3 => ?_⟩,fun y c' e => ?_,I.free,I.freeC,fun p hp => ?_,tracked ⟨oc,hoc,I.freeC x c hc⟩ hs,by simpa using I.len⟩ ⟨c,hs,.inr hc⟩
  ·exact (hs.2 b (Nat.ne_of_lt (Nat.lt_of_lt_of_le (Heap.lt_size e) (I.ok.cab x c hfn hc)))).trans (I.base.keep b o e n hb hx)
  ·obtain⟨sl,e1⟩:=I.base.slot b o e n hb hx
   exact⟨sl,(hs.2 b (Nat.ne_of_lt (Nat.lt_of_lt_of_le (Heap.lt_size e) (I.ok.cab x c hfn hc)))).trans e1⟩
  ·obtain⟨o',e1⟩:=I.base.there b o e hx
   exact⟨o',(hs.2 b (Nat.ne_of_lt (Nat.lt_of_lt_of_le (Heap.lt_size e) (I.ok.cab x c hfn hc)))).trans e1⟩
  ·by_cases hj:j=i
   ·subst hj
    rw[hi] at e1;cases e1
    rw[List.getElem?_set_self hiσ] at e2
    cases e2
    exact⟨u,r,.inr ⟨.inl hk,c,hc,hc'⟩⟩
   ·rw[List.getElem?_set_ne (Ne.symm hj)] at e2
    obtain⟨u',r',q⟩:=hl j y v' e1 e2 e3
    refine⟨u',r',?_⟩
    rcases q with q | ⟨k,c',e,z'⟩
    ·exact .inl q
    ·refine .inr ⟨k,c',e,z'.sameBut hs ?_⟩
     rintro rfl
     exact hj (nodup_ix hN e1 (I.ok.inj _ _ _ e hc ▸ hi))
  ·by_cases hcc:c'=c
   ·subst hcc;exact⟨_,hc'⟩
   ·obtain⟨w2,z2⟩:=I.cell y c' e
    exact⟨w2,z2.sameBut hs hcc⟩
  ·obtain⟨e,n,ne,nf,d⟩:=I.pin p hp
   refine⟨(hs.2 p.1 ?_).trans e,n,ne,nf,d⟩
   intro q
   rw[q,hoc] at e
   have q':oc=p.2:=Option.some.inj e
   exact d w' (by rw[←q'];exact hocd)
theorem store_ok {M:Model} {A:Around} {E:Value->Shared->Prop} {i:Nat} {x:Str} {v:V} {u:Value} {Q:Unit->Shared->Prop} (I:Inv X pins σ H s) (hN:X.N.Nodup) (hi:X.N[i]? = some x) (hx:Loc X.env.scope x) (r:RelV v u)
  (h:∀ s',Inv X pins (σ.set i (some v)) H s'->Q () s') (hf:X.fn x=true\/X.env.scope.names.lookup x=some .local:=by first | exact .inl rfl | exact .inr rfl | assumption):wpAny M A (storeName X.env x u) Q E s:=
 store_ok2 I hN hi hx r (fun s' I' _=>h s' I') hf
theorem Inv.call' {s':Shared} {ch:List Addr} (I:Inv X pins σ H s) (ho:s'.os=s.os) (u:Un (frs X.stack) ch H H' s.heap s'.heap) (hok:HOk X.prog X.w H' s'.heap) (hg:AllBare s'.gens)
  (hch:∀ b ∈ch,(b ∈X.ex\/X.s₀.heap.objs.size<=b)/\b ≠ X.env.locals/\(∀ x c,X.env.cells.lookup x=some c->c ≠ b)/\∀ p ∈X.pn++pins,p.1 ≠ b):Inv X pins σ H' s':=by
 obtain⟨h',g',d',t',o'⟩:=s'
 have e:o'=s.os:=ho
 subst e
 exact I.call (g':=g') (t':=t') (d':=d') u hok hg hch
end
abbrev XK:=Value->Option Addr->Hp->Prop
abbrev St:=List (Option V)
abbrev VK:=V->Hp->Prop
abbrev TE:=St->Hp->VK->Prop
abbrev TT:=St->Hp->(Bool->Hp->Prop)->Prop
abbrev TA:=St->Hp->(List V->Hp->Prop)->Prop
structure Ends where
 nx:St->Hp->Prop
 rt:VK
 bk:St->Hp->Prop:=fun _ _=>False
 ct:St->Hp->Prop:=fun _ _=>False
abbrev TS:=Ends->St->Hp->Prop
noncomputable def EP (X:Cx) (pins:List (Addr×Obj)) (σ:St) (Q:VK) (u:Value) (s':Shared):Prop:=∃ v H',Inv X pins σ H' s'/\RelV v u/\Q v H'
noncomputable def TP (X:Cx) (pins:List (Addr×Obj)) (σ:St) (Q:Bool->Hp->Prop) (b:Bool) (s':Shared):Prop:=∃ H',Inv X pins σ H' s'/\Q b H'
noncomputable def AP (X:Cx) (pins:List (Addr×Obj)) (σ:St) (Q:List V->Hp->Prop) (us:List Value) (s':Shared):Prop:=∃ vs H',Inv X pins σ H' s'/\Vals vs us/\Q vs H'
noncomputable def SP (X:Cx) (pins:List (Addr×Obj)) (D:Ends) (f:Flow) (s':Shared):Prop:=
 match f with
 | .next=>∃ σ' H',Inv X pins σ' H' s'/\D.nx σ' H'
 | .brk=>∃ σ' H',Inv X pins σ' H' s'/\D.bk σ' H'
 | .cont=>∃ σ' H',Inv X pins σ' H' s'/\D.ct σ' H'
 | .ret u=>∃ v σ' H',Inv X pins σ' H' s'/\RelV v u/\D.rt v H'
noncomputable def PE (X:Cx) (e:Expr) (t:TE):Prop:=
 ∀ (pins:List (Addr×Obj)) (s:Shared) (σ:St) (H:Hp) (Q:VK),Inv X pins σ H s->t σ H Q->wpAny (model X.prog X.w) X.A (eval e X.env) (EP X pins σ Q) X.xe s
noncomputable def PT (X:Cx) (e:Expr) (t:TT):Prop:=
 ∀ (pins:List (Addr×Obj)) (s:Shared) (σ:St) (H:Hp) (Q:Bool->Hp->Prop),Inv X pins σ H s->t σ H Q->wpAny (model X.prog X.w) X.A (isTrue e X.env (eval e X.env)) (TP X pins σ Q) X.xe s
noncomputable def PW (X:Cx) (e:Expr) (t:TT):Prop:=
 ∀ (whole:Sem Value) (pins:List (Addr×Obj)) (s:Shared) (σ:St) (H:Hp) (Q:Bool->Hp->Prop),Inv X pins σ H s->t σ H Q->wpAny (model X.prog X.w) X.A (isTrue e X.env whole) (TP X pins σ Q) X.xe s
theorem PW.pt {X:Cx} {e:Expr} {t:TT} (h:PW X e t):PT X e t:=h _
noncomputable def PA (X:Cx) (es:List Expr) (t:TA):Prop:=
 ∀ (pos:Pos) (pins:List (Addr×Obj)) (s:Shared) (σ:St) (H:Hp) (Q:List V->Hp->Prop),Inv X pins σ H s->t σ H Q->wpAny (model X.prog X.w) X.A (spliced (backTo pos (starEach es X.env))) (AP X pins σ Q) X.xe s
noncomputable def PS (X:Cx) (st:Stmt) (t:TS):Prop:=
 ∀ (pins:List (Addr×Obj)) (s:Shared) (σ:St) (H:Hp) (D:Ends),Inv X pins σ H s->t D σ H->wpAny (model X.prog X.w) X.A (exec st X.env) (SP X pins D) X.xe s
noncomputable def PSs (X:Cx) (st:List Stmt) (t:TS):Prop:=
 ∀ (pins:List (Addr×Obj)) (s:Shared) (σ:St) (H:Hp) (D:Ends),Inv X pins σ H s->t D σ H->wpAny (model X.prog X.w) X.A (execs st X.env) (SP X pins D) X.xe s
theorem thn {α:Type} {t:Sem α} {Q Q':α->Shared->Prop} {M:Model} {A:Around} {E:Value->Shared->Prop} {s:Shared} (h:wpAny M A t Q E s) (hQ:∀ a s,Q a s->Q' a s):wpAny M A t Q' E s:=wpAny_mono h hQ fun _ _ x=>x
end L2
namespace L2
open PySem PySem.Spec PyProof.Rows
section
variable {X:Cx}
noncomputable def tVar (i:Nat):TE:=fun σ H Q=>∃ v,σ[i]? = some (some v)/\Q v H
noncomputable def tC (v:V):TE:=fun _ H Q=>Q v H
theorem pe_var {i:Nat} {x:Str} {pos:Pos} (hN:X.N[i]? = some x) (hv:Vis X.env.scope x) (hd:(x == ("__debug__" : Str))=false:=by decide) (hcd:(x == ("__classdict__" : Str))=false:=by decide):PE X (.Name x pos) (tVar i):=by
 intro pins s σ H Q I h
 obtain⟨v,e,h⟩:=h
 obtain⟨m,hn,hl⟩:=I.loc
 obtain⟨u,r,l⟩:=hl i x v hN e hv
 have fin:EP X pins σ Q u s:=⟨v,H,I,r,h⟩
 rcases l with ⟨hk,hm⟩ | ⟨hk,c,hc,hcell⟩
 ·exact wpAny_Name (wpAny_loadName_local I.ok.kind hk hn hm fin) hd
 ·rcases hk with hk | hk
  ·exact wpAny_Name (wpAny_loadName_cell I.ok.kind hk hc hcell fin) hd
  ·exact wpAny_Name (wpAny_loadName_free I.ok.kind hk hc hcell fin hcd) hd
theorem pe_int {i j pos} : PE X (.Constant (.int i) j pos) (tC (.int i)):=fun _ _ _ H _ I h=>wpAny_Constant_int ⟨.int i,H,I.tok _,⟨_,rfl⟩,h⟩
theorem pe_bl {b j pos} : PE X (.Constant (.bool b) j pos) (tC (.bl b)):=fun _ _ _ H _ I h=>Constant_bool ⟨.bl b,H,I,rfl,h⟩
theorem pe_non {j pos} : PE X (.Constant .none j pos) (tC .non):=fun _ _ _ H _ I h=>Constant_none ⟨.non,H,I,rfl,h⟩
theorem pe_str {x j pos} : PE X (.Constant (.str x) j pos) (tC (.str x)):=fun _ _ _ H _ I h=>Calls.Constant_str ⟨.str x,H,I.tok _,⟨_,rfl⟩,h⟩
noncomputable def Gl (X:Cx) (x:Str):Prop:=X.env.kindOf x=some .globalImplicit
theorem ld_glob {E:Value->Shared->Prop} {pins:List (Addr×Obj)} {s:Shared} {σ:St} {H:Hp} {x:Str} {u:Value} {pos:Pos} {Q:Value->Shared->Prop} (I:Inv X pins σ H s) (hg:Gl X x) (hm:X.mg x=some u) (h:Q u s)
  (hd:(x == ("__debug__" : Str))=false:=by decide):wpAny (model X.prog X.w) X.A (eval (.Name x pos) X.env) Q E s:=
 Calls.Name_function_global I.ok.kind hg (Calls.loadGlobal_global (by rw[I.ok.glob];exact I.mod.glob.keeps I.bk) hm h) hd
theorem ld_blt {E:Value->Shared->Prop} {pins:List (Addr×Obj)} {s:Shared} {σ:St} {H:Hp} {x:Str} {u:Value} {pos:Pos} {Q:Value->Shared->Prop} (I:Inv X pins σ H s) (hg:Gl X x) (hm:X.mg x=none) (hv:bootBuiltins x=some u) (h:Q u s)
  (hn:x ≠ "__name__":=by decide) (hd:(x == ("__debug__" : Str))=false:=by decide):wpAny (model X.prog X.w) X.A (eval (.Name x pos) X.env) Q E s:=by
 obtain⟨mb,h1,h2⟩:=I.mod.blt
 exact Calls.Name_function_global I.ok.kind hg (Calls.loadGlobal_builtin (by rw[I.ok.glob];exact I.mod.glob.keeps I.bk) hm (by rw[I.ok.blt];exact h1.keeps I.bk) ((h2 x hn).trans hv) h) hd
theorem pe_glob {x:Str} {v:V} {u:Value} {pos:Pos} (hg:Gl X x) (hm:X.mg x=some u) (r:RelV v u) (hd:(x == ("__debug__" : Str))=false:=by decide):PE X (.Name x pos) (tC v):=
 fun _ _ _ H _ I h=>ld_glob I hg hm ⟨v,H,I,r,h⟩ hd
theorem pe_bltn {x:Str} {v:V} {u:Value} {pos:Pos} (hg:Gl X x) (hm:X.mg x=none) (hv:bootBuiltins x=some u) (r:RelV v u) (hn:x ≠ "__name__":=by decide) (hd:(x == ("__debug__" : Str))=false:=by decide):PE X (.Name x pos) (tC v):=
 fun _ _ _ H _ I h=>ld_blt I hg hm hv ⟨v,H,I,r,h⟩ hn hd
variable {a b:Expr} {ta tb:TE} {pos:Pos}
variable {tA tB':TT} {rest:List Expr}
noncomputable def tAnd (t u:TT):TT:=fun σ H Q=>t σ H fun c H1=>if c=true then u σ H1 Q else Q false H1
noncomputable def tOr (t u:TT):TT:=fun σ H Q=>t σ H fun c H1=>if c=true then Q true H1 else u σ H1 Q
noncomputable def tNot (t:TT):TT:=fun σ H Q=>t σ H fun c H1=>Q (!c) H1
theorem pw_and1 (ha:PT X a tA):PW X (.BoolOp .And [a] pos) tA:=by
 intro wh pins s σ H Q I h
 refine isTrue_and (thn (ha pins s σ H Q I h) fun c s1 e => ?_)
 cases c with
 | true=>exact isTrue_and_nil e
 | false=>exact e
theorem pw_or1 (ha:PT X a tA):PW X (.BoolOp .Or [a] pos) tA:=by
 intro wh pins s σ H Q I h
 refine isTrue_or (thn (ha pins s σ H Q I h) fun c s1 e => ?_)
 cases c with
 | false=>exact isTrue_or_nil e
 | true=>exact e
theorem pw_and (ha:PT X a tA) (hb:PW X (.BoolOp .And (b::rest) pos) tB'):PW X (.BoolOp .And (a::b::rest) pos) (tAnd tA tB'):=by
 intro wh pins s σ H Q I h
 refine isTrue_and (thn (ha pins s σ H _ I h) fun c s1 ⟨H1,I1,q1⟩ => ?_)
 cases c with
 | true=>exact hb wh pins s1 σ H1 Q I1 q1
 | false=>exact⟨H1,I1,q1⟩
theorem pw_or (ha:PT X a tA) (hb:PW X (.BoolOp .Or (b::rest) pos) tB'):PW X (.BoolOp .Or (a::b::rest) pos) (tOr tA tB'):=by
 intro wh pins s σ H Q I h
 refine isTrue_or (thn (ha pins s σ H _ I h) fun c s1 ⟨H1,I1,q1⟩ => ?_)
 cases c with
 | true=>exact⟨H1,I1,q1⟩
 | false=>exact hb wh pins s1 σ H1 Q I1 q1
theorem pt_not (ha:PT X a tA):PT X (.UnaryOp .Not a pos) (tNot tA):=by
 intro pins s σ H Q I h
 exact isTrue_not (ha pins s σ H (fun c H1=>Q (!c) H1) I h)
end
end L2
namespace L2
open PySem PySem.Spec PyProof.Rows
noncomputable def SqL (K:PySem.W.Frag) (H:Hp) (a:Addr) (xs:List V):Prop:=
 Rd H a (.lst xs) ∨
  ∃ (o:Obj) (its:Array Value) (n:Nat),K.lookup a=some o/\o.cls=.type "list" ∧ o.dict=none/\o.data=.seq its n/\its.size<=sizeLine/\Vals xs its.toList
noncomputable def SqT (K:PySem.W.Frag) (H:Hp) (a:Addr) (xs:List V):Prop:=
 Rd H a (.tup xs) ∨
  ∃ (o:Obj) (its:Array Value) (n:Nat),K.lookup a=some o/\o.cls=.type "tuple" ∧ o.data=.seq its n/\its.size<=sizeLine/\Vals xs its.toList
noncomputable def absV:Value->Option V
 | .none=>some .non
 | .bool b=>some (.bl b)
 | .int i _=>some (.int i)
 | .str x _=>some (.str x)
 | .bytes b _=>some (.byt b)
 | .float b _=>some (.flt b)
 | .ref a=>some (.ref a)
 | .type n=>some (.ty n)
 | _=>none
theorem RelV.abs {x:V} {u:Value} (r:RelV x u):absV u=some x:=by
 cases x with
 | non=>cases r;rfl
 | bl _=>cases r;rfl
 | int _=>obtain⟨t,rfl⟩:=r;rfl
 | str _=>obtain⟨t,rfl⟩:=r;rfl
 | byt _=>obtain⟨t,rfl⟩:=r;rfl
 | flt _=>obtain⟨t,rfl⟩:=r;rfl
 | ref _=>cases r;rfl
 | ty _=>cases r;rfl
theorem RelV.inj {x y:V} {u:Value} (r:RelV x u) (q:RelV y u):x=y:=Option.some.inj (r.abs.symm.trans q.abs)
theorem Vals.inj:∀ {xs ys:List V} {us:List Value},Vals xs us->Vals ys us->xs=ys
 | _,_,_,.nil,.nil=>rfl
 | _,_,_,.cons r t,.cons r' t'=>by rw[r.inj r',Vals.inj t t']
section
variable {X:Cx} {pins:List (Addr×Obj)} {σ:St} {H:Hp} {s:Shared} {a:Addr} {xs ys:List V}
theorem SqL.of {K:PySem.W.Frag} (h:H a=some (.lst xs)):SqL K H a xs:=.inl (.inl h)
theorem SqT.of {K:PySem.W.Frag} (h:H a=some (.tup xs)):SqT K H a xs:=.inl (.inl h)
theorem Inv.list (I:Inv X pins σ H s) (h:SqL X.K H a xs):∃ its:List Value,Vals xs its/\PlainL s.heap a its.toArray/\xs.length<=sizeLine:=by
 rcases h with h | ⟨o,its,n,hk,hc,hd,hs,hz,r⟩
 ·obtain⟨z,its,n,r,e⟩:=h.ok I.hok
  exact⟨its,r,⟨_,n,e,rfl,rfl,rfl⟩,z⟩
 ·refine⟨its.toList,r,⟨o,n,I.kIn a o hk,hc,hd,by simpa using hs⟩,?_⟩
  have e:=r.length
  simp only[Array.length_toList] at e
  lia
theorem Inv.tuple (I:Inv X pins σ H s) (h:SqT X.K H a xs):∃ its:List Value,Vals xs its/\IsTup s.heap a its.toArray/\xs.length<=sizeLine:=by
 rcases h with h | ⟨o,its,n,hk,hc,hs,hz,r⟩
 ·obtain⟨z,its,r,p⟩:=h.ok I.hok
  exact⟨its,r,p,z⟩
 ·refine⟨its.toList,r,⟨o,I.kIn a o hk,hc,n,by simpa using hs⟩,?_⟩
  have e:=r.length
  simp only[Array.length_toList] at e
  lia
theorem Inv.list_inj (I:Inv X pins σ H s) (h:SqL X.K H a xs) (h':SqL X.K H a ys):xs=ys:=by
 obtain⟨its,r,⟨o,n,e,_,_,d⟩,_⟩:=I.list h
 obtain⟨its',r',⟨o',n',e',_,_,d'⟩,_⟩:=I.list h'
 rw[e] at e';cases e'
 rw[d] at d'
 injection d' with d1 _
 have:its=its':=by simpa using congrArg Array.toList d1
 subst this
 exact r.inj r'
theorem Inv.tuple_inj (I:Inv X pins σ H s) (h:SqT X.K H a xs) (h':SqT X.K H a ys):xs=ys:=by
 obtain⟨its,r,⟨o,e,_,n,d⟩,_⟩:=I.tuple h
 obtain⟨its',r',⟨o',e',_,n',d'⟩,_⟩:=I.tuple h'
 rw[e] at e';cases e'
 rw[d] at d'
 injection d' with d1 _
 have:its=its':=by simpa using congrArg Array.toList d1
 subst this
 exact r.inj r'
end
section
variable {X:Cx} {pins:List (Addr×Obj)} {σ:St} {H:Hp} {s:Shared} {E:Value->Shared->Prop}
end
section
variable {X:Cx} {st:Stmt} {rest:List Stmt} {t u:TS} {e:Expr} {te:TE} {pos:Pos}
noncomputable def tNext:TS:=fun D σ H=>D.nx σ H
noncomputable def tSeq (t u:TS):TS:=fun D σ H=>t { D with nx:=u D } σ H
theorem pss_nil:PSs X [] tNext:=fun _ _ σ H _ I h=>wpAny_execs_nil ⟨σ,H,I,h⟩
theorem zez (h1:PS X st t) (h2:PSs X rest u):PSs X (st::rest) (tSeq t u):=by
 intro pins s σ H D I h
 refine wpAny_execs_cons (thn (h1 pins s σ H { D with nx:=u D } I h) fun f s1 q => ?_)
 cases f with
 | next=>
  obtain⟨σ',H',I',q⟩:=q
  exact h2 pins s1 σ' H' D I' q
 | ret v=>exact q
 | brk=>exact q
 | cont=>exact q
theorem pss_one (h1:PS X st t):PSs X [st] t:=by
 intro pins s σ H D I h
 refine wpAny_execs_cons (thn (h1 pins s σ H D I h) fun f s1 q => ?_)
 cases f with
 | next=>exact wpAny_execs_nil q
 | ret v=>exact q
 | brk=>exact q
 | cont=>exact q
theorem Inv.quiet {pins:List (Addr×Obj)} {σ:St} {H:Hp} {s:Shared} (I:Inv X pins σ H s):interactive X.env=false:=by simp [interactive,I.ok.kind]
noncomputable def tDrop (te:TE):TS:=fun D σ H=>te σ H fun _ H1=>D.nx σ H1
theorem ps_expr (he:PE X e te) (hs:swapsWith e none pos.line X.env=pure false:=by rfl):PS X (.Expr e pos) (tDrop te):=by
 intro pins s σ H D I h
 exact wpAny_Expr_any (thn (he pins s σ H _ I h) fun v s1 ⟨x,H1,I1,r1,q1⟩=>⟨σ,H1,I1,q1⟩) I.quiet hs
noncomputable def tRet (te:TE):TS:=fun D σ H=>te σ H D.rt
theorem ps_ret (he:PE X e te):PS X (.Return (some e) pos) (tRet te):=by
 intro pins s σ H D I h
 exact wpAny_Return_some (thn (he pins s σ H _ I h) fun v s1 ⟨x,H1,I1,r1,q1⟩=>⟨x,σ,H1,I1,r1,q1⟩)
noncomputable def tIfS (c:TT) (t u:TS):TS:=fun D σ H=>c σ H fun b H1=>if b=true then t D σ H1 else u D σ H1
theorem ps_if {c:Expr} {a b:List Stmt} {tc:TT} (hc:PT X c tc) (ha:PSs X a t) (hb:PSs X b u):PS X (.If c a b pos) (tIfS tc t u):=by
 intro pins s σ H D I h
 refine wpAny_If (thn (hc pins s σ H _ I h) fun d s1 ⟨H1,I1,q1⟩ => ?_)
 cases d with
 | true=>exact ha pins s1 σ H1 D I1 q1
 | false=>exact hb pins s1 σ H1 D I1 q1
end
abbrev TG:=V->St->Hp->(St->Hp->Prop)->Prop
abbrev TGs:=List V->St->Hp->(St->Hp->Prop)->Prop
noncomputable def PG (X:Cx) (target:Expr) (t:TG):Prop:=
 ∀ (pins:List (Addr×Obj)) (s:Shared) (σ:St) (H:Hp) (v:V) (u:Value) (Q:St->Hp->Prop),Inv X pins σ H s->RelV v u->t v σ H Q →
  wpAny (model X.prog X.w) X.A (assign target X.env u) (fun _ s'=>∃ σ' H',Inv X pins σ' H' s'/\Q σ' H') X.xe s
noncomputable def PGs (X:Cx) (ts:List Expr) (t:TGs):Prop:=
 ∀ (pins:List (Addr×Obj)) (s:Shared) (σ:St) (H:Hp) (vs:List V) (us:List Value) (Q:St->Hp->Prop),Inv X pins σ H s->Vals vs us->t vs σ H Q →
  wpAny (model X.prog X.w) X.A (assignInOrder ((assignEach ts X.env).map (·.2)) us) (fun _ s'=>∃ σ' H',Inv X pins σ' H' s'/\Q σ' H') X.xe s
section
variable {X:Cx} {pos:Pos}
noncomputable def gName (i:Nat):TG:=fun v σ H Q=>Q (σ.set i (some v)) H
theorem pg_name {i:Nat} {x:Str} (hN:X.N.Nodup) (hi:X.N[i]? = some x) (hx:Loc X.env.scope x) (hf:X.fn x=true\/X.env.scope.names.lookup x=some .local:=by first | exact .inl rfl | exact .inr rfl | assumption):PG X (.Name x pos) (gName i):=by
 intro pins s σ H v u Q I r h
 exact wpAny_assign_Name (store_ok I hN hi hx r (fun s' I'=>⟨_,H,I',h⟩) hf)
noncomputable def gNil:TGs:=fun vs σ H Q=>vs=[]/\Q σ H
noncomputable def gCons (t:TG) (u:TGs):TGs:=fun vs σ H Q=>∃ v r,vs=v::r/\t v σ H fun σ' H'=>u r σ' H' Q
theorem pgs_nil:PGs X [] gNil:=by
 intro pins s σ H vs us Q I r h
 obtain⟨e,h⟩:=h
 subst e
 cases r
 exact assignInOrder_nil ⟨σ,H,I,h⟩
theorem pgs_cons {e:Expr} {es:List Expr} {t:TG} {u:TGs} (h1:PG X e t) (h2:PGs X es u)
  (hs:(assignEach (e::es) X.env).map (·.2)=assign e X.env::(assignEach es X.env).map (·.2):=by rfl):PGs X (e::es) (gCons t u):=by
 intro pins s σ H vs us Q I r h
 obtain⟨v,vr,e1,h⟩:=h
 subst e1
 cases r with
 | cons r rr=>
  rw[hs]
  refine assignInOrder_cons (thn (h1 pins s σ H _ _ _ I r h) fun _ s1 ⟨σ1,H1,I1,q1⟩ => ?_)
  exact h2 pins s1 σ1 H1 _ _ Q I1 rr q1
noncomputable def gTup (K:PySem.W.Frag) (n:Nat) (t:TGs):TG:=fun v σ H Q=>∃ a xs,v=.ref a/\SqT K H a xs/\xs.length=n/\t xs σ H Q
theorem pg_tup {es:List Expr} {k:Nat} {t:TGs} {n:Nat} (hc:X.calm=true) (h:PGs X es t)
  (hn:(assignEach es X.env).length=n:=by rfl) (hst:(assignEach es X.env).findIdx? (·.1)=none:=by rfl):PG X (.Tuple es k pos) (gTup X.K n t):=by
 intro pins s σ H v u Q I r hw
 obtain⟨a,xs,e1,hq,hl,hw⟩:=hw
 subst e1
 cases r
 obtain⟨its,rv,ht,hz⟩:=I.tuple hq
 refine assign_Tuple_tuple (I.ok.hd hc) ht (by simp [hn,←hl,rv.length]) hst fun h' hx => ?_
 have I1:Inv X pins σ H { s with heap:=h' }:=I.kept (t':=s.toks) fun b o e=>hx b o (Nat.ne_of_lt (Heap.lt_size e)) e
 exact h pins _ σ H xs _ Q I1 (by simpa using rv) hw
noncomputable def tAsg (te:TE) (g:TG):TS:=fun D σ H=>te σ H fun x H1=>g x σ H1 D.nx
theorem ps_set {i:Nat} {x:Str} {e:Expr} {te:TE} {pos':Pos} (hN:X.N.Nodup) (hi:X.N[i]? = some x) (hx:Loc X.env.scope x) (he:PE X e te) (hs:swapsWith e (some (.Name x pos')) pos.line X.env=pure false:=by rfl) (hf:X.fn x=true\/X.env.scope.names.lookup x=some .local:=by first | exact .inl rfl | exact .inr rfl | assumption):
  PS X (.Assign [.Name x pos'] e pos) (tAsg te (gName i)):=by
 intro pins s σ H D I h
 refine wpAny_Assign_Name (thn (he pins s σ H _ I h) fun v s1 ⟨y,H1,I1,r1,q1⟩ => ?_) hs
 exact store_ok I1 hN hi hx r1 (fun s2 I2=>⟨_,H1,I2,q1⟩) hf
end
section
variable {X:Cx} {pos:Pos}
noncomputable def tWhile (c:TT) (tb:TS):TS:=fun D σ H=>∃ W:Nat->St->Hp->Prop,(∃ m,W m σ H)/\∀ m σ H,W m σ H →
 c σ H fun b H1=>if b=true then ∃ N:St->Hp->Prop,(∀ σ' H',N σ' H'->∃ m',m'<m/\W m' σ' H')/\tb { D with nx:=N,ct:=N,bk:=D.nx } σ H1 else D.nx σ H1
theorem ps_while {c:Expr} {body:List Stmt} {tc:TT} {tb:TS} (hp:PassesOwn (model X.prog X.w) X.A X.env X.xe) (hc:PT X c tc) (hb:PSs X body tb):PS X (.While c body [] pos) (tWhile tc tb):=by
 intro pins s σ H D I h
 obtain⟨W,⟨m0,w0⟩,turn⟩:=h
 refine wpAny_While (codeAny_whileLoop (fun n s'=>∃ σ' H',Inv X pins σ' H' s'/\W n σ' H') ?_ m0 ⟨σ,H,I,w0⟩)
 rintro n s1 ⟨σ1,H1,I1,w1⟩
 refine wpAny_passesOwn hp (thn (hc pins s1 σ1 H1 _ I1 (turn n σ1 H1 w1)) fun b s2 ⟨H2,I2,q2⟩ => ?_)
 cases b with
 | true=>
  obtain⟨N,hN,q2⟩:=q2
  rw[if_pos rfl]
  refine wpAny_passesOwn hp (thn (hb pins s2 σ1 H2 _ I2 q2) fun f s3 q3 => ?_)
  cases f with
  | next=>
   obtain⟨σ3,H3,I3,n3⟩:=q3
   obtain⟨m',hm,w3⟩:=hN σ3 H3 n3
   exact⟨m',hm,σ3,H3,I3,w3⟩
  | cont=>
   obtain⟨σ3,H3,I3,n3⟩:=q3
   obtain⟨m',hm,w3⟩:=hN σ3 H3 n3
   exact⟨m',hm,σ3,H3,I3,w3⟩
  | brk=>exact q3
  | ret v=>exact q3
 | false=>
  rw[if_neg Bool.false_ne_true]
  exact wpAny_execs_nil ⟨σ1,H2,I2,q2⟩
end
structure It where
 go:Nat->Hp->Prop
 yld:Nat->Hp->V->Hp->Prop
 stop:Nat->Hp->Prop
noncomputable def FpOk (X:Cx) (pins:List (Addr×Obj)) (H:Hp) (b:Addr):Prop:=
 H b=none/\b ≠ X.env.locals/\b ∉ X.fs/\(b ∈X.ex\/X.s₀.heap.objs.size<=b)/\(∀ x c,X.env.cells.lookup x=some c->c ≠ b)/\∀ p ∈X.pn++pins,p.1 ≠ b
theorem Inv.fpOk {X:Cx} {pins:List (Addr×Obj)} {σ:St} {H H':Hp} {s:Shared} {b:Addr} (I:Inv X pins σ H s) (hb:s.heap.objs.size<=b) (hn:H' b=none):FpOk X pins H' b:=by
 refine⟨hn,Nat.ne_of_gt (Nat.lt_of_lt_of_le I.lt hb),I.nofs hb,.inr (Nat.le_trans I.sz hb),fun x c e z => ?_,fun p hp z => ?_⟩
 ·obtain⟨v,q⟩:=I.cell x c e
  exact absurd (Nat.lt_of_lt_of_le q.lt (by rw[z];exact hb)) (Nat.lt_irrefl _)
 ·exact absurd (Nat.lt_of_lt_of_le (Heap.lt_size (I.pin p hp).1) (by rw[z];exact hb)) (Nat.lt_irrefl _)
structure Turn (P:Program) (w:World) (K:PySem.W.Frag) (tg:Expr) (J:It) (fp:List Addr) (it:Addr) (tn:Nat->Heap->Prop):Prop where
 mem:it ∈fp
 obj:∀ i h,tn i h->∀ b ∈fp,∃ o,h.get? b=some o/\∀ v,o.data ≠ .cell v
 keep:∀ i h h',tn i h->(∀ b ∈fp,∀ o,h.get? b=some o->h'.get? b=some o)->tn i h'
 item:∀ (X:Cx),X.prog=P->X.w=w->X.K=K->X.calm=true->∀ (i:Nat) (pins:List (Addr×Obj)) (s:Shared) (σ:St) (H:Hp) (E:Value->Shared->Prop),Inv X pins σ H s->(∀ b ∈fp,FpOk X pins H b)->tn i s.heap->J.go i H →
  wpAny (model P w) X.A (pyNext (.ref it)) (fun r s1=>∃ u,r=some u ∧
   wpAny (model P w) X.A (letOwnedTupleGo tg (.ref it) u) (fun _ s2=>∃ x H',Inv X pins σ H' s2/\RelV x u/\J.yld i H x H'/\tn (i+1) s2.heap/\∀ b ∈fp,H' b=none) E s1) E s
 done:∀ (X:Cx),X.prog=P->X.w=w->X.K=K->X.calm=true->∀ (i:Nat) (pins:List (Addr×Obj)) (s:Shared) (σ:St) (H:Hp) (E:Value->Shared->Prop),Inv X pins σ H s->(∀ b ∈fp,FpOk X pins H b)->tn i s.heap->J.stop i H →
  wpAny (model P w) X.A (pyNext (.ref it)) (fun r s1=>r=none/\Inv X pins σ H s1) E s
 self:∀ (A:Around) (i:Nat) (s:Shared) (Q:Value->Shared->Prop) (E:Value->Shared->Prop),tn i s.heap->Q (.ref it) s->wpAny (model P w) A (pyIter (.ref it)) Q E s
abbrev TI:=St->Hp->(It->Hp->Prop)->Prop
noncomputable def PIE (X:Cx) (pins:List (Addr×Obj)) (σ:St) (tg:Expr) (R:It->Hp->Prop) (itv:Value) (s2:Shared):Prop:=
 ∃ (it:Addr) (fp:List Addr) (tn:Nat->Heap->Prop) (J:It) (H':Hp),itv=.ref it/\Inv X pins σ H' s2/\Turn X.prog X.w X.K tg J fp it tn/\tn 0 s2.heap/\(∀ b ∈fp,FpOk X pins H' b)/\R J H'
noncomputable def PI (X:Cx) (tg iter:Expr) (wi:TI):Prop:=
 ∀ (pins:List (Addr×Obj)) (s:Shared) (σ:St) (H:Hp) (R:It->Hp->Prop),Inv X pins σ H s->wi σ H R →
  wpAny (model X.prog X.w) X.A (eval iter X.env) (fun v s1=>wpAny (model X.prog X.w) X.A (pyIter v) (PIE X pins σ tg R) X.xe s1) X.xe s
theorem go_of {M : Model} {A : Around} {E : Value → Shared → Prop} {s : Shared} {tg : Expr} {it : Addr} {u : Value} {o : Obj} {n : String} {vs : Array Value} {Q : Unit → Shared → Prop} (ho : s.heap.get? it = some o) (hc : o.cls = .type n) (hd : o.data = .fields vs)
    (hn : ["enumerate", "zip", "dict_itemiterator", "dict_reverseitemiterator", "odict_iterator", "itertools.zip_longest", "itertools.pairwise"].contains n = false) (hQ : Q () s) : wpAny M A (letOwnedTupleGo tg (.ref it) u) Q E s := by
  unfold letOwnedTupleGo
  cases tg <;> first
    | exact wpAny_pure hQ
    | (cases u <;> first
        | exact wpAny_pure hQ
        | (refine wpAny_bind (wpAny_load ho ?_)
           rw [hc, hd]
           show wpAny M A (if (["enumerate", "zip", "dict_itemiterator", "dict_reverseitemiterator", "odict_iterator", "itertools.zip_longest", "itertools.pairwise"].contains n && vs[0]? == some (rawInt _)) = true then _ else _) Q E s
           rw [if_neg (by intro h; rw [hn, Bool.false_and] at h; cases h)]
           exact wpAny_pure hQ))
noncomputable def Itl (K:PySem.W.Frag) (a:Addr):It:=
 ⟨fun i H=>∃ xs x,SqL K H a xs/\xs[i]? = some x,fun i H x H'=>H'=H/\∀ xs,SqL K H a xs->xs[i]? = some x,fun i H=>∃ xs,SqL K H a xs/\xs.length<=i⟩
noncomputable def Itt (K:PySem.W.Frag) (a:Addr):It:=
 ⟨fun i H=>∃ xs x,SqT K H a xs/\xs[i]? = some x,fun i H x H'=>H'=H/\∀ xs,SqT K H a xs->xs[i]? = some x,fun i H=>∃ xs,SqT K H a xs/\xs.length<=i⟩
noncomputable def Itr (lo:Int) (n:Nat):It:=⟨fun i _=>i<n,fun i H x H'=>H'=H/\x=.int (lo+i),fun i _=>n<=i⟩
theorem turn_list {P:Program} {w:World} {K:PySem.W.Frag} {tg:Expr} (a it:Addr):Turn P w K tg (Itl K a) [it] it (fun i h=>h.IsListIter it a i) where
 mem:=by simp
 obj:=fun i h st b hb=>by
  have e:b=it:=by simpa using hb
  subst e
  obtain⟨o,e,c,d⟩:=st
  exact⟨o,e,fun v z=>by rw[d] at z;cases z⟩
 keep:=fun i h h' st k=>st.at fun o e=>k it (by simp) o e
 item:=by
  intro X hP hw hK hc i pins s σ H E I hf st hg
  subst hP hw hK
  obtain⟨xs,x,hq,hx⟩:=hg
  obtain⟨its,rv,p,hz⟩:=I.list hq
  obtain⟨u,hu,ru⟩:=rv.get hx
  obtain⟨f0,f1,f2,f3,f4,f5⟩:=hf it (by simp)
  refine wpAny_pyNext_list_item st p.isList (x:=u) (by simpa using hu) fun h' st' sb => ?_
  have I1:Inv X pins σ H { s with heap:=h' }:=I.turned (t':=s.toks) (fun b o hb e=>(sb.2 b hb).trans e) f0 f1 f3 f4 f5
  obtain⟨o,e,c,d⟩:=id st'
  exact⟨u,rfl,go_of (s:={ s with heap:=h' }) e c d (by decide) ⟨x,H,I1,ru,⟨rfl,fun ys hy=>by rw[I.list_inj hy hq];exact hx⟩,st',fun b hb=>(hf b hb).1⟩⟩
 done:=by
  intro X hP hw hK hc i pins s σ H E I hf st hg
  subst hP hw hK
  obtain⟨xs,hq,hx⟩:=hg
  obtain⟨its,rv,p,hz⟩:=I.list hq
  obtain⟨f0,f1,f2,f3,f4,f5⟩:=hf it (by simp)
  have hl:=rv.length
  exact wpAny_pyNext_list_end (I.ok.hd hc) st p.isList (by simp;lia) fun h' eb=>⟨rfl,I.turned (t':=s.toks) (fun b o hb e=>eb b o hb e) f0 f1 f3 f4 f5⟩
 self:=fun _ _ _ _ _ st h=>wpAny_pyIter_listiter st h
theorem turn_tuple {P:Program} {w:World} {K:PySem.W.Frag} {tg:Expr} (a it:Addr):Turn P w K tg (Itt K a) [it] it (fun i h=>h.IsTupleIter it a i) where
 mem:=by simp
 obj:=fun i h st b hb=>by
  have e:b=it:=by simpa using hb
  subst e
  obtain⟨o,e,c,d⟩:=st
  exact⟨o,e,fun v z=>by rw[d] at z;cases z⟩
 keep:=fun i h h' st k=>st.at fun o e=>k it (by simp) o e
 item:=by
  intro X hP hw hK hc i pins s σ H E I hf st hg
  subst hP hw hK
  obtain⟨xs,x,hq,hx⟩:=hg
  obtain⟨its,rv,p,hz⟩:=I.tuple hq
  obtain⟨u,hu,ru⟩:=rv.get hx
  obtain⟨f0,f1,f2,f3,f4,f5⟩:=hf it (by simp)
  refine wpAny_pyNext_tuple_item st (show s.heap.IsTuple a its.toArray from p) (x:=u) (by simpa using hu) fun h' st' sb => ?_
  have I1:Inv X pins σ H { s with heap:=h' }:=I.turned (t':=s.toks) (fun b o hb e=>(sb.2 b hb).trans e) f0 f1 f3 f4 f5
  obtain⟨o,e,c,d⟩:=id st'
  exact⟨u,rfl,go_of (s:={ s with heap:=h' }) e c d (by decide) ⟨x,H,I1,ru,⟨rfl,fun ys hy=>by rw[I.tuple_inj hy hq];exact hx⟩,st',fun b hb=>(hf b hb).1⟩⟩
 done:=by
  intro X hP hw hK hc i pins s σ H E I hf st hg
  subst hP hw hK
  obtain⟨xs,hq,hx⟩:=hg
  obtain⟨its,rv,p,hz⟩:=I.tuple hq
  obtain⟨f0,f1,f2,f3,f4,f5⟩:=hf it (by simp)
  have hl:=rv.length
  exact wpAny_pyNext_tuple_end (I.ok.hd hc) st (show s.heap.IsTuple a its.toArray from p) (by simp;lia) fun h' eb=>⟨rfl,I.turned (t':=s.toks) (fun b o hb e=>eb b o hb e) f0 f1 f3 f4 f5⟩
 self:=fun _ _ _ _ _ st h=>wpAny_pyIter_tupleiter st h
theorem turn_range {P:Program} {w:World} {K:PySem.W.Frag} {tg:Expr} (it:Addr) (lo:Int) (n:Nat):Turn P w K tg (Itr lo n) [it] it (fun i h=>IsRangeIter h it (lo+(i:Nat) * 1) ((n:Int) - (i:Nat)) 1) where
 mem:=by simp
 obj:=fun i h st b hb=>by
  have e:b=it:=by simpa using hb
  subst e
  exact⟨_,st,fun v z=>by
   have z':Data.fields _=Data.cell v:=z
   cases z'⟩
 keep:=fun i h h' st k=>k it (by simp) _ st
 item:=by
  intro X hP hw hK hc i pins s σ H E I hf st hg
  subst hP hw hK
  obtain⟨f0,f1,f2,f3,f4,f5⟩:=hf it (by simp)
  have W:=Walks.range (prog:=X.prog) (w:=X.w) (I.ok.hd hc) it lo 1 n
  refine W.item i s _ _ hg st fun v h' tk hv st' kk => ?_
  obtain⟨t,rfl⟩:=hv
  have I1:Inv X pins σ H { s with heap:=h',toks:=tk }:=I.turned (fun b o hb e=>kk b o (by simpa using hb) e) f0 f1 f3 f4 f5
  refine⟨_,rfl,go_of (s:={ s with heap:=h',toks:=tk }) (n:="range_iterator") st' rfl rfl (by decide) ⟨.int (lo+i),H,I1,⟨t,?_⟩,⟨rfl,rfl⟩,st',fun b hb=>(hf b hb).1⟩⟩
  rw[Int.mul_one]
 done:=by
  intro X hP hw hK hc i pins s σ H E I hf st hg
  subst hP hw hK
  obtain⟨f0,f1,f2,f3,f4,f5⟩:=hf it (by simp)
  exact wpAny_pyNext_range_end (I.ok.hd hc) st (by have:n<=i:=hg;lia) fun h' eb=>⟨rfl,I.turned (t':=s.toks) (fun b o hb e=>eb b o hb e) f0 f1 f3 f4 f5⟩
 self:=fun _ _ _ _ _ st h=>wpAny_pyIter_rangeiter st h
end L2
namespace L2
open PySem PySem.Spec PyProof.Rows
section
variable {X:Cx} {tg:Expr}
theorem range_it {pins:List (Addr×Obj)} {σ:St} {H:Hp} {s:Shared} {R:It->Hp->Prop} {E:Value->Shared->Prop} {lo hi:Int} {t u v:Tok} {tk:Nat} (I:Inv X pins σ H s) (h1 : -(2 ^ 62)<=lo) (h2:lo<2 ^ 62) (h3 : -(2 ^ 62)<=hi) (h4:hi<2 ^ 62)
  (q:R (Itr lo (hi - lo).toNat) H):wpAny (model X.prog X.w) X.A (pyIter (.ref s.heap.objs.size)) (PIE X pins σ tg R) E { s with heap:=s.heap.push { cls:=.type "range",data:=.fields #[.int lo t,.int hi u,.int 1 v] },toks:=tk }:=by
 refine wpAny_pyIter_range (IsRange.new ..) (small_one h1 h2 h3 h4) ?_
 have I1:Inv X pins σ H { s with heap:=s.heap.push { cls:=.type "range",data:=.fields #[.int lo t,.int hi u,.int 1 v] },toks:=tk }:=I.kept fun b o e=>Heap.get?_push_of_some _ e
 refine⟨(s.heap.push { cls:=.type "range",data:=.fields #[.int lo t,.int hi u,.int 1 v] }).objs.size,[(s.heap.push { cls:=.type "range",data:=.fields #[.int lo t,.int hi u,.int 1 v] }).objs.size],_,_,H,rfl,
  I1.kept (t':=tk) fun b o e=>Heap.get?_push_of_some _ e,turn_range _ lo (hi - lo).toNat,?_,fun b hb => ?_,q⟩
 ·have e1:lo+((0:Nat):Int) * 1=lo:=by simp
  have e2:(((hi - lo).toNat:Nat):Int) - ((0:Nat):Int)=Builtin.Range.rangeSize lo hi 1:=by rw[rangeSize_one];split<;>lia
  show IsRangeIter _ _ (lo+((0:Nat):Int) * 1) ((((hi - lo).toNat:Nat):Int) - ((0:Nat):Int)) 1
  rw[e1,e2]
  exact Heap.get?_push_size _ rfl
 ·have e:b=(s.heap.push { cls:=.type "range",data:=.fields #[.int lo t,.int hi u,.int 1 v] }).objs.size:=by simpa using hb
  subst e
  exact I1.fpOk (Nat.le_refl _) (I1.hok.fresh (Nat.le_refl _))
noncomputable def iRng1 (ta:TA):TI:=fun σ H R=>ta σ H fun vs H1=>∃ j:Int,vs=[.int j] ∧ -(2 ^ 62)<=j/\j<2 ^ 62/\R (Itr 0 j.toNat) H1
noncomputable def iRng2 (ta:TA):TI:=fun σ H R=>ta σ H fun vs H1=>∃ i j:Int,vs=[.int i,.int j]/\(-(2 ^ 62)<=i/\i<2 ^ 62 ∧ -(2 ^ 62)<=j/\j<2 ^ 62)/\R (Itr i (j - i).toNat) H1
theorem pi_range1 {a:Expr} {ta:TA} {p pos:Pos} (hg:Gl X "range") (hm:X.mg "range" = none) (ha:PA X [a] ta) (hs:starEach [a] X.env=[(false,eval a X.env)]:=by rfl):PI X tg (.Call (.Name "range" p) [a] [] pos) (iRng1 ta):=by
 intro pins s σ H R I h
 refine Call_ (ld_blt I hg hm boot_range (PyProof.Rows.callWith_type1 (thn (ha pos pins s σ H _ I h) fun us s1 ⟨vs,H1,I1,r1,q1⟩ => ?_) hs rfl))
 obtain⟨j,e,q1,q2,q⟩:=q1
 subst e
 cases r1 with
 | cons r rr=>
  cases rr
  obtain⟨t,rfl⟩:=r
  exact call_range_1 (range_it I1 (by lia) (by lia) q1 q2 (by simpa using q))
theorem pi_range2 {a b:Expr} {ta:TA} {p pos:Pos} (hg:Gl X "range") (hm:X.mg "range" = none) (ha:PA X [a,b] ta) (hs:starEach [a,b] X.env=[(false,eval a X.env),(false,eval b X.env)]:=by rfl) (hs2:starEach [b] X.env=[(false,eval b X.env)]:=by rfl):
  PI X tg (.Call (.Name "range" p) [a,b] [] pos) (iRng2 ta):=by
 intro pins s σ H R I h
 refine Call_ (ld_blt I hg hm boot_range (PyProof.Rows.callWith_type1 (thn (ha pos pins s σ H _ I h) fun us s1 ⟨vs,H1,I1,r1,q1⟩ => ?_) (by rw[hs,hs2]) (by rw[hs2];rfl)))
 obtain⟨i,j,e,⟨q1,q2,q3,q4⟩,q⟩:=q1
 subst e
 cases r1 with
 | cons r rr=>
  cases rr with
  | cons r' rr=>
   cases rr
   obtain⟨t,rfl⟩:=r
   obtain⟨t',rfl⟩:=r'
   exact call_range_2 (range_it I1 q1 q2 q3 q4 q)
noncomputable def tFor (wi:TI) (g:TG) (tb:TS):TS:=fun D σ H=>wi σ H fun J H1=>∃ W:Nat->Nat->St->Hp->Prop,(∃ m,W 0 m σ H1)/\∀ i m σ H,W i m σ H →
 (J.stop i H/\D.nx σ H)\/(J.go i H/\∃ N:St->Hp->Prop,(∀ σ' H',N σ' H'->∃ m',m'<m/\W (i+1) m' σ' H')/\∀ x H',J.yld i H x H'->g x σ H' fun σ2 H2=>tb { D with nx:=N,ct:=N,bk:=D.nx } σ2 H2)
noncomputable def pinsAt (fp:List Addr) (h:Heap):List (Addr×Obj):=fp.filterMap fun b=>(h.get? b).map fun o=>(b,o)
theorem mem_pinsAt {fp:List Addr} {h:Heap} {b:Addr} {o:Obj} (hb:b ∈fp) (e:h.get? b=some o):(b,o) ∈pinsAt fp h:=List.mem_filterMap.mpr ⟨b,hb,by rw[e];rfl⟩
theorem of_pinsAt {fp:List Addr} {h:Heap} {p:Addr×Obj} (hp:p ∈pinsAt fp h):p.1 ∈fp/\h.get? p.1=some p.2:=by
 obtain⟨b,hb,e⟩:=List.mem_filterMap.mp hp
 cases q:h.get? b with
 | none=>rw[q] at e;cases e
 | some o=>
  rw[q] at e
  have e':(b,o)=p:=Option.some.inj e
  subst e'
  exact⟨hb,q⟩
theorem Inv.pinned {pins:List (Addr×Obj)} {σ:St} {H:Hp} {s:Shared} {fp:List Addr} (I:Inv X pins σ H s) (hf:∀ b ∈fp,FpOk X pins H b) (ho:∀ b ∈fp,∃ o,s.heap.get? b=some o/\∀ v,o.data ≠ .cell v):Inv X (pins++pinsAt fp s.heap) σ H s:=
 I.pins_of fun p hp=>(List.mem_append.mp hp).elim (fun z=>I.pin p (List.mem_append_right _ z)) fun z=>by
  obtain⟨hb,e⟩:=of_pinsAt z
  obtain⟨f0,f1,f2,_⟩:=hf p.1 hb
  obtain⟨o,e',d⟩:=ho p.1 hb
  rw[e] at e';cases e'
  exact⟨e,f0,f1,f2,d⟩
theorem Inv.unpinned {pins pl:List (Addr×Obj)} {σ:St} {H:Hp} {s:Shared} (I:Inv X (pins++pl) σ H s):Inv X pins σ H s:=I.pins_of fun p hp=>I.pin p (List.mem_append_right _ (List.mem_append_left _ hp))
theorem ps_for {iter:Expr} {body:List Stmt} {wi:TI} {g:TG} {tb:TS} {pos:Pos} (hp:PassesOwn (model X.prog X.w) X.A X.env X.xe) (hc:X.calm=true) (hi:PI X tg iter wi) (hg:PG X tg g) (hb:PSs X body tb)
  (hs:∀ x,foldedSetIterable iter X.env x=pure x:=by intro _;rfl):PS X (.For tg iter body [] pos) (tFor wi g tb):=by
 intro pins s σ H D I h
 refine wpAny_For (thn (hi pins s σ H _ I h) fun v s1 h1=>thn h1 fun itv s2 h2 => ?_) hs
 obtain⟨it,fp,tn,J,H2,e,I2,T,st2,f2,W,⟨m0,w0⟩,turn⟩:=h2
 subst e
 have stat:∀ {H':Hp},(∀ b ∈fp,H' b=none)->∀ b ∈fp,FpOk X pins H' b:=fun hn b hb=>⟨hn b hb,(f2 b hb).2⟩
 refine codeAny_forLoop_any (fun n s'=>∃ i σ' H',Inv X pins σ' H' s'/\tn i s'.heap/\(∀ b ∈fp,H' b=none)/\W i n σ' H') ?_ m0 ⟨0,σ,H2,I2,st2,fun b hb=>(f2 b hb).1,w0⟩
 rintro n s3 ⟨i,σ3,H3,I3,st3,fr3,w3⟩
 rcases turn i n σ3 H3 w3 with ⟨stop,qn⟩ | ⟨go,N,hN,step⟩
 ·refine wpAny_passesOwn hp (thn (T.done X rfl rfl rfl hc i pins s3 σ3 H3 X.xe I3 (stat fr3) st3 stop) fun r s4 ⟨hr,I4⟩ => ?_)
  subst hr
  exact wpAny_execs_nil ⟨σ3,H3,I4,qn⟩
 ·refine wpAny_passesOwn hp (thn (T.item X rfl rfl rfl hc i pins s3 σ3 H3 X.xe I3 (stat fr3) st3 go) fun r s4 ⟨u,hr,h4⟩ => ?_)
  subst hr
  refine wpAny_passesOwn hp (thn h4 fun _ s5 ⟨x,H5,I5,r5,y5,st5,fr5⟩ => ?_)
  have I5':=I5.pinned (stat fr5) (T.obj _ _ st5)
  refine wpAny_passesOwn hp (thn (hg _ s5 σ3 H5 x u _ I5' r5 (step x H5 y5)) fun _ s6 ⟨σ6,H6,I6,q6⟩ => ?_)
  refine wpAny_passesOwn hp (thn (hb _ s6 σ6 H6 _ I6 q6) fun f s7 q7 => ?_)
  have again:∀ {σ7:St} {H7:Hp},Inv X (pins++pinsAt fp s5.heap) σ7 H7 s7->N σ7 H7->∃ m,m<n/\∃ i σ' H',Inv X pins σ' H' s7/\tn i s7.heap/\(∀ b ∈fp,H' b=none)/\W i m σ' H':=fun {σ7 H7} I7 n7=>by
   obtain⟨m',hm,w7⟩:=hN σ7 H7 n7
   refine⟨m',hm,i+1,σ7,H7,I7.unpinned,T.keep _ _ _ st5 fun b hb o e=>(I7.pin (b,o) (List.mem_append_right _ (List.mem_append_right _ (mem_pinsAt hb e)))).1,fun b hb => ?_,w7⟩
   obtain⟨o,e,d⟩:=T.obj _ _ st5 b hb
   exact (I7.pin (b,o) (List.mem_append_right _ (List.mem_append_right _ (mem_pinsAt hb e)))).2.1
  cases f with
  | next=>obtain⟨σ7,H7,I7,n7⟩:=q7;exact again I7 n7
  | cont=>obtain⟨σ7,H7,I7,n7⟩:=q7;exact again I7 n7
  | brk=>obtain⟨σ7,H7,I7,q7⟩:=q7;exact⟨σ7,H7,I7.unpinned,q7⟩
  | ret v=>obtain⟨x7,σ7,H7,I7,r7,q7⟩:=q7;exact⟨x7,σ7,H7,I7.unpinned,r7,q7⟩
end
end L2
namespace L2
open PySem PySem.Spec PyProof.Rows
abbrev R2:=V->V->Hp->VK->Prop
noncomputable def OpR (X:Cx) (f:Value->Value->Sem Value) (r:R2):Prop:=
 ∀ (pins:List (Addr×Obj)) (s:Shared) (σ:St) (H:Hp) (x y:V) (v u:Value) (Q:VK),Inv X pins σ H s->RelV x v->RelV y u->r x y H Q →
  wpAny (model X.prog X.w) X.A (f v u) (EP X pins σ Q) X.xe s
noncomputable def UnR (X:Cx) (f:Value->Sem Value) (r:V->Hp->VK->Prop):Prop:=
 ∀ (pins:List (Addr×Obj)) (s:Shared) (σ:St) (H:Hp) (x:V) (v:Value) (Q:VK),Inv X pins σ H s->RelV x v->r x H Q →
  wpAny (model X.prog X.w) X.A (f v) (EP X pins σ Q) X.xe s
noncomputable def CallR (X:Cx) (f:Value) (r:List V->Hp->VK->Prop):Prop:=
 ∀ (pins:List (Addr×Obj)) (s:Shared) (σ:St) (H:Hp) (xs:List V) (us:List Value) (Q:VK),Inv X pins σ H s->Vals xs us->r xs H Q →
  wpAny (model X.prog X.w) X.A (call f us) (EP X pins σ Q) X.xe s
noncomputable def TruR (X:Cx) (r:V->Hp->(Bool->Hp->Prop)->Prop):Prop:=
 ∀ (pins:List (Addr×Obj)) (s:Shared) (σ:St) (H:Hp) (x:V) (v:Value) (Q:Bool->Hp->Prop),Inv X pins σ H s->RelV x v->r x H Q →
  wpAny (model X.prog X.w) X.A (truthy v) (TP X pins σ Q) X.xe s
noncomputable def tOp (r:R2) (ta tb:TE):TE:=fun σ H Q=>ta σ H fun x H1=>tb σ H1 fun y H2=>r x y H2 Q
noncomputable def tUn (r:V->Hp->VK->Prop) (ta:TE):TE:=fun σ H Q=>ta σ H fun x H1=>r x H1 Q
noncomputable def rI (C:Int->Int->Prop) (g:Int->Int->V):R2:=fun x y H Q=>∃ i j,x=.int i/\y=.int j/\C i j/\Q (g i j) H
noncomputable def rI0 (g:Int->Int->V):R2:=fun x y H Q=>∃ i j,x=.int i/\y=.int j/\Q (g i j) H
noncomputable def rU (g:Int->V):V->Hp->VK->Prop:=fun x H Q=>∃ i,x=.int i/\Q (g i) H
section
variable {X:Cx} {a b c:Expr} {ta tb tc:TE} {pos:Pos}
theorem binT (ha:PE X a ta) (hb:PE X b tb) {pins:List (Addr×Obj)} {s:Shared} {σ:St} {H:Hp} {R:V->V->Hp->Prop} (I:Inv X pins σ H s)
  (h:ta σ H fun x H1=>tb σ H1 fun y H2=>R x y H2) {Q:Value->Shared->Prop} {f:Value->Value->Sem Value}
  (hf:∀ v u s2 x y H2,Inv X pins σ H2 s2->RelV x v->RelV y u->R x y H2->wpAny (model X.prog X.w) X.A (f v u) Q X.xe s2):
  wpAny (model X.prog X.w) X.A (eval a X.env) (fun v s₁=>wpAny (model X.prog X.w) X.A (eval b X.env) (fun u s₂=>wpAny (model X.prog X.w) X.A (f v u) Q X.xe s₂) X.xe s₁) X.xe s:=by
 refine thn (ha pins s σ H _ I h) fun v s1 ⟨x,H1,I1,r1,q1⟩ => ?_
 refine thn (hb pins s1 σ H1 _ I1 q1) fun u s2 ⟨y,H2,I2,r2,q2⟩ => ?_
 exact hf v u s2 x y H2 I2 r1 r2 q2
theorem pe_op {op:Operator} {r:R2} (ho:OpR X (binaryOp op) r) (ha:PE X a ta) (hb:PE X b tb):PE X (.BinOp a op b pos) (tOp r ta tb):=by
 intro pins s σ H Q I h
 exact wpAny_BinOp (binT ha hb I h fun v u s2 x y H2 I2 rx ry q=>ho pins s2 σ H2 x y v u Q I2 rx ry q)
theorem pe_un {op:UnaryOp} {r:V->Hp->VK->Prop} (ho:UnR X (unaryOp op) r) (ha:PE X a ta):PE X (.UnaryOp op a pos) (tUn r ta):=by
 intro pins s σ H Q I h
 exact UnaryOp_ (thn (ha pins s σ H _ I h) fun v s1 ⟨x,H1,I1,r1,q1⟩=>ho pins s1 σ H1 x v Q I1 r1 q1)
theorem opI {f:Value->Value->Sem Value} {C:Int->Int->Prop} {g:Int->Int->Int}
  (rule:∀ (i j:Int) (t u:Tok) (s:Shared) (Q:Value->Shared->Prop) (E:Value->Shared->Prop),C i j->Q (.int (g i j) s.toks) { s with toks:=s.toks+1 } -> wpAny (model X.prog X.w) X.A (f (.int i t) (.int j u)) Q E s):
  OpR X f (rI C fun i j=>.int (g i j)):=by
 intro pins s σ H x y v u Q I rx ry h
 obtain⟨i,j,rfl,rfl,hc,q⟩:=h
 obtain⟨t,rfl⟩:=rx
 obtain⟨t',rfl⟩:=ry
 exact rule i j t t' s _ _ hc ⟨.int (g i j),H,I.tok _,⟨_,rfl⟩,q⟩
theorem opI0 {f:Value->Value->Sem Value} {g:Int->Int->Int}
  (rule:∀ (i j:Int) (t u:Tok) (s:Shared) (Q:Value->Shared->Prop) (E:Value->Shared->Prop),Q (.int (g i j) s.toks) { s with toks:=s.toks+1 } -> wpAny (model X.prog X.w) X.A (f (.int i t) (.int j u)) Q E s):
  OpR X f (rI0 fun i j=>.int (g i j)):=by
 intro pins s σ H x y v u Q I rx ry h
 obtain⟨i,j,rfl,rfl,q⟩:=h
 obtain⟨t,rfl⟩:=rx
 obtain⟨t',rfl⟩:=ry
 exact rule i j t t' s _ _ ⟨.int (g i j),H,I.tok _,⟨_,rfl⟩,q⟩
theorem opB0 {f:Value->Value->Sem Value} {g:Int->Int->Bool}
  (rule:∀ (i j:Int) (t u:Tok) (s:Shared) (Q:Value->Shared->Prop) (E:Value->Shared->Prop),Q (.bool (g i j)) s->wpAny (model X.prog X.w) X.A (f (.int i t) (.int j u)) Q E s):
  OpR X f (rI0 fun i j=>.bl (g i j)):=by
 intro pins s σ H x y v u Q I rx ry h
 obtain⟨i,j,rfl,rfl,q⟩:=h
 obtain⟨t,rfl⟩:=rx
 obtain⟨t',rfl⟩:=ry
 exact rule i j t t' s _ _ ⟨.bl (g i j),H,I,rfl,q⟩
noncomputable def CDiv (i j:Int):Prop:=0<j/\j<1073741824
noncomputable def CPow (i j:Int):Prop:=0<=j/\j<=1000000/\i.natAbs<2 ^ 64
noncomputable def CMul (i j:Int):Prop:=(-(2 ^ 64)<i/\i<2 ^ 64)\/(-(2 ^ 64)<j/\j<2 ^ 64)
theorem CMul.ok {i j:Int} (h:CMul i j):IntMulOk i j:=by
 rcases h with ⟨h1,h2⟩ | ⟨h1,h2⟩
 ·exact .of_left (intBits_le_64 h1 h2)
 ·exact .of_right (intBits_le_64 h1 h2)
theorem op_add:OpR X (binaryOp .Add) (rI0 fun i j=>.int (i+j)):=opI0 fun _ _ _ _ _ _ _ q=>add_int q
theorem op_sub:OpR X (binaryOp .Sub) (rI0 fun i j=>.int (i - j)):=opI0 fun _ _ _ _ _ _ _ q=>sub_int q
theorem op_mul:OpR X (binaryOp .Mult) (rI CMul fun i j=>.int (i * j)):=opI fun _ _ _ _ _ _ _ hc q=>mul_int q hc.ok
theorem op_fdiv:OpR X (binaryOp .FloorDiv) (rI CDiv fun i j=>.int (i / j)):=opI fun i j _ _ _ _ _ hc q=>by
 have h1:(0:Int)<j:=hc.1
 have h2:j<1073741824:=hc.2
 exact floordiv_int (by lia) (by rw[Int.fdiv_eq_ediv_of_nonneg i (by lia)];exact q) (.inl (PyProof.noPylong_small (by lia)))
theorem op_mod:OpR X (binaryOp .Mod) (rI (fun _ j=>0<j) fun i j=>.int (i % j)):=opI fun i j _ _ _ _ _ hc q=>by
 have h1:(0:Int)<j:=hc
 exact mod_int' (by lia) (by rw[Int.fmod_eq_emod_of_nonneg i (by lia)];exact q)
theorem op_pow:OpR X (binaryOp .Pow) (rI CPow fun i j=>.int (i ^ j.toNat)):=opI fun _ _ _ _ _ _ _ hc q=>pow_int_small hc.1 hc.2.1 hc.2.2 q
theorem unI {f:Value->Sem Value} {g:Int->Int}
  (rule:∀ (i:Int) (t:Tok) (s:Shared) (Q:Value->Shared->Prop) (E:Value->Shared->Prop),Q (.int (g i) s.toks) { s with toks:=s.toks+1 } -> wpAny (model X.prog X.w) X.A (f (.int i t)) Q E s):
  UnR X f (rU fun i=>.int (g i)):=by
 intro pins s σ H x v Q I rx h
 obtain⟨i,rfl,q⟩:=h
 obtain⟨t,rfl⟩:=rx
 exact rule i t s _ _ ⟨.int (g i),H,I.tok _,⟨_,rfl⟩,q⟩
theorem un_neg:UnR X (unaryOp .USub) (rU fun i=>.int (-i)):=unI fun _ _ _ _ _ q=>neg_int q
end
section
variable {X:Cx} {a b c:Expr} {ta tb tc:TE} {pos:Pos}
theorem fin_bl {pins:List (Addr×Obj)} {σ:St} {H:Hp} {s:Shared} {Q:VK} {k k':Bool} (I:Inv X pins σ H s) (q:Q (.bl k) H) (e:k=k'):EP X pins σ Q (.bool k') s:=by
 subst e
 exact⟨.bl k,H,I,rfl,q⟩
theorem op_lt:OpR X (compareOp .Lt) (rI0 fun i j=>.bl (decide (i<j))):=opB0 fun _ _ _ _ _ _ _ q=>lt_int q
theorem op_gt:OpR X (compareOp .Gt) (rI0 fun i j=>.bl (decide (j<i))):=opB0 fun _ _ _ _ _ _ _ q=>gt_int q
theorem op_in_str:OpR X (compareOp .In) (fun x y H Q=>∃ i j,x=.str i/\y=.str j/\Q (.bl (!(Builtin.Str.occurrences j i 0 j.length 1).isEmpty)) H):=by
 intro pins s σ H x y v u Q I rx ry h
 obtain⟨i,j,rfl,rfl,q⟩:=h
 obtain⟨t,rfl⟩:=rx
 obtain⟨t',rfl⟩:=ry
 exact in_str (fin_bl I q rfl)
theorem op_notN:OpR X (compareOp .IsNot) (fun x y H Q=>y=.non/\Q (.bl (!decide (x=.non))) H):=by
 intro pins s σ H x y v u Q I rx ry h
 obtain⟨rfl,q⟩:=h
 cases ry
 refine isnot_none_gen (fin_bl I q ?_)
 cases x<;>first
  | (cases rx;rfl)
  | (obtain⟨t,rfl⟩:=rx;rfl)
theorem OpR.or {f:Value->Value->Sem Value} {r r':R2} (h:OpR X f r) (h':OpR X f r'):OpR X f (fun x y H Q=>r x y H Q\/r' x y H Q):=by
 intro pins s σ H x y v u Q I rx ry q
 rcases q with q | q
 ·exact h pins s σ H x y v u Q I rx ry q
 ·exact h' pins s σ H x y v u Q I rx ry q
theorem nomark (b:Expr) {op:CmpOp} (h:op ≠ .In:=by decide) (h2:op ≠ .NotIn:=by decide):behindInMarks op b=false:=by
 have e1:(op == CmpOp.In)=false:=by cases op<;>first | rfl | exact absurd rfl h
 have e2:(op == CmpOp.NotIn)=false:=by cases op<;>first | rfl | exact absurd rfl h2
 cases b<;>simp [behindInMarks,e1,e2]
theorem pe_cmpR {op:CmpOp} {r:R2} (ho:OpR X (compareOp op) r) (ha:PE X a ta) (hb:PE X b tb) (hm:behindInMarks op b=false):PE X (.Compare a [op] [b] pos) (tOp r ta tb):=by
 intro pins s σ H Q I h
 exact wpAny_Compare1 (binT ha hb I h fun v u s2 x y H2 I2 rx ry q=>ho pins s2 σ H2 x y v u Q I2 rx ry q) hm
noncomputable def tTest (t:TE):TT:=fun σ H Q=>t σ H fun x H'=>∃ k,x=.bl k/\Q k H'
theorem pt_cmpR {op:CmpOp} {r:R2} (ho:OpR X (compareOp op) r) (ha:PE X a ta) (hb:PE X b tb) (hm:behindInMarks op b=false):PT X (.Compare a [op] [b] pos) (tTest (tOp r ta tb)):=by
 intro pins s σ H Q I h
 refine wpAny_isTrue_Compare1 (thn (ha pins s σ H _ I h) fun v s1 ⟨x,H1,I1,r1,q1⟩=>thn (hb pins s1 σ H1 _ I1 q1) fun u s2 ⟨y,H2,I2,r2,q2⟩=>
  thn (ho pins s2 σ H2 x y v u _ I2 r1 r2 q2) fun c s3 ⟨z,H3,I3,r3,k,e,q3⟩ => ?_) hm
 subst e
 cases r3
 exact wpAny_truthy_bool ⟨H3,I3,q3⟩
noncomputable def TruV (K:PySem.W.Frag) (x:V) (H:Hp) (k:Bool):Prop:=
 match x with
 | .non=>k=false
 | .bl b=>k=b
 | .int i=>k=(i != 0)
 | .str y=>y.length<=sizeLine/\k=((y.length:Int) != 0)
 | .byt y=>y.size<=sizeLine/\k=((y.size:Int) != 0)
 | .ref p=>(∃ xs,SqL K H p xs/\k = !xs.isEmpty)\/(∃ xs,SqT K H p xs/\k = !xs.isEmpty)\/∃ kvs,H p=some (.dK kvs)/\k = !kvs.isEmpty
 | _=>False
theorem isEmpty_kv {κ:Type} {kvs:List (κ×V)} {vs:List (κ×Value)} (r:KV kvs vs):(!vs.isEmpty) = !kvs.isEmpty:=by
 cases r<;>rfl
theorem isEmpty_of {xs:List V} {its:List Value} (r:Vals xs its):(!its.toArray.isEmpty) = !xs.isEmpty:=by
 cases r<;>simp
theorem line63:(sizeLine:Nat)<2 ^ 63:=by rw[sizeLine_eq];decide
theorem tru_ok:TruR X (fun x H Q=>∃ k,TruV X.K x H k/\Q k H):=by
 intro pins s σ H x v Q I rx h
 obtain⟨k,e,q⟩:=h
 have hl:=line63
 have hs:sizeLine=16777216:=sizeLine_eq
 cases x with
 | non=>
  cases rx
  have e':k=false:=e
  subst e'
  exact truthy_none ⟨H,I,q⟩
 | bl b=>
  cases rx
  have e':k=b:=e
  subst e'
  exact wpAny_truthy_bool ⟨H,I,q⟩
 | int i=>
  obtain⟨t,rfl⟩:=rx
  have e':k=(i != 0):=e
  subst e'
  exact PySem.P.truthy_int ⟨H,I,q⟩
 | str y=>
  obtain⟨t,rfl⟩:=rx
  obtain⟨hy,e'⟩:y.length<=sizeLine/\k=((y.length:Int) != 0):=e
  subst e'
  exact PySem.P.truthy_str (by lia) ⟨H,I.tok _,q⟩
 | byt y=>
  obtain⟨t,rfl⟩:=rx
  obtain⟨hy,e'⟩:y.size<=sizeLine/\k=((y.size:Int) != 0):=e
  subst e'
  exact PySem.W.truthy_bytes (by lia) ⟨H,I.tok _,q⟩
 | ref p=>
  cases rx
  have e':(∃ xs,SqL X.K H p xs/\k = !xs.isEmpty)\/(∃ xs,SqT X.K H p xs/\k = !xs.isEmpty)\/∃ kvs,H p=some (.dK kvs)/\k = !kvs.isEmpty:=e
  rcases e' with ⟨xs,hx,e'⟩ | ⟨xs,hx,e'⟩ | ⟨kvs,hx,e'⟩
  ·subst e'
   obtain⟨its,r,pl,hz⟩:=I.list hx
   have hlen:=r.length
   exact wpAny_truthy_list pl.isList (by simp only[List.size_toArray];lia) ⟨H,I.tok _,by rw[isEmpty_of r];exact q⟩
  ·subst e'
   obtain⟨its,r,pl,hz⟩:=I.tuple hx
   have hlen:=r.length
   exact truthy_tuple pl (by simp only[List.size_toArray];lia) ⟨H,I.tok _,by rw[isEmpty_of r];exact q⟩
  ·subst e'
   obtain⟨hz,hS,vs,r,m⟩:kvs.length<=sizeLine/\(p == sysModules)=false/\∃ vs,KV kvs vs/\s.heap.DictOf (mixKind X.prog X.w) p vs:=I.hok p _ hx
   have hlen:kvs.length=vs.length:=Paired.length r
   exact wpAny_truthy_dict hS m (by lia) ⟨H,I.tok _,by rw[isEmpty_kv r];exact q⟩
 | _=>exact (show False from e).elim
theorem pt_truth (ha : PE X a ta) (he : ∀ whole, isTrue a X.env whole = (do let v ← whole; standAt a.pos; holding [v] (truthy v))) :
    PT X a (fun σ H Q => ta σ H fun x H' => ∃ k, TruV X.K x H' k ∧ Q k H') := by
  intro pins s σ H Q I h
  exact isTrue_plain (thn (ha pins s σ H _ I h) fun v s1 ⟨x, H1, I1, r1, q1⟩ => tru_ok pins s1 σ H1 x v Q I1 r1 q1) (he _)
theorem op_add_str:OpR X (binaryOp .Add) (fun x y H Q=>∃ i j,x=.str i/\y=.str j/\i.length+j.length<=sizeLine/\Q (.str (i++j)) H):=by
 intro pins s σ H x y v u Q I rx ry h
 obtain⟨i,j,rfl,rfl,hz,q⟩:=h
 obtain⟨t,rfl⟩:=rx
 obtain⟨t',rfl⟩:=ry
 exact add_str (fun t' tk=>⟨.str (i++j),H,I.tok _,⟨_,rfl⟩,q⟩) hz
theorem vals1 {x:V} {us:List Value} (r:Vals [x] us):∃ u,us=[u]/\RelV x u:=by
 cases r with
 | cons r1 r2=>cases r2;exact⟨_,rfl,r1⟩
theorem vals2 {x y:V} {us:List Value} (r:Vals [x,y] us):∃ u w',us=[u,w']/\RelV x u/\RelV y w':=by
 cases r with
 | cons r1 r2=>
  cases r2 with
  | cons r3 r4=>cases r4;exact⟨_,_,rfl,r1,r3⟩
theorem call_max2 (hc:X.calm=true):CallR X (.builtin "max") (fun xs H Q=>∃ i j,xs=[.int i,.int j]/\Q (.int (if j > i then j else i)) H):=by
 intro pins s σ H xs us Q I r h
 obtain⟨i,j,rfl,q⟩:=h
 obtain⟨u,w',rfl,⟨t,rfl⟩,⟨t',rfl⟩⟩:=vals2 r
 refine max_two_ints (I.ok.hd hc) fun h' tk k=>⟨_,H,I.kept k,?_,q⟩
 by_cases hj:j > i
 ·rw[if_pos hj,if_pos hj];exact⟨_,rfl⟩
 ·rw[if_neg hj,if_neg hj];exact⟨_,rfl⟩
theorem call_min2 (hc:X.calm=true):CallR X (.builtin "min") (fun xs H Q=>∃ i j,xs=[.int i,.int j]/\Q (.int (if j<i then j else i)) H):=by
 intro pins s σ H xs us Q I r h
 obtain⟨i,j,rfl,q⟩:=h
 obtain⟨u,w',rfl,⟨t,rfl⟩,⟨t',rfl⟩⟩:=vals2 r
 refine min_two_ints (I.ok.hd hc) fun h' tk k=>⟨_,H,I.kept k,?_,q⟩
 by_cases hj:j<i
 ·rw[if_pos hj,if_pos hj];exact⟨_,rfl⟩
 ·rw[if_neg hj,if_neg hj];exact⟨_,rfl⟩
noncomputable def LenV (K:PySem.W.Frag) (x:V) (H:Hp) (n:Nat):Prop:=
 match x with
 | .str y=>y.length<=sizeLine/\n=y.length
 | .byt y=>y.size<=sizeLine/\n=y.size
 | .ref p=>(∃ xs,SqL K H p xs/\n=xs.length)\/∃ xs,SqT K H p xs/\n=xs.length
 | _=>False
theorem call_len:CallR X (.builtin "len") (fun xs H Q=>∃ x n,xs=[x]/\LenV X.K x H n/\Q (.int n) H):=by
 intro pins s σ H xs us Q I r h
 obtain⟨x,n,rfl,e,q⟩:=h
 obtain⟨u,rfl,rx⟩:=vals1 r
 have hl:=line63
 have hs:sizeLine=16777216:=sizeLine_eq
 cases x with
 | str y=>
  obtain⟨t,rfl⟩:=rx
  obtain⟨hy,e'⟩:y.length<=sizeLine/\n=y.length:=e
  subst e'
  exact len_str (by lia) ⟨.int _,H,I.tok _,⟨_,rfl⟩,q⟩
 | byt y=>
  obtain⟨t,rfl⟩:=rx
  obtain⟨hy,e'⟩:y.size<=sizeLine/\n=y.size:=e
  subst e'
  exact PySem.W.len_bytes (by lia) ⟨.int _,H,I.tok _,⟨_,rfl⟩,q⟩
 | ref p=>
  cases rx
  have e':(∃ xs,SqL X.K H p xs/\n=xs.length)\/∃ xs,SqT X.K H p xs/\n=xs.length:=e
  rcases e' with ⟨xs,hx,e'⟩ | ⟨xs,hx,e'⟩
  ·subst e'
   obtain⟨its,r',pl,hz⟩:=I.list hx
   have hlen:=r'.length
   exact Calls.call_len_list pl.isList (by simp only[List.size_toArray];lia) ⟨.int xs.length,H,I.tok _,⟨_,by simp only[List.size_toArray];rw[hlen]⟩,q⟩
  ·subst e'
   obtain⟨its,r',pl,hz⟩:=I.tuple hx
   have hlen:=r'.length
   exact len_tuple pl (by simp only[List.size_toArray];lia) ⟨.int xs.length,H,I.tok _,⟨_,by simp only[List.size_toArray];rw[hlen]⟩,q⟩
 | _=>exact (show False from e).elim
end
end L2
namespace L2
open PySem PySem.Spec PyProof.Rows
section
variable {prog:Program} {w:World} {A:Around} {E:Value->Shared->Prop} {s:Shared} {K:PySem.W.Frag} {x dx C f:Addr} {mA:Str->Option Value} {name:Str} {v:Value}
end
theorem RelO.some_of {v:V} {o:Option Value} (r:RelO (some v) o):∃ u,o=some u/\RelV v u:=by
 cases o with
 | none=>exact (show False from r).elim
 | some u=>exact⟨u,rfl,r⟩
section
variable {P:Program} {w:World} {H H':Hp} {h h':Heap} {a C dx:Addr} {fs fs':List (Str×V)}
end
section
variable {X:Cx} {pins:List (Addr×Obj)} {σ:St} {H:Hp} {s:Shared} {a C dx:Addr} {fs:List (Str×V)} {f:Str} {v:V} {A:Around} {E:Value->Shared->Prop}
end
section
variable {X:Cx} {o e value:Expr} {f:Str} {pos pos' tpos:Pos} {ta tv:TE}
end
section
variable {X:Cx} {pins:List (Addr×Obj)} {σ:St} {H:Hp} {s:Shared} {A:Around} {E:Value->Shared->Prop} {Q:Value->Shared->Prop} {c:Value} {b:Bool}
end
end L2
namespace L2
open PySem PySem.Spec PyProof.Rows
structure Room (k:Nat) (A:Around):Prop where
 hd:A.handled=none
 dp:A.depth+3 * k+5<recursionLimit
 un:A.units+16 * k+200<cLine
theorem Room.mono {j k:Nat} {A:Around} (r:Room k A) (h:j<=k):Room j A:=⟨r.hd,by have:=r.dp;lia,by have:=r.un;lia⟩
theorem Room.deeper {k:Nat} {A:Around} (r:Room (k+1) A) (env:Env):Room k (A.deeper env):=
 ⟨r.hd,by have:=r.dp;show A.depth+1+3 * k+5<_;lia,by have:=r.un;show A.units+3+16 * k+200<_;lia⟩
theorem Room.depth {k:Nat} {A:Around} (r:Room k A):A.depth<recursionLimit:=by have:=r.dp;lia
noncomputable def tNil:TA:=fun _ H Q=>Q [] H
noncomputable def tCons (ta:TE) (tr:TA):TA:=fun σ H Q=>ta σ H fun x H1=>tr σ H1 fun xs H2=>Q (x::xs) H2
section
variable {X:Cx} {e:Expr} {es:List Expr} {te:TE} {t:TA} {pos:Pos}
theorem pa_nil:PA X [] tNil:=fun _ _ _ _ H Q I h=>Calls.spliced_nil ⟨[],H,I,.nil,h⟩
theorem pa_cons (ha:PE X e te) (hr:PA X es t) (hs:starEach (e::es) X.env=(false,eval e X.env)::starEach es X.env:=by rfl):PA X (e::es) (tCons te t):=by
 intro pos pins s σ H Q I h
 rw[hs]
 show wpAny _ _ (spliced ((false,eval e X.env)::backTo pos (starEach es X.env))) _ _ s
 refine Calls.spliced_cons (thn (ha pins s σ H _ I h) fun u s1 ⟨x,H1,I1,r1,q1⟩ => ?_)
 exact thn (hr pos pins s1 σ H1 _ I1 q1) fun us s2 ⟨xs,H2,I2,r2,q2⟩=>⟨x::xs,H2,I2,.cons r1 r2,q2⟩
noncomputable def tTup (t:TA):TE:=fun σ H Q=>t σ H fun xs H1=>xs.length<=sizeLine/\∀ p,H1 p=none->Q (.ref p) (upd H1 p (.tup xs))
noncomputable def tLst (t:TA):TE:=fun σ H Q=>t σ H fun xs H1=>xs.length<=sizeLine/\∀ p,H1 p=none->Q (.ref p) (upd H1 p (.lst xs))
theorem pe_tup {x1} (h:PA X es t):PE X (.Tuple es x1 pos) (tTup t):=by
 intro pins s σ H Q I hq
 refine wpAny_Tuple_spliced (thn (h pos pins s σ H _ I hq) fun us s1 ⟨xs,H1,I1,r,z,q⟩=>⟨by rw[←r.length];exact z,?_⟩)
 have hf:H1 s1.heap.objs.size=none:=I1.hok.fresh (Nat.le_refl _)
 refine⟨.ref s1.heap.objs.size,upd H1 s1.heap.objs.size (.tup xs),I1.laid (t':=s1.toks) (fun b u e=>Heap.get?_push_of_some _ e) (Nat.le_refl _) ?_,rfl,q _ hf⟩
 exact⟨z,us,r,⟨_,Heap.get?_push_size _ rfl,rfl,_,rfl⟩⟩
theorem pe_lst (h:PA X es t):PE X (.List es pos) (tLst t):=by
 intro pins s σ H Q I hq
 refine wpAny_List_spliced (thn (h pos pins s σ H _ I hq) fun us s1 ⟨xs,H1,I1,r,z,q⟩=>⟨by rw[←r.length];exact z,?_⟩)
 have hf:H1 s1.heap.objs.size=none:=I1.hok.fresh (Nat.le_refl _)
 refine⟨.ref s1.heap.objs.size,upd H1 s1.heap.objs.size (.lst xs),I1.laid (t':=s1.toks) (fun b u e=>Heap.get?_push_of_some _ e) (Nat.le_refl _) ?_,rfl,q _ hf⟩
 exact⟨z,us,0,r,Heap.get?_push_size _ rfl⟩
end
abbrev Sp:=List V->Hp->VK->XK->Prop
abbrev CXT:=List Env->Hp->Shared->XK->Value->Shared->Prop
structure Env0 (P:Program) (w:World) (K:PySem.W.Frag) (mg:Str->Option Value) (base:Heap) (A:Around) (outer:List Env) (s:Shared) (H:Hp):Prop where
 frames:A.frames=some outer
 mod:Mod K mg base
 bs:∀ b o,base.get? b=some o->s.heap.get? b=some o/\H b=none
 bsz:base.objs.size<=s.heap.objs.size
 funs:s.heap.FunFrames base outer
 frf:∀ b ∈frs outer,H b=none
 hok:HOk P w H s.heap
 bare:AllBare s.gens
noncomputable def CE (outer:List Env) (P:Program) (w:World) (H:Hp) (s:Shared) (Q:VK) (u:Value) (s':Shared):Prop:=
 ∃ v H',s'.os=s.os/\AllBare s'.gens/\Un (frs outer) [] H H' s.heap s'.heap/\HOk P w H' s'.heap/\RelV v u/\Q v H'
noncomputable def CR (CX:CXT) (outer:List Env) (P:Program) (w:World) (H:Hp) (s:Shared) (Q:VK) (E:XK) (r:Result) (s':Shared):Prop:=
 match r with
 | .ok (.ret u)=>CE outer P w H s Q u s'
 | .ok _=>False
 | .error e=>CX outer H s E e s'
structure FnOk (P:Program) (w:World) (K:PySem.W.Frag) (mg:Str->Option Value) (base:Heap) (CX:CXT) (k:Nat) (f:Addr) (fd:FuncData) (ps:List Str) (sp:Sp):Prop where
 len:∀ vs H Q E,sp vs H Q E->vs.length=ps.length
 run:∀ (A:Around) (outer:List Env) (s:Shared) (H:Hp) (args:Args) (us:List Value) (vs:List V) (Q:VK) (E:XK),Room k A->Env0 P w K mg base A outer s H->BindsTo s fd args (ps.zip us)->Vals vs us->sp vs H Q E →
  codeAny (model P w) A (.call (.ref f) args) (CR CX outer P w H s Q E) s
section
variable {X:Cx} {pins:List (Addr×Obj)} {σ:St} {H:Hp} {s s':Shared}
theorem Inv.env0 (I:Inv X pins σ H s):Env0 X.prog X.w X.K X.mg X.base X.A X.stack s H:=
 ⟨I.ok.frames,I.ok.mod,I.bs,Nat.le_trans I.ok.bsz I.sz,I.stack,I.stkFree,I.hok,I.bare⟩
theorem Inv.after {Q:VK} {u:Value} (I:Inv X pins σ H s) (h:CE X.stack X.prog X.w H s Q u s'):EP X pins σ Q u s':=by
 obtain⟨v,H',os,bare,un,hok,r,q⟩:=h
 obtain⟨hh,g,d,t,os'⟩:=s'
 obtain rfl:os'=s.os:=os
 exact⟨v,H',I.call (h':=hh) (g':=g) (d':=d) (t':=t) (ch:=[]) un hok bare (fun b z=>absurd z (by simp)),r,q⟩
end
noncomputable def Binds (K:PySem.W.Frag) (fd:FuncData) (ps:List Str) (ds:List Value):Prop:=
 ∀ (s:Shared) (us:List Value),K.In s.heap->(us++ds).length=ps.length->BindsTo s fd ⟨us,[]⟩ (ps.zip (us++ds))
theorem Binds.all {K:PySem.W.Frag} {fd:FuncData} {ps:List Str} (h:∀ us:List Value,us.length=ps.length->bindArgs fd ⟨us,[]⟩=pure (ps.zip us)):Binds K fd ps []:=fun s us _ hl=>by
 rw[List.append_nil] at hl ⊢
 exact .of_eq (h us hl)
section
variable {X:Cx} {CX:CXT} {k:Nat} {f C:Addr} {fd:FuncData} {ps:List Str} {sp:Sp} {dvs:List V} {ds:List Value} {E:XK} {x m:Str} {p pos apos:Pos} {e o:Expr} {es:List Expr} {ta:TE} {t:TA}
end
section
variable {X:Cx} {CX:CXT} {k:Nat} {f C:Addr} {fd:FuncData} {ps ks:List Str} {sp:Sp} {E:XK} {x m:Str} {p pos apos kpos:Pos} {e o:Expr} {es:List Expr} {kws:List Keyword} {te ta:TE} {t tk:TA} {nm:Option Str}
variable {g:List Value->List Value->List Value} {gV:List V->List V->List V}
end
structure FnScope (N P:List Str) (sc:Scope):Prop where
 kind:sc.kind=.function
 co:sc.isCoroutine=false
 gen:sc.isGenerator=false
 nd:N.Nodup
 pre:N.take P.length=P
 par:∀ x ∈P,sc.names.lookup x=some .local\/sc.names.lookup x=some .cell
 nofree:∀ y ∈sc.names,y.2 ≠ .free
theorem bindL_out {kindOf:Str->Option NameKind} {x:Str} : ∀ {binds:List (Str×Value)} {m:Str->Option Value},(∀ v,(x,v) ∉ binds)->bindL kindOf binds m x=m x
 | [],_,_=>rfl
 | (n,v)::r,m,h=>by
  unfold bindL
  rw[bindL_out fun w hw=>h w (List.mem_cons_of_mem _ hw)]
  split
  ·have:x ≠ n:=by rintro rfl;exact h v List.mem_cons_self
   simp [this]
  ·rfl
theorem bindC_out {kindOf:Str->Option NameKind} {x:Str} : ∀ {binds:List (Str×Value)} {m:Str->Option Value},(∀ v,(x,v) ∉ binds)->bindC kindOf binds m x=m x
 | [],_,_=>rfl
 | (n,v)::r,m,h=>by
  unfold bindC
  rw[bindC_out fun w hw=>h w (List.mem_cons_of_mem _ hw)]
  split
  ·rfl
  ·have:x ≠ n:=by rintro rfl;exact h v List.mem_cons_self
   simp [this]
theorem bindL_get {kindOf:Str->Option NameKind} {x:Str} {v:Value} : ∀ {P:List Str} {vs:List Value} {i:Nat} {m:Str->Option Value},P.Nodup->P[i]? = some x->vs[i]? = some v->kindOf x=some .local →
  bindL kindOf (P.zip vs) m x=some v
 | [],_,_,_,_,h,_,_=>by simp at h
 | _::_,[],_,_,_,_,h,_=>by simp at h
 | p::P,w::vs,0,m,nd,h1,h2,hk=>by
  simp at h1 h2;subst h1;subst h2
  show bindL kindOf ((p,w)::P.zip vs) m p=_
  unfold bindL
  rw[bindL_out fun v hv=>(List.nodup_cons.mp nd).1 (List.of_mem_zip hv).1,if_pos hk]
  simp
 | p::P,w::vs,i+1,m,nd,h1,h2,hk=>by
  show bindL kindOf ((p,w)::P.zip vs) m x=_
  unfold bindL
  exact bindL_get (i:=i) (List.nodup_cons.mp nd).2 (by simpa using h1) (by simpa using h2) hk
theorem bindC_get {kindOf:Str->Option NameKind} {x:Str} {v:Value} : ∀ {P:List Str} {vs:List Value} {i:Nat} {m:Str->Option Value},P.Nodup->P[i]? = some x->vs[i]? = some v->kindOf x ≠ some .local →
  bindC kindOf (P.zip vs) m x=some v
 | [],_,_,_,_,h,_,_=>by simp at h
 | _::_,[],_,_,_,_,h,_=>by simp at h
 | p::P,w::vs,0,m,nd,h1,h2,hk=>by
  simp at h1 h2;subst h1;subst h2
  show bindC kindOf ((p,w)::P.zip vs) m p=_
  unfold bindC
  rw[bindC_out fun v hv=>(List.nodup_cons.mp nd).1 (List.of_mem_zip hv).1,if_neg hk]
  simp
 | p::P,w::vs,i+1,m,nd,h1,h2,hk=>by
  show bindC kindOf ((p,w)::P.zip vs) m x=_
  unfold bindC
  exact bindC_get (i:=i) (List.nodup_cons.mp nd).2 (by simpa using h1) (by simpa using h2) hk
noncomputable def start (N:List Str) (vs:List V):St:=vs.map some++List.replicate (N.length - vs.length) none
noncomputable def cxOf (CX:CXT) (P:Program) (w:World) (K:PySem.W.Frag) (mg:Str->Option Value) (base:Heap) (N:List Str) (qual:Str) (scope:Scope) (f:Addr) (cd:Value) (A:Around) (outer:List Env) (s:Shared) (H:Hp) (E:XK):Cx where
 prog:=P
 w:=w
 K:=K
 mg:=mg
 base:=base
 A:=A.deeper (envOfC qual scope s.heap.objs.size f cd)
 N:=N
 s₀:=s
 H₀:=H
 env:=envOfC qual scope s.heap.objs.size f cd
 outer:=outer
 stack:=envOfC qual scope s.heap.objs.size f cd::outer
 ex:=[]
 calm:=true
 fn:=fun _=>true
 pn:=[]
 xe:=fun e s'=>wpAny (model P w) (A.deeper (envOfC qual scope s.heap.objs.size f cd)) (leaving (envOfC qual scope s.heap.objs.size f cd) e) (fun _ s''=>CX outer H s E e s'') (fun e' s''=>CX outer H s E e' s'') s'
theorem cell_has {sc:Scope} {n:Nat} {x:Str} (h:sc.names.lookup x=some .cell):∃ c,(cellsFrom n sc.names []).lookup x=some c:=by
 have q:=PySem.W.cellsFrom_some sc.names n [] (.inl h)
 exact Option.isSome_iff_exists.mp q
theorem inv_start {CX:CXT} {P:Program} {w:World} {K:PySem.W.Frag} {mg:Str->Option Value} {base:Heap} {N ps:List Str} {qual:Str} {scope:Scope} {f:Addr} {cd:Value} {A:Around} {outer:List Env} {s s1:Shared} {H:Hp} {E:XK} {us:List Value} {vs:List V}
  (S:FnScope N ps scope) (hd:A.handled=none) (e0:Env0 P w K mg base A outer s H) (hl:vs.length=ps.length) (r:Vals vs us)
  (x:InCallC s s.heap.objs.size (bindL (envOfC qual scope s.heap.objs.size f cd).kindOf (ps.zip us) fun _=>none) (cellsFrom (s.heap.objs.size+1) scope.names []) (bindC (envOfC qual scope s.heap.objs.size f cd).kindOf (ps.zip us) fun _=>none) s1):
  Inv (cxOf CX P w K mg base N qual scope f cd A outer s H E) [] (start N vs) H s1:=by
 have hpl:ps.length<=N.length:=by have:=congrArg List.length S.pre;rw[List.length_take] at this;lia
 obtain⟨h1,tk,rfl,hk⟩:=x.done
 have noA:∀ b:Addr,b ∉ (cxOf CX P w K mg base N qual scope f cd A outer s H E).ex:=fun b z=>absurd (show b ∈([]:List Addr) from z) (by simp)
 refine⟨⟨e0.mod,S.kind,rfl,rfl,Nat.le_refl _,fun y z c h1 h2 => ?_,fun y hy => ?_,fun y c _ h => ?_,fun _=>hd,Around.frames_deeper e0.frames,.inr ⟨rfl,rfl⟩,fun b z=>absurd z (noA b),e0.bs,e0.bsz,fun b _ _=>noA b,fun b z=>absurd z (noA b),e0.funs,e0.frf⟩,
  rfl,e0.bare,Un.kept hk,⟨_,x.toInCall.ns,fun i y v h1 h2 h3 => ?_⟩,fun y c h=>⟨_,x.cell y c h⟩,e0.hok.fresh (Nat.le_refl _),fun y c h => ?_,fun p hp=>absurd (show p ∈([]:List (Addr×Obj)) from hp) (by simp),e0.hok.kept hk,?_⟩
 ·exact name_of_addr x.apart (PySem.mem_of_lookup h1) (PySem.mem_of_lookup h2)
 ·have hy:scope.names.lookup y=some .cell\/scope.names.lookup y=some .free:=hy
  rcases hy with hy | hy
  ·exact cell_has hy
  ·exact absurd rfl (S.nofree _ (PySem.mem_of_lookup hy))
 ·exact Nat.le_of_lt (x.above y c (PySem.mem_of_lookup h))
 ·have hi:i<vs.length:=by
   unfold start at h2
   by_cases hi:i<vs.length
   ·exact hi
   ·rw[List.getElem?_append_right (by simpa using hi)] at h2
    rw[List.getElem?_replicate] at h2
    split at h2<;>cases h2
  have ha:vs[i]? = some v:=by
   unfold start at h2
   rw[List.getElem?_append_left (by simpa using hi),List.getElem?_map] at h2
   cases e:vs[i]? with
   | none=>rw[e] at h2;cases h2
   | some a=>rw[e] at h2;cases h2;rfl
  obtain⟨u,hu,rv⟩:=r.get ha
  have hp:ps[i]? = some y:=by
   rw[←S.pre,List.getElem?_take_of_lt (by lia)];exact h1
  have ndP:ps.Nodup:=by rw[←S.pre];exact S.nd.sublist (List.take_sublist _ _)
  refine⟨u,rv,?_⟩
  rcases S.par y (List.mem_of_getElem? hp) with k | k
  ·exact .inl ⟨k,bindL_get ndP hp hu k⟩
  ·obtain⟨c,e⟩:=cell_has (n:=s.heap.objs.size+1) k
   refine .inr ⟨.inl k,c,e,?_⟩
   have q:=x.cell y c e
   rw[bindC_get ndP hp hu (by show scope.names.lookup y ≠ _;rw[k];decide)] at q
   exact q
 ·exact e0.hok.fresh (Nat.le_of_lt (x.above y c (PySem.mem_of_lookup h)))
 ·unfold start
  show _=N.length
  rw[List.length_append,List.length_map,List.length_replicate]
  lia
theorem fn_of {CX : CXT} {P : Program} {w : World} {K : PySem.W.Frag} {mg : Str → Option Value} {base : Heap} {k : Nat} {f : Addr} {name qual : Str} {params : Arguments} {body : List Stmt} {scope : Scope} {dV kV doc pm cdv ct oc : Value} {an od : Option Addr}
    {osl : Array (Option Value)} {N ps : List Str} {sp : Sp} (lk : K.lookup f = some ⟨oc, od, .func (PySem.W.fnOf name qual params body scope dV kV doc pm an cdv ct), osl⟩) (hcd : PySem.W.codeIn K cdv qual = true) (S : FnScope N ps scope)
    (len : ∀ vs H Q E, sp vs H Q E → vs.length = ps.length)
    (hbody : ∀ (A : Around) (outer : List Env) (s : Shared) (H : Hp) (vs : List V) (Q : VK) (E : XK), Room k (A.deeper (envOfC qual scope s.heap.objs.size f cdv)) → sp vs H Q E →
      ∃ t, PSs (cxOf CX P w K mg base N qual scope f cdv A outer s H E) body t ∧ t { nx := fun _ H' => Q .non H', rt := Q } (start N vs) H) :
    FnOk P w K mg base CX (k + 1) f (PySem.W.fnOf name qual params body scope dV kV doc pm an cdv ct) ps sp := by
  refine ⟨len, fun A outer s H args us vs Q E hr e0 hb r hsp => ?_⟩
  have hl := len _ _ _ _ hsp
  have KX : K.In s.heap := e0.mod.kin.keeps fun b o e => (e0.bs b o e).1
  have lim : s.heap.NoLimit := e0.mod.nolimit.keeps fun b o e => (e0.bs b o e).1
  have hkind : ∀ y ∈ ps.zip us, scope.names.lookup y.1 = some .local ∨ (scope.names.lookup y.1 = some .cell ∧ ((cellsFrom (s.heap.objs.size + 1) scope.names []).lookup y.1).isSome = true) := fun ⟨n, v⟩ hy => by
    rcases S.par n (List.of_mem_zip hy).1 with q | q
    · exact .inl q
    · exact .inr ⟨q, PySem.W.cellsFrom_some _ _ _ (.inl q)⟩
  refine codeAny_call_function hr.depth (KX _ _ lk) rfl S.co S.gen rfl (PySem.W.codeRec_of KX hcd) (hb _ _ _ _ ?_)
  refine wpAny_newFunctionEnv_cells S.kind hkind fun env he s1 x => ?_
  subst he
  refine ⟨lim.keeps x.toInCall.keep, codeAny_func ?_⟩
  obtain ⟨t, ht, hq⟩ := hbody A outer s H vs Q E (hr.deeper _) hsp
  have I : Inv (cxOf CX P w K mg base N qual scope f cdv A outer s H E) [] (start N vs) H s1 := inv_start S hr.hd e0 hl r x
  refine wpAny_mono (ht [] s1 (start N vs) H _ I hq) (fun fl s' hs => ?_) fun e s' hs => hs
  have fin : ∀ {σ' : St} {H' : Hp} {v : V} {u : Value}, Inv (cxOf CX P w K mg base N qual scope f cdv A outer s H E) [] σ' H' s' → RelV v u → Q v H' → CE outer P w H s Q u s' :=
    fun {σ' H' v u} J rv q => ⟨v, H', J.os, J.bare, J.base, J.hok, rv, q⟩
  cases fl with
  | ret u =>
    obtain ⟨v, σ', H', J, rv, q⟩ := hs
    exact fin J rv q
  | next =>
    obtain ⟨σ', H', J, q⟩ := hs
    exact fin (v := V.non) (u := Value.none) J rfl q
  | brk =>
    obtain ⟨_, _, _, q⟩ := hs
    exact False.elim q
  | cont =>
    obtain ⟨_, _, _, q⟩ := hs
    exact False.elim q
end L2
namespace L2
open PySem PySem.Spec PyProof.Rows
section
variable {X:Cx} {x:Str} {p pos:Pos} {e:Expr} {es:List Expr} {t:TA} {id T:String} {r:List V->Hp->VK->Prop}
noncomputable def tCB (r:List V->Hp->VK->Prop) (t:TA):TE:=fun σ H Q=>t σ H fun vs H1=>r vs H1 Q
theorem pe_callB (hc:CallR X (.builtin id) r) (hg:Gl X x) (hm:X.mg x=none) (hv:bootBuiltins x=some (.builtin id)) (ha:PA X (e::es) t) (hn:x ≠ "__name__":=by decide) (hdb:(x == ("__debug__" : Str))=false:=by decide)
  (he:starEach (e::es) X.env=(false,eval e X.env)::starEach es X.env:=by rfl) (hpl:(backTo pos (starEach es X.env)).any (·.1)=false:=by rfl):PE X (.Call (.Name x p) (e::es) [] pos) (tCB r t):=by
 intro pins s σ H Q I h
 refine wpAny_Call_Name_kw (ld_blt I hg hm hv ?_ hn hdb)
 exact PyProof.Rows.callWith_builtin1 (thn (ha pos pins s σ H _ I h) fun us s1 ⟨vs,H1,I1,r1,q1⟩=>hc pins s1 σ H1 vs us Q I1 r1 q1) he hpl
theorem pe_callTy (hc:CallR X (.type T) r) (hg:Gl X x) (hm:X.mg x=none) (hv:bootBuiltins x=some (.type T)) (ha:PA X (e::es) t) (hn:x ≠ "__name__":=by decide) (hdb:(x == ("__debug__" : Str))=false:=by decide)
  (he:starEach (e::es) X.env=(false,eval e X.env)::starEach es X.env:=by rfl) (hpl:(backTo pos (starEach es X.env)).any (·.1)=false:=by rfl):PE X (.Call (.Name x p) (e::es) [] pos) (tCB r t):=by
 intro pins s σ H Q I h
 refine wpAny_Call_Name_kw (ld_blt I hg hm hv ?_ hn hdb)
 exact PyProof.Rows.callWith_type1 (thn (ha pos pins s σ H _ I h) fun us s1 ⟨vs,H1,I1,r1,q1⟩=>hc pins s1 σ H1 vs us Q I1 r1 q1) he hpl
end
end L2
namespace HT
open PySem PyProof.Rows
section
open PySem.SeqAt
open PySem.AutoSeq1 (wpAny_loadPart')
open PySem.MeetsSeq PySem.MeetsSeq2 PySem.MeetsSeq3
end
section
variable {prog:Program} {w:World} {A:Around} {E:Value->Shared->Prop} {s:Shared}
noncomputable def sIx (n d:Nat):Option Int->Nat
 | none=>d
 | some v=>if v<0 then (v+(n:Int)).toNat else min v.toNat n
theorem sIx_le (n d:Nat) (hd:d<=n) (o:Option Int):sIx n d o<=n:=by
 cases o with
 | none=>exact hd
 | some v=>
  show (if v<0 then (v+(n:Int)).toNat else min v.toNat n)<=n
  by_cases hv:v<0
  ·rw[if_pos hv];lia
  ·rw[if_neg hv];exact Nat.min_le_right _ _
theorem clip_eq (v:Int) (n d:Nat):(if v<0 then max (v+(n:Int)) 0 else min v (n:Int))=((sIx n d (some v):Nat):Int):=by
 show (if v<0 then max (v+(n:Int)) 0 else min v (n:Int))=(((if v<0 then (v+(n:Int)).toNat else min v.toNat n):Nat):Int)
 by_cases hv:v<0
 ·simp only[if_pos hv];lia
 ·simp only[if_neg hv];lia
theorem adjust_gen (lo hi:Option Int) (n:Nat):Builtin.Slice.sliceAdjust lo hi 1 (n:Int)=(((sIx n 0 lo:Nat):Int),((sIx n n hi:Nat):Int)):=by
 have h1:¬ ((1:Int)<0):=by lia
 unfold Builtin.Slice.sliceAdjust
 simp only[h1,if_false]
 refine Prod.ext ?_ ?_
 ·cases lo with
  | none=>rfl
  | some v=>exact clip_eq v n 0
 ·cases hi with
  | none=>rfl
  | some v=>exact clip_eq v n n
theorem places_gen (i j:Nat):Builtin.Slice.slicePlaces (i:Int) (j:Int) 1=j - i:=by
 unfold Builtin.Slice.slicePlaces
 have h1:(1:Int) > 0:=by lia
 simp only[h1,if_true,Int.ediv_one]
 split<;>lia
theorem slicePart_ {v:Value} {o:Option Int} {Q:Option Int->Shared->Prop} (p:IsPart v o) (h:Q o s):wpAny (model prog w) A (Builtin.Slice.slicePartIndex v) Q E s:=by
 cases p with
 | none=>exact slicePart_none h
 | int i t=>exact slicePart_int h
theorem sliceApplied_gen {sl:Addr} {vl vu:Value} {lo hi:Option Int} {n:Nat} {Q:Int×Int×Nat->Shared->Prop} (hs:s.heap.IsSliceOf sl vl vu .none) (pl:IsPart vl lo) (pu:IsPart vu hi)
  (h:Q (((sIx n 0 lo:Nat):Int),1,sIx n n hi - sIx n 0 lo) s):wpAny (model prog w) A (Builtin.Slice.sliceApplied (.ref sl) (pure (n:Int))) Q E s:=by
 obtain⟨os,hos,hcs,hds⟩:=id hs
 unfold Builtin.Slice.sliceApplied Builtin.Slice.sliceFields
 refine wpAny_bind (wpAny_bind (wpAny_field hos hds (x:=vl) rfl (wpAny_bind (wpAny_field hos hds (x:=vu) rfl (wpAny_bind (wpAny_field hos hds (x:=.none) rfl (wpAny_pure ?_)))))))
 refine wpAny_bind (slicePart_none ?_)
 show wpAny _ _ (if ((1:Int) == 0)=true then _ else _) _ _ s
 rw[if_neg (by decide)]
 refine wpAny_bind (slicePart_ pl (wpAny_bind (slicePart_ pu (wpAny_bind (wpAny_pure ?_)))))
 show wpAny _ _ (match Builtin.Slice.sliceAdjust lo hi 1 (n:Int) with | (lo,hi)=>pure (lo,(1:Int),Builtin.Slice.slicePlaces lo hi 1)) _ _ s
 rw[adjust_gen lo hi n]
 show wpAny _ _ (pure (((sIx n 0 lo:Nat):Int),(1:Int),Builtin.Slice.slicePlaces ((sIx n 0 lo:Nat):Int) ((sIx n n hi:Nat):Int) 1)) _ _ s
 rw[places_gen]
 exact wpAny_pure h
theorem pick_gen (xs:Array Value) (i k:Nat):((List.range k).filterMap fun (m:Nat)=>xs[((i:Int)+(m:Int) * 1).toNat]?).toArray=((xs.toList.drop i).take k).toArray:=by
 have e:(fun (m:Nat)=>xs[((i:Int)+(m:Int) * 1).toNat]?)=fun m=>xs[i+m]? := by
  funext m
  have:((i:Int)+(m:Int) * 1).toNat=i+m:=by lia
  rw[this]
 rw[e]
 have:=pick_run xs i k
 rw[List.filterMap_map] at this
 have e2:((fun x=>xs[x]?) ∘ fun x=>i+x)=fun m=>xs[i+m]? := rfl
 rw[e2] at this
 rw[this]
theorem getItem_tuple_cut {t sl:Addr} {items:Array Value} {vl vu:Value} {lo hi:Option Int} {Q:Value->Shared->Prop} (ht:IsTup s.heap t items) (hs:s.heap.IsSliceOf sl vl vu .none) (pl:IsPart vl lo) (pu:IsPart vu hi)
  (hw:¬ (sIx items.size 0 lo=0/\sIx items.size items.size hi=items.size))
  (h:Q (.ref s.heap.objs.size) { s with heap:=s.heap.push { cls:=.type "tuple",data:=.seq ((items.toList.drop (sIx items.size 0 lo)).take (sIx items.size items.size hi - sIx items.size 0 lo)).toArray } })
  (hsz:items.size<=sizeLine):wpAny (model prog w) A (getItem (.ref t) (.ref sl)) Q E s:=by
 have htake:sizeOk (.seq ((items.toList.drop (sIx items.size 0 lo)).take (sIx items.size items.size hi - sIx items.size 0 lo)).toArray):=by
  show ((items.toList.drop (sIx items.size 0 lo)).take (sIx items.size items.size hi - sIx items.size 0 lo)).toArray.size<=sizeLine
  rw[List.size_toArray,List.length_take,List.length_drop,Array.length_toList]
  omega
 have hj:sIx items.size items.size hi<=items.size:=sIx_le _ _ (Nat.le_refl _) hi
 obtain⟨os,hos,hcs,hds⟩:=id hs
 have hTs:s.TypeIs (.ref sl) "slice":=⟨os,hos,hcs⟩
 unfold getItem
 try with_reducible refine wpAny_holding ?_
 first | refine wpAny_bind (wpAny_pure ?_) | skip
 refine wpAny_bind (wpAny_sequenceKey ht.typeIs (by decide) ?_)
 refine wpAny_bind (wpAny_callSpecial?_slot (name:=Str.ofString "__getitem__") ht.typeIs PyProof.Rows.slot_tuple_getitem
  (wpAny_call_entry PyProof.Rows.slot_tuple_getitem ht.typeIs entry_tuple_getitem ?_ (args_tuple_getitem _ _)))
 show wpAny _ _ (Builtin.Tuple.tupleItemsOf (.ref t) >>= _) _ _ s
 refine wpAny_bind (tupleItemsOf_ ht ?_)
 refine wpAny_bind (wpAny_typeOf hTs ?_)
 rw[if_pos (by decide)]
 refine wpAny_bind (sliceApplied_gen hs pl pu ?_)
 have hno:¬ ((((sIx items.size 0 lo:Nat):Int) == 0 && (1:Int) == 1 && (sIx items.size items.size hi - sIx items.size 0 lo) == items.size)=true):=by
  intro q
  rw[Bool.and_eq_true,Bool.and_eq_true] at q
  have q1:((sIx items.size 0 lo:Nat):Int)=0:=eq_of_beq q.1.1
  have q2:sIx items.size items.size hi - sIx items.size 0 lo=items.size:=eq_of_beq q.2
  exact hw ⟨by omega,by omega⟩
 show wpAny _ _ (if (((sIx items.size 0 lo:Nat):Int) == 0 && (1:Int) == 1 && (sIx items.size items.size hi - sIx items.size 0 lo) == items.size)=true then _ else _) _ _ s
 rw[if_neg hno,pick_gen]
 first
  | exact wpAny_bind (m:=Builtin.Tuple.tupleExact _) (wpAny_newObj_type (wpAny_pure ⟨_,rfl,wpAny_pure h⟩) htake)
  | exact wpAny_bind (m:=Builtin.Tuple.tupleExact _) (wpAny_newObj_type (wpAny_bind (wpAny_pure (wpAny_pure ⟨_,rfl,wpAny_pure h⟩))) htake)
  | exact wpAny_bind (wpAny_bind (m:=Builtin.Tuple.tupleExact _) (wpAny_newObj_type (wpAny_pure (wpAny_pure ⟨_,rfl,wpAny_pure h⟩)) htake))
  | exact wpAny_bind (wpAny_bind (m:=Builtin.Tuple.tupleExact _) (wpAny_newObj_type (wpAny_pure ⟨_,rfl,wpAny_pure h⟩) htake))
end
end HT
namespace L2
open PySem PySem.Spec PyProof.Rows
abbrev TO:=St->Hp->(Option Int->Hp->Prop)->Prop
noncomputable def PO (X:Cx) (e:Option Expr) (t:TO):Prop:=
 ∀ (pins:List (Addr×Obj)) (s:Shared) (σ:St) (H:Hp) (Q:Option Int->Hp->Prop),Inv X pins σ H s->t σ H Q →
  wpAny (model X.prog X.w) X.A (evalPart e X.env) (fun u s'=>∃ o H',Inv X pins σ H' s'/\IsPart u o/\Q o H') X.xe s
noncomputable def tNoPart:TO:=fun _ H Q=>Q none H
noncomputable def tPart (t:TE):TO:=fun σ H Q=>t σ H fun x H1=>∃ i,x=.int i/\Q (some i) H1
section
variable {X:Cx} {e:Expr} {te:TE} {lo hi:Option Expr} {tl th:TO} {pos p2:Pos}
theorem po_none:PO X none tNoPart:=by
 intro pins s σ H Q I h
 rw[evalPart_none]
 exact wpAny_pure ⟨none,H,I,.none,h⟩
theorem po_some (h:PE X e te):PO X (some e) (tPart te):=by
 intro pins s σ H Q I hw
 rw[evalPart_some]
 refine thn (h pins s σ H _ I hw) fun u s1 ⟨x,H1,I1,r1,q1⟩ => ?_
 obtain⟨i,rfl,q⟩:=q1
 obtain⟨t,rfl⟩:=r1
 exact⟨some i,H1,I1,.int i t,q⟩
noncomputable def SlR (X:Cx) (r:V->Option Int->Option Int->Hp->VK->Prop):Prop:=
 ∀ (pins:List (Addr×Obj)) (s:Shared) (σ:St) (H:Hp) (x:V) (v vl vu:Value) (lo hi:Option Int) (sl:Addr) (Q:VK),Inv X pins σ H s->RelV x v->s.heap.IsSliceOf sl vl vu .none->IsPart vl lo->IsPart vu hi->r x lo hi H Q →
  ∃ T id,typeLookup (.type T) "__getitem__" = pure (some (.builtin id))/\s.TypeIs v T/\wpAny (model X.prog X.w) X.A (getItem v (.ref sl)) (EP X pins σ Q) X.xe s
theorem SlR.or {r r':V->Option Int->Option Int->Hp->VK->Prop} (h:SlR X r) (h':SlR X r'):SlR X (fun x lo hi H Q=>r x lo hi H Q\/r' x lo hi H Q):=by
 intro pins s σ H x v vl vu lo hi sl Q I rx hs pl pu q
 rcases q with q | q
 ·exact h pins s σ H x v vl vu lo hi sl Q I rx hs pl pu q
 ·exact h' pins s σ H x v vl vu lo hi sl Q I rx hs pl pu q
noncomputable def tSl (r:V->Option Int->Option Int->Hp->VK->Prop) (te:TE) (tl th:TO):TE:=fun σ H Q=>te σ H fun x H1=>tl σ H1 fun l H2=>th σ H2 fun u H3=>r x l u H3 Q
theorem pe_slice {r:V->Option Int->Option Int->Hp->VK->Prop} (hr:SlR X r) (he:PE X e te) (hl:PO X lo tl) (hu:PO X hi th):PE X (.Subscript e (.Slice lo hi none p2) pos) (tSl r te tl th):=by
 intro pins s σ H Q I h
 refine Subscript_ (thn (he pins s σ H _ I h) fun v s1 ⟨x,H1,I1,r1,q1⟩ => ?_)
 refine wpAny_Slice (thn (hl pins s1 σ H1 _ I1 q1) fun vl s2 ⟨l,H2,I2,pl,q2⟩=>thn (hu pins s2 σ H2 _ I2 q2) fun vu s3 ⟨u,H3,I3,pu,q3⟩ => ?_)
 rw[evalPart_none]
 refine wpAny_pure ?_
 have I4:Inv X pins σ H3 { s3 with heap:=s3.heap.push { cls:=.type "slice",data:=.fields #[vl,vu,.none] } }:=I3.kept (t':=s3.toks) fun b ob q=>Heap.get?_push_of_some _ q
 obtain⟨T,id,hT,ht,hg⟩:=hr pins { s3 with heap:=s3.heap.push { cls:=.type "slice",data:=.fields #[vl,vu,.none] } } σ H3 x v vl vu l u s3.heap.objs.size Q I4 r1 (Heap.IsSliceOf.new ..) pl pu q3
 show wpAny (model X.prog X.w) X.A (subscriptTail e (.Slice lo hi none p2) v (.ref s3.heap.objs.size)) (EP X pins σ Q) X.xe { s3 with heap:=s3.heap.push { cls:=.type "slice",data:=.fields #[vl,vu,.none] } }
 exact tail_any (ops:=[.ref s3.heap.objs.size,v]) ht hT hg (by with_unfolding_all rfl)
noncomputable def cutV (xs:List V) (lo hi:Option Int):List V:=(xs.drop (HT.sIx xs.length 0 lo)).take (HT.sIx xs.length xs.length hi - HT.sIx xs.length 0 lo)
theorem cutV_length (xs:List V) (lo hi:Option Int):(cutV xs lo hi).length<=xs.length:=by
 unfold cutV
 rw[List.length_take,List.length_drop]
 lia
noncomputable def rSlT (K:PySem.W.Frag):V->Option Int->Option Int->Hp->VK->Prop:=fun x lo hi H Q=>∃ a xs,x=.ref a/\SqT K H a xs ∧
 ¬ (HT.sIx xs.length 0 lo=0/\HT.sIx xs.length xs.length hi=xs.length)/\∀ p,H p=none->Q (.ref p) (upd H p (.tup (cutV xs lo hi)))
theorem sl_tup:SlR X (rSlT X.K):=by
 intro pins s σ H x v vl vu lo hi sl Q I rx hs pl pu h
 obtain⟨a,xs,rfl,hx,hw,q⟩:=h
 cases rx
 obtain⟨its,r,ht,hz⟩:=I.tuple hx
 have hlen:its.toArray.size=xs.length:=by rw[List.size_toArray];exact r.length.symm
 refine⟨"tuple",_,PyProof.Rows.slot_tuple_getitem.lookup,ht.typeIs,?_⟩
 refine HT.getItem_tuple_cut ht hs pl pu (by rw[hlen];exact hw) ?_ (by rw[hlen];exact hz)
 rw[hlen]
 refine⟨.ref s.heap.objs.size,_,I.laid (t':=s.toks) (o:=.tup (cutV xs lo hi)) (fun b ob q=>Heap.get?_push_of_some _ q) (Nat.le_refl _) ?_,rfl,q _ (I.hok.fresh (Nat.le_refl _))⟩
 exact⟨Nat.le_trans (cutV_length xs lo hi) hz,_,(r.drop (HT.sIx xs.length 0 lo)).take (HT.sIx xs.length xs.length hi - HT.sIx xs.length 0 lo),IsTup.new _ _⟩
end
end L2
namespace L2
open PySem PySem.Spec PyProof.Rows
noncomputable def ixN (n:Nat) (i:Int):Option Nat:=if 0<=i then (if i<n then some i.toNat else none) else if -(n:Int)<=i then some (i+n).toNat else none
noncomputable def atI {α:Type} (xs:List α) (i:Int):Option α:=(ixN xs.length i).bind fun j=>xs[j]?
theorem ixN_seq {n:Nat} {i:Int} {j:Nat} (h:ixN n i=some j):seqIndex? i n=some j/\j<n ∧ -(n:Int)<=i/\i<n:=by
 unfold ixN at h
 by_cases h0:0<=i
 ·rw[if_pos h0] at h
  by_cases h1:i<n
  ·rw[if_pos h1] at h
   have e:i.toNat=j:=Option.some.inj h
   exact⟨by rw[seqIndex_of h0 h1,e],by lia,by lia,h1⟩
  ·rw[if_neg h1] at h;cases h
 ·rw[if_neg h0] at h
  by_cases h1 : -(n:Int)<=i
  ·rw[if_pos h1] at h
   have e:(i+n).toNat=j:=Option.some.inj h
   exact⟨by rw[seqIndex_neg (by lia) h1,e],by lia,h1,by lia⟩
  ·rw[if_neg h1] at h;cases h
theorem atI_get {α:Type} {xs:List α} {i:Int} {v:α} (h:atI xs i=some v):∃ j,seqIndex? i xs.length=some j/\xs[j]? = some v/\j<xs.length ∧ -(xs.length:Int)<=i/\i<xs.length:=by
 unfold atI at h
 cases e:ixN xs.length i with
 | none=>rw[e] at h;cases h
 | some j=>
  rw[e] at h
  obtain⟨h1,h2,h3,h4⟩:=ixN_seq e
  exact⟨j,h1,h,h2,h3,h4⟩
noncomputable def PlainIx (b:Expr):Prop:=∀ o i,subscripted b false o i=operate [o,i] (getItem o i)
noncomputable def IxR (X:Cx) (r:R2):Prop:=
 ∀ (value slice:Expr) (pins:List (Addr×Obj)) (s:Shared) (σ:St) (H:Hp) (x y:V) (v u:Value) (Q:VK),Inv X pins σ H s->RelV x v->RelV y u->r x y H Q →
  subscripted slice false v u=operate [v,u] (getItem v u)->wpAny (model X.prog X.w) X.A (subscriptTail value slice v u) (EP X pins σ Q) X.xe s
noncomputable def MtR (X:Cx) (id:String) (r:V->List V->Hp->VK->Prop):Prop:=
 ∀ (pins:List (Addr×Obj)) (s:Shared) (σ:St) (H:Hp) (x:V) (xs:List V) (v:Value) (us:List Value) (Q:VK),Inv X pins σ H s->RelV x v->Vals xs us->r x xs H Q →
  wpAny (model X.prog X.w) X.A (call (.builtin id) (v::us)) (EP X pins σ Q) X.xe s
section
variable {X:Cx} {a b:Expr} {ta tb:TE} {pos:Pos}
theorem IxR.or {r r':R2} (h:IxR X r) (h':IxR X r'):IxR X (fun x y H Q=>r x y H Q\/r' x y H Q):=by
 intro value slice pins s σ H x y v u Q I rx ry q hs
 rcases q with q | q
 ·exact h value slice pins s σ H x y v u Q I rx ry q hs
 ·exact h' value slice pins s σ H x y v u Q I rx ry q hs
theorem pe_ix {r:R2} (hr:IxR X r) (ha:PE X a ta) (hb:PE X b tb) (hs:PlainIx b):PE X (.Subscript a b pos) (tOp r ta tb):=by
 intro pins s σ H Q I h
 exact Subscript_ (binT ha hb I h fun v u s2 x y H2 I2 rx ry q=>hr a b pins s2 σ H2 x y v u Q I2 rx ry q (hs _ _))
noncomputable def rIxL (K:PySem.W.Frag):R2:=fun x y H Q=>∃ p xs i v,x=.ref p/\y=.int i/\SqL K H p xs/\atI xs i=some v/\Q v H
noncomputable def rIxT (K:PySem.W.Frag):R2:=fun x y H Q=>∃ p xs i v,x=.ref p/\y=.int i/\SqT K H p xs/\atI xs i=some v/\Q v H
noncomputable def rIxS:R2:=fun x y H Q=>∃ z i c,x=.str z/\y=.int i/\z.length<=sizeLine/\atI z.cps.toList i=some c/\Q (.str ⟨#[c]⟩) H
theorem ix_list:IxR X (rIxL X.K):=by
 intro value slice pins s σ H x y v u Q I rx ry h hs
 obtain⟨p,xs,i,z,rfl,rfl,hq,he,q⟩:=h
 cases rx
 obtain⟨t,rfl⟩:=ry
 obtain⟨its,r,pl,hz⟩:=I.list hq
 obtain⟨j,h1,h2,h3,h4,h5⟩:=atI_get he
 obtain⟨w,ew,rw'⟩:=r.get h2
 have hl:=r.length
 have hn:=line63
 have fin:EP X pins σ Q w s:=⟨z,H,I,rw',q⟩
 by_cases h0:0<=i
 ·have hj:i.toNat=j:=by
   rw[seqIndex_of h0 h5] at h1
   exact Option.some.inj h1
  exact item_listR pl.isList h0 (by lia) (by rw[hj];simpa using ew) fin hs
 ·have hj:(i+(its.toArray.size:Int)).toNat=j:=by
   rw[seqIndex_neg (by lia) h4] at h1
   rw[List.size_toArray,←hl]
   exact Option.some.inj h1
  exact subscriptTail_builtinR (x:=w) pl.isList.typeIs slot_list_getitem.lookup
   (wpAny_getItem_list_neg (Q:=fun r s'=>r=w/\EP X pins σ Q r s') pl.isList (by lia) (by rw[List.size_toArray]<;>lia) (by lia) (by rw[hj];simpa using ew) ⟨rfl,fin⟩) hs
theorem ix_tup:IxR X (rIxT X.K):=by
 intro value slice pins s σ H x y v u Q I rx ry h hs
 obtain⟨p,xs,i,z,rfl,rfl,hq,he,q⟩:=h
 cases rx
 obtain⟨t,rfl⟩:=ry
 obtain⟨its,r,pl,hz⟩:=I.tuple hq
 obtain⟨j,h1,h2,h3,h4,h5⟩:=atI_get he
 obtain⟨w,ew,rw'⟩:=r.get h2
 have hl:=r.length
 have hn:=line63
 have fin:EP X pins σ Q w s:=⟨z,H,I,rw',q⟩
 exact subscriptTail_builtinR (x:=w) pl.typeIs slot_tuple_getitem.lookup
  (getItem_tuple (j:=j) (Q:=fun r s'=>r=w/\EP X pins σ Q r s') pl (by lia) (by lia) (by rw[List.size_toArray,←hl];exact h1) (by simpa using ew) ⟨rfl,fin⟩) hs
theorem ix_str:IxR X rIxS:=by
 intro value slice pins s σ H x y v u Q I rx ry h hs
 obtain⟨z,i,c,rfl,rfl,hz,he,q⟩:=h
 obtain⟨t,rfl⟩:=rx
 obtain⟨t',rfl⟩:=ry
 obtain⟨j,h1,h2,h3,h4,h5⟩:=atI_get he
 have hl:z.cps.toList.length=z.length:=by simp [Str.length]
 rw[hl] at h1 h4 h5
 have hn:=line63
 exact tail_any (typeIs_str s z t) slot_str_getitem.lookup (getItem_str (c:=c) (by
  have e1:decide (i < -(2 ^ 63:Int))=false:=decide_eq_false (by lia)
  have e2:decide (i ≥ 2 ^ 63)=false:=decide_eq_false (by lia)
  rw[e1,e2,Bool.or_false]) (by rw[h1];simpa using h2) ⟨.str ⟨#[c]⟩,H,I.tok _,⟨_,rfl⟩,q⟩) hs
noncomputable def rIx (K:PySem.W.Frag):R2:=fun x y H Q=>rIxL K x y H Q\/rIxT K x y H Q\/rIxS x y H Q
theorem ix_seq:IxR X (rIx X.K):=ix_list.or (ix_tup.or ix_str)
theorem slice_bounds (lo hi:Option Int) (n:Nat):(sliceBounds lo hi none n).1=((HT.sIx n 0 lo:Nat):Int)/\(sliceBounds lo hi none n).2.1=((HT.sIx n n hi:Nat):Int)/\(sliceBounds lo hi none n).2.2=1:=by
 refine⟨?_,?_,rfl⟩
 ·cases lo with
  | none=>simp [sliceBounds,HT.sIx]
  | some i=>
   simp only[sliceBounds,HT.sIx,Option.getD_none,show (1:Int) > 0 by decide,if_true]
   by_cases h:i<0
   ·simp only[h,if_true]<;>lia
   ·simp only[h,if_false]<;>lia
 ·cases hi with
  | none=>simp [sliceBounds,HT.sIx]
  | some i=>
   simp only[sliceBounds,HT.sIx,Option.getD_none,show (1:Int) > 0 by decide,if_true]
   by_cases h:i<0
   ·simp only[h,if_true]<;>lia
   ·simp only[h,if_false]<;>lia
theorem slicePick_cut (its:List Value) (lo hi:Option Int):slicePick its.toArray lo hi none=((its.drop (HT.sIx its.length 0 lo)).take (HT.sIx its.length its.length hi - HT.sIx its.length 0 lo)).toArray:=by
 obtain⟨h1,h2,h3⟩:=slice_bounds lo hi its.toArray.size
 unfold slicePick
 rw[h1,h2,h3]
 simp only[sliceRange_one,pick_run,List.size_toArray]<;>rfl
noncomputable def rSlL (K:PySem.W.Frag):V->Option Int->Option Int->Hp->VK->Prop:=fun x lo hi H Q=>∃ a xs,x=.ref a/\SqL K H a xs/\∀ p,H p=none->Q (.ref p) (upd H p (.lst (cutV xs lo hi)))
theorem sl_list:SlR X (rSlL X.K):=by
 intro pins s σ H x v vl vu lo hi sl Q I rx hs pl pu h
 obtain⟨a,xs,rfl,hx,q⟩:=h
 cases rx
 obtain⟨its,r,ht,hz⟩:=I.list hx
 have hlen:=r.length
 refine⟨"list",_,slot_list_getitem.lookup,ht.isList.typeIs,?_⟩
 refine wpAny_getItem_list_slice ht.isList hs pl pu .none (by simp) ?_ (by rw[List.size_toArray]<;>lia)
 rw[slicePick_cut,←hlen]
 refine⟨.ref s.heap.objs.size,_,I.laid (t':=s.toks) (o:=.lst (cutV xs lo hi)) (fun b ob q=>Heap.get?_push_of_some _ q) (Nat.le_refl _) ?_,rfl,q _ (I.hok.fresh (Nat.le_refl _))⟩
 exact⟨Nat.le_trans (cutV_length xs lo hi) hz,_,0,(r.drop (HT.sIx xs.length 0 lo)).take (HT.sIx xs.length xs.length hi - HT.sIx xs.length 0 lo),Heap.get?_push_size _ rfl⟩
theorem call_list_of:CallR X (.type "list") (fun xs H Q=>∃ p ys,xs=[.ref p]/\(SqL X.K H p ys\/SqT X.K H p ys)/\∀ l,H l=none->Q (.ref l) (upd H l (.lst ys))):=by
 intro pins s σ H xs us Q I r h
 obtain⟨p,ys,rfl,hq,q⟩:=h
 obtain⟨u,rfl,rx⟩:=vals1 r
 cases rx
 have fin:∀ (its:List Value),Vals ys its->ys.length<=sizeLine->∀ (h':Heap) (c':Nat),(∀ b o',s.heap.get? b=some o'->h'.get? b=some o') →
   h'.get? s.heap.objs.size=some { cls:=.type "list",dict:=none,data:=.seq its.toArray c',slots:=#[] } -> EP X pins σ Q (.ref s.heap.objs.size) { s with heap:=h' }:=fun its r' hz h' c' kp e=>
  ⟨.ref s.heap.objs.size,_,I.laid (t':=s.toks) kp (Nat.le_refl _) (show ObjOk X.prog X.w _ h' _ (.lst ys) from⟨hz,its,c',r',e⟩),rfl,q _ (I.hok.fresh (Nat.le_refl _))⟩
 rcases hq with hq | hq
 ·obtain⟨its,r',pl,hz⟩:=I.list hq
  have hlen:=r'.length
  obtain⟨o,ho,hc,n,hd⟩:=pl.isList
  exact call_list_seq p (.inl rfl) ho hc hd (fun h' c' kp e=>fin its r' hz h' c' kp e) (by simp only[List.size_toArray]<;>lia)
 ·obtain⟨its,r',pl,hz⟩:=I.tuple hq
  have hlen:=r'.length
  obtain⟨o,ho,hc,n,hd⟩:=pl
  exact call_list_seq p (.inr rfl) ho hc hd (fun h' c' kp e=>fin its r' hz h' c' kp e) (by simp only[List.size_toArray]<;>lia)
noncomputable def tyV (K:PySem.W.Frag) (T:String) (x:V) (H:Hp):Prop:=match x with
 | .str _=>T = "str"
 | .int _=>T = "int"
 | .ref p=>(T = "list" ∧ ∃ xs,SqL K H p xs)\/(T = "tuple" ∧ ∃ o,K.lookup p=some o/\o.cls=.type "tuple" ∧ o.dict=none) ∨
   (T = "dict" ∧ ((∃ kvs,H p=some (.dK kvs))\/∃ kvs,H p=some (.dT kvs)))\/(T = "set" ∧ ∃ S n,H p=some (.set S n))
 | _=>False
theorem tyV_is {pins:List (Addr×Obj)} {σ:St} {H:Hp} {s:Shared} {T:String} {x:V} {v:Value} (I:Inv X pins σ H s) (r:RelV x v) (ty:tyV X.K T x H):
  s.TypeIs v T/\∀ a,v=.ref a->∃ ob,s.heap.get? a=some ob/\ob.dict=none:=by
 cases x with
 | str z=>
  obtain⟨t,rfl⟩:=r
  cases (show T = "str" from ty)
  exact⟨typeIs_str s z t,fun _ e=>nomatch e⟩
 | int i=>
  obtain⟨t,rfl⟩:=r
  cases (show T = "int" from ty)
  exact⟨typeIs_int s i t,fun _ e=>nomatch e⟩
 | ref p=>
  cases r
  rcases ty with ⟨rfl,xs,hq⟩ | ⟨rfl,o,hk,hc,hd⟩ | ⟨rfl,hk⟩ | ⟨rfl,S,n,hk⟩
  ·obtain⟨its,_,pl,_⟩:=I.list hq
   refine⟨pl.isList.typeIs,fun a e => ?_⟩
   cases e
   obtain⟨o,n,e,c,hd,_⟩:=pl
   exact⟨o,e,hd⟩
  ·refine⟨⟨o,I.kIn p o hk,hc⟩,fun a e => ?_⟩
   cases e
   exact⟨o,I.kIn _ o hk,hd⟩
  ·have z:∃ o,s.heap.get? p=some o/\o.ExactDict:=by
    rcases hk with ⟨kvs,hk⟩ | ⟨kvs,hk⟩
    ·obtain⟨_,_,_,_,o,_,_,e,ex,_⟩:=I.hok p _ hk
     exact⟨o,e,ex⟩
    ·obtain⟨_,_,_,_,o,_,_,e,ex,_⟩:=I.hok p _ hk
     exact⟨o,e,ex⟩
   obtain⟨o,e,ex⟩:=z
   refine⟨⟨o,e,ex.1⟩,fun a e2 => ?_⟩
   cases e2
   exact⟨o,e,ex.2.1⟩
  ·obtain⟨o,_,_,_,e,ex,_⟩:=I.hok p _ hk
   refine⟨⟨o,e,ex.1⟩,fun a e2 => ?_⟩
   cases e2
   exact⟨o,e,ex.2.1⟩
 | _=>exact False.elim ty
noncomputable def tBM0 (K:PySem.W.Frag) (T:String) (r:V->List V->Hp->VK->Prop) (to:TE):TE:=fun σ H Q=>to σ H fun x H1=>tyV K T x H1/\r x [] H1 Q
noncomputable def tBM (K:PySem.W.Frag) (T:String) (r:V->List V->Hp->VK->Prop) (to:TE) (t:TA):TE:=fun σ H Q=>to σ H fun x H1=>tyV K T x H1/\t σ H1 fun xs H2=>r x xs H2 Q
variable {o e:Expr} {es:List Expr} {to:TE} {t:TA} {name:Str} {apos cpos:Pos} {T id:String} {r:V->List V->Hp->VK->Prop}
theorem pe_bm0 (pa:PlainAttrs T) (slot:Slot T name id) (hty:typeOf (.builtin id)=pure (.type "method_descriptor")) (hm:MtR X id r) (ho:PE X o to)
  (hbase:attributeBase o name X.env (eval o X.env)=eval o X.env:=by rfl) (hline:(apos.endLine == cpos.line)=true:=by rfl):PE X (.Call (.Attribute o name apos) [] [] cpos) (tBM0 X.K T r to):=by
 intro pins s σ H Q I h
 refine wpAny_Call_method0_late hbase hline (thn (ho pins s σ H _ I h) fun v s1 ⟨x,H1,I1,r1,ty,q1⟩ => ?_)
 obtain⟨h1,h2⟩:=tyV_is I1 r1 ty
 exact⟨T,id,pa,slot,hty,h1,h2,Calls.callWith_builtin rfl (PySem.evalArgs_none (hm pins s1 σ H1 x [] v [] Q I1 r1 .nil q1))⟩
theorem pe_bm (pa:PlainAttrs T) (slot:Slot T name id) (hty:typeOf (.builtin id)=pure (.type "method_descriptor")) (hm:MtR X id r) (ho:PE X o to) (ha:PA X (e::es) t)
  (hbase:attributeBase o name X.env (eval o X.env)=eval o X.env:=by rfl)
  (hfew:((backTo cpos (starEach (e::es) X.env)).all (fun x => !x.1) && (backToKw cpos (keywordEach [] X.env)).all (fun x=>x.1.isSome)
   && decide ((e::es).length+([]:List Keyword).length+(if ([]:List Keyword).isEmpty then 0 else 1)<30))=true:=by rfl)
  (hline:(apos.endLine == cpos.line)=true:=by rfl) (hs:starEach (e::es) X.env=(false,eval e X.env)::starEach es X.env:=by rfl) (hplain:(backTo cpos (starEach es X.env)).any (·.1)=false:=by rfl):
  PE X (.Call (.Attribute o name apos) (e::es) [] cpos) (tBM X.K T r to t):=by
 intro pins s σ H Q I h
 refine wpAny_Call_method_late hbase hfew hline rfl (thn (ho pins s σ H _ I h) fun v s1 ⟨x,H1,I1,r1,ty,q1⟩ => ?_)
 obtain⟨h1,h2⟩:=tyV_is I1 r1 ty
 refine⟨T,id,pa,slot,hty,h1,h2,?_⟩
 have hA:=ha cpos pins s1 σ H1 _ I1 q1
 rw[hs] at hA ⊢
 refine Calls.callWith_builtin (by show (false || (backTo cpos (starEach es X.env)).any (·.1))=false;rw[hplain]<;>rfl) (Calls.evalArgs_plain ?_)
 exact thn hA fun us s2 ⟨vs,H2,I2,r2,q2⟩=>hm pins s2 σ H2 x vs v us Q I2 r1 r2 q2
/- xs.append(e),list.index on a module's tuple .. are MtR facts of 06m -/
end
end L2
namespace L2
open PySem PySem.Spec PyProof.Rows
noncomputable def MtM (X:Cx) (id:String) (r:V->List V->Hp->VK->Prop):Prop:=
 ∀ (pins:List (Addr×Obj)) (s:Shared) (σ:St) (H:Hp) (x:V) (xs:List V) (v:Value) (us:List Value) (Q:VK),Inv X pins σ H s->RelV x v->Vals xs us->r x xs H Q →
  wpAny (model X.prog X.w) X.A (call (.builtin id) (v::us)) (EP X pins σ Q) X.xe s
theorem Vals.one:∀ {x:V} {us:List Value},Vals [x] us->∃ u,us=[u]/\RelV x u
 | _,_,.cons r .nil=>⟨_,rfl,r⟩
theorem Vals.zero:∀ {us:List Value},Vals [] us->us=[]
 | _,.nil=>rfl
section
variable {X:Cx} {pins:List (Addr×Obj)} {σ:St} {H:Hp} {s:Shared} {l b:Addr} {xs ys zs:List V}
theorem Inv.lset {its its':List Value} {n:Nat} {f:Array Value->Array Value} {t':Nat} (I:Inv X pins σ H s) (hH:H l=some (.lst xs))
  (e:s.heap.get? l=some { cls:=.type "list",data:=.seq its.toArray n }) (hf:f its.toArray=its'.toArray) (hv:Vals ys its') (hz:ys.length<=sizeLine):
  Inv X pins σ (upd H l (.lst ys)) { s with heap:=s.heap.update l (Obj.mapSeq f),toks:=t' }:=by
 have q:=PySem.IsL.update e f
 rw[hf] at q
 refine I.write (x:=l) (e:=l) (by rw[hH];exact trivial) (.inl rfl) (fun b' u hb hu=>(Heap.get?_update_other s.heap (Obj.mapSeq f) (Ne.symm hb)).trans hu) ⟨_,q⟩ ?_
 exact⟨hz,its',_,hv,q⟩
theorem Inv.lnew {its:List Value} {t':Nat} (I:Inv X pins σ H s) (hv:Vals ys its) (hz:ys.length<=sizeLine):
  Inv X pins σ (upd H s.heap.objs.size (.lst ys)) { s with heap:=s.heap.push { cls:=.type "list",data:=.seq its.toArray },toks:=t' }:=
 I.laid (fun _ _ q=>Heap.get?_push_of_some _ q) (Nat.le_refl _) ⟨hz,its,0,hv,Heap.get?_push_size _ rfl⟩
theorem Inv.fresh (I:Inv X pins σ H s):H s.heap.objs.size=none:=I.hok.fresh (Nat.le_refl _)
theorem Inv.lstM (I:Inv X pins σ H s) (hH:H l=some (.lst xs)):xs.length<=sizeLine/\∃ (its:List Value) (n:Nat),Vals xs its/\xs.length=its.length/\s.heap.get? l=some { cls:=.type "list",data:=.seq its.toArray n }:=by
 obtain⟨z,its,n,r,e⟩:=I.hok l _ hH
 exact⟨z,its,n,r,r.length,e⟩
theorem notLongL {n:Nat} (h:n<=sizeLine):Builtin.List.listTooLong n=false:=by
 unfold Builtin.List.listTooLong
 exact decide_eq_false (by lia)
end
section
variable {X:Cx}
noncomputable def rAppend:V->List V->Hp->VK->Prop:=fun x vs H Q=>∃ l xs y,x=.ref l/\vs=[y]/\H l=some (.lst xs)/\xs.length<sizeLine/\Q .non (upd H l (.lst (xs++[y])))
theorem mt_append:MtM X "list.append" rAppend:=by
 intro pins s σ H x vs v us Q I rx rv h
 obtain⟨l,xs,y,rfl,rfl,hH,hz,q⟩:=h
 cases rx
 obtain⟨u,rfl,ru⟩:=rv.one
 obtain⟨z,its,n,r,hl,e⟩:=I.lstM hH
 refine call_meets F.slot_list_append ⟨_,e,rfl⟩ F.entry_list_append (F.args_list_append_2 _ _) (PySem.list_append l its.toArray n u (by rw[List.size_toArray];lia)) ⟨e,?_⟩
 refine⟨.non,_,I.lset (its':=its++[u]) hH e (by simp) (r.append (.cons ru .nil)) ?_,rfl,q⟩
 rw[List.length_append,List.length_singleton]
 lia
end
section
variable {prog:Program} {w:World} {A:Around} {E:Value->Shared->Prop} {s:Shared}
set_option maxRecDepth 100000 in
end
section
variable {X:Cx}
end
end L2
namespace Att
open PySem PySem.W PySem.Calls PyProof.Rows
theorem ints_of_wellAll {P:Params} {h:Heap} : ∀ (ns:List Int) (vs:List Value),WellAll P h vs (ns.map WData.int)->IntsAre vs ns:=by
 intro ns
 induction ns with
 | nil=>
  intro vs w
  rw[List.map_nil] at w
  cases w
  exact .nil
 | cons n ns ih=>
  intro vs w
  rw[List.map_cons] at w
  cases w with
  | cons a b=>
   cases a
   exact .cons _ _ (ih _ b)
theorem script_of {l:OpenLaw} {n:Nat} (hn:l.most=some n) {P:Params} {h:Heap} {args:List WData} {vals:List Value}
  (hpre:l.row.toRowW.claim.pre args=true) (hwl:WellAll P h vals args):
  ∃ a vs ns,vals=[Value.ref a]/\args=[WData.list (ns.map WData.int)]/\h.get? a=some { cls:=.type "list",data:=.seq vs.toArray } ∧ IntsAre vs ns/\ns.length<=n:=by
 have hsh:WShape.hasAll [] args [.list .int]=true:=(pre_splitW hpre).1
 have hc:l.pre.holds [] { args:=args } = true:=(pre_splitW hpre).2
 obtain⟨d,r,rfl,h1,h2⟩:=hasAllW_cons hsh
 obtain rfl:=hasAllW_nil h2
 obtain⟨xs,rfl,h3⟩:=hasW_list h1
 obtain⟨ns,rfl⟩:=items_int h3
 have hlen:ns.length<=n:=by
  unfold OpenLaw.pre at hc
  have h4:(WTm.not (.lt (.lit (.int (n:Int))) (.len (.arg 0)))).holds [] { args:=[.list (ns.map .int)] } = true:=by
   have h4:=(holds_andW hc).1
   rw[hn] at h4
   exact h4
  have h5:=condW_of h4 (w_not (w_lt w_lit (w_len_list (w_arg rfl))))
  rw[List.length_map] at h5
  refine Nat.le_of_not_lt fun q => ?_
  have q':(n:Int)<((ns.length:Nat):Int):=by lia
  first
   | (rw[decide_eq_true q'] at h5;exact absurd h5 (by decide))
   | (simp at h5;lia)
 cases hwl with
 | cons w1 w2=>
  cases w2
  cases w1 with
  | list ho hall=>exact⟨_,_,ns,rfl,rfl,ho,ints_of_wellAll ns _ hall,hlen⟩
theorem post_true (l:OpenLaw) (args:List WData):l.row.toRowW.claim.post args (.bool true) args=true:=
 postW_of (r:=l.row.toRowW) (X:=(true == true))
  (show WShape.has [] (.bool true) .bool=true by first | rfl | decide | simp [WShape.has,WShape.arms,WShape.armsAll])
  (show (WTm.eq .res (.lit (.bool true))).value [] { args:=args,res:=some (.bool true),after:=args } = some (.bool (true == true)) from w_eq_bool (w_res rfl) w_lit) rfl
theorem attach_call {l:OpenLaw} {n:Nat} {q:Program} {loose:List Str} {XP:(Str->Option Value)->Heap->Prop} {YP:World->Heap->Prop} {d:DefRec}
  (hn:l.most=some n) (hdf:d.params.defaults=[])
  (call:∀ (w:World) (s₀ s₁:Shared) (mg mb:Str->Option Value) (fa:Addr) (o:Obj) (pm cd doc:Value) (a:Addr) (vs:List Value) (ns:List Int),
   Ground q loose [] XP w s₀ mg mb s₁.heap->YP w s₁.heap →
   s₁.heap.get? fa=some o->o.data=.func (docDef d.name d.params d.body d.scope pm cd doc)->s₁.heap.CodeRec cd d.name->mg d.name=some (.ref fa) →
   s₁.heap.get? a=some { cls:=.type "list",data:=.seq vs.toArray } -> IntsAre vs ns->ns.length<=n->s₁.gens = #[] →
   codeAny (model l.prog w) callerA (.call (.ref fa) ⟨[.ref a],[]⟩) (fun r s'=>r=.ok (.ret (.bool true))/\OldK s₁.heap s'.heap/\s'.os=s₁.os/\AllBare s'.gens) s₁):
  WalkO q loose XP YP l.row.toRowW d [] (fun f vs=>PySem.call f vs):=by
 intro w s₀ s₁ mg mb G Y fa o pm cd doc dV kV ho hd hcd hD hmg hg args vals as hpre hlay hrd hwl hlo
 obtain rfl:dV=.none:=Dflts.none hD hdf
 obtain rfl:kV=.none:=Dflts.noKw hD
 obtain⟨a,vs,ns,rfl,rfl,hobj,hints,hlen⟩:=script_of hn hpre hwl
 refine enter_call (codeAny_mono (call w s₀ s₁ mg mb fa o pm cd doc a vs ns G Y ho (fd_plain hd) hcd hmg hobj hints hlen hg) fun r s' hq => ?_)
 obtain⟨rfl,h2,h3,h4⟩:=hq
 exact⟨.inl ⟨.bool true,.bool true,[],rfl,fun _=>rfl,.bool true,post_true l _,fun _=>⟨List.Pairwise.nil,fun _ hm=>(nomatch hm)⟩⟩,h2,h3,h4⟩
section
variable {prog:Program} {w:World} {A:Around} {E:Value->Shared->Prop} {s:Shared} {K:Frag}
end
end Att
namespace L2
open PySem PySem.Spec PyProof.Rows
theorem vals_ints:∀ {vs:List Value} {ns:List Int},IntsAre vs ns->Vals (ns.map V.int) vs
 | _,_,.nil=>.nil
 | _,_,.cons n t h=>.cons ⟨t,rfl⟩ (vals_ints h)
noncomputable def Only (H:Hp):Prop:=∀ b,H b=none\/∃ o xs,H b=some (.frz o (.lst xs))
end L2
namespace L2
open PySem PySem.Spec PyProof.Rows
end L2
/- THE LAST THEOREM (shape; LID, My.* are yours):
   My.Adr: a structure of the addresses that your layer names (classes, functions); My.Txt K t: a structure (Prop) of the equations over K;
   My.txt_mk : {K} {implicit addresses ..} (e1 : nsIn K mainGlobals "law" = some (some (.ref f))) (e2 : K.lookup f = some ⟨oc, od, .func (fnOf "law" "law" params body scope dV kV doc pm an cdv ct), sl⟩) (e3 : codeIn K cdv "law" = true) .. : ∃ t, My.Txt K t
set_option maxRecDepth 100000 in
set_option maxHeartbeats 0 in
theorem PySem.Challenge.cw_LID_holds : PySem.Challenge.rw_LID.Holds := by
  w_on; o_law; k_head; (case hw => w_witness2)
  k_fill
  refine L2.walk_of (l := PySem.Challenge.rw_LID) (n := 63) (k := 40) (x := "script") (CX := fun w => ..) (sp := fun _ => My.sp_law) rfl (by decide) rfl ⟨rfl, by decide, by decide⟩ (fun w h Y => PySem.W.kIn_of Y) ?F ?S ?C
  case F =>
    intro w mg fa h KX G hmg
    have T : ∃ t, My.Txt (L2.KOf KX) t := by
      dsimp only [L2.KOf]                          -- K must stand as «<heap const> w.params» for k_is
      refine' My.txt_mk ?e1 ?e2 ?e3 ..
      (case e1 => PySem.W.k_is)                    -- in the order: a name -> its address -> its object -> its parts
      (case e2 => PySem.W.k_is)
      ..
    obtain ⟨t, T⟩ := T
    have e0 := hmg.symm.trans (PySem.W.mg_of KX G T.law)
    cases e0                                       -- fa is the law's own address
    exact ⟨_, fun s u => .of_eq rfl, fun base kb nb => My.law_fn T kb nb⟩     -- if «.of_eq rfl» comes too early: refine' ⟨_, ?b, fun base kb nb => My.law_fn T kb nb⟩; exact fun s u => .of_eq rfl
  case S => exact fun w H a ns hl hO hS => ..
  case C => exact ..
(the tactic k_is has no namespace: write k_is) -/
namespace L2
open PySem PySem.Spec PyProof.Rows
noncomputable def defArgs (s:Stmt):Arguments:=match s with
 | .FunctionDef _ a _ _ _ _ _ _ _ _=>a
 | _ => { posonlyargs:=[],args:=[],vararg:=none,kwonlyargs:=[],kw_defaults:=[],kwarg:=none,defaults:=[] }
noncomputable def defBody (s:Stmt):List Stmt:=match s with
 | .FunctionDef _ _ b _ _ _ _ _ _ _=>b
 | _=>[]
noncomputable def defScope (s:Stmt):Scope:=match s with
 | .FunctionDef _ _ _ _ _ _ sc _ _ _=>sc
 | _ => { kind:=.function,names:=[],isGenerator:=false,isCoroutine:=false }
structure Fun (K:PySem.W.Frag) (x qual:Str) (st:Stmt) (f:Addr) (fd:FuncData):Prop where
 ex:∃ (oc:Value) (od:Option Addr) (kV doc pm:Value) (an:Option Addr) (cdv ct:Value) (osl:Array (Option Value)),
  fd=PySem.W.fnOf x qual (defArgs st) (defBody st) (defScope st) .none kV doc pm an cdv ct/\K.lookup f=some ⟨oc,od,.func fd,osl⟩/\PySem.W.codeIn K cdv qual=true
 kp:PySem.W.keepIn K (.ref f)=true
section
variable {P:Program} {w:World} {K:PySem.W.Frag} {mg:Str->Option Value} {base:Heap}
theorem Fun.binds {x qual:Str} {st:Stmt} {f:Addr} {fd:FuncData} {ps:List Str} (F:Fun K x qual st f fd)
  (h:∀ (kV doc pm:Value) (an:Option Addr) (cdv ct:Value) (us:List Value),us.length=ps.length->bindArgs (PySem.W.fnOf x qual (defArgs st) (defBody st) (defScope st) .none kV doc pm an cdv ct) ⟨us,[]⟩=pure (ps.zip us)):Binds K fd ps []:=by
 obtain⟨oc,od,kV,doc,pm,an,cdv,ct,osl,rfl,lk,hcd⟩:=F.ex
 exact .all (h kV doc pm an cdv ct)
theorem zdq {x qual:Str} {st:Stmt} {f:Addr} {oc:Value} {od an:Option Addr} {osl:Array (Option Value)} {kV doc pm cdv ct:Value} (l:K.lookup f=some ⟨oc,od,.func (PySem.W.fnOf x qual (defArgs st) (defBody st) (defScope st) .none kV doc pm an cdv ct),osl⟩)
  (c:PySem.W.codeIn K cdv qual=true) (k:PySem.W.keepIn K (.ref f)=true):Fun K x qual st f (PySem.W.fnOf x qual (defArgs st) (defBody st) (defScope st) .none kV doc pm an cdv ct):=⟨⟨oc,od,kV,doc,pm,an,cdv,ct,osl,rfl,l,c⟩,k⟩
end
section
variable {X:Cx}
theorem pv (i:Nat) {x:Str} {pos:Pos} (hN:X.N[i]? = some x:=by rfl) (hv:Vis X.env.scope x:=by first | exact Or.inl rfl | exact Or.inr (Or.inl rfl) | exact Or.inr (Or.inr rfl)) (hd:(x == ("__debug__" : Str))=false:=by decide)
  (hcd:(x == ("__classdict__" : Str))=false:=by decide):PE X (.Name x pos) (tVar i):=pe_var hN hv hd hcd
end
noncomputable def Same (H H':Hp):Prop:=∀ b o,H b=some o->H' b=some o
theorem Same.refl (H:Hp):Same H H:=fun _ _ h=>h
theorem Same.trans {H H1 H2:Hp} (a:Same H H1) (b:Same H1 H2):Same H H2:=fun c o h=>b c o (a c o h)
theorem Same.free {H H':Hp} (e:Same H H') {l:Addr} (h:H' l=Option.none):H l=Option.none:=by
 cases q:H l with
 | none=>rfl
 | some o=>
  rw[e l o q] at h
  cases h
end L2
namespace L4
open PySem L2
inductive D where
 | non | bl (b:Bool) | int (i:Int) | str (x:Str) | ty (n:String) | tup (ds:List D) | lst (ds:List D) | dct (ks vs:List D) | dcf (ks vs:List D) | tg (a:Addr) (d:D)
noncomputable def isI:D->Bool
 | .int _=>true
 | _=>false
noncomputable def allI (ds:List D):Bool:=!ds.isEmpty && ds.all isI
inductive XD:Type
noncomputable def keyD:Key->D
 | .inl i=>.int i
 | .inr x=>.str x
noncomputable def LsK (K:PySem.W.Frag) (H:Hp) (a:Addr) (xs:List V):Prop:=
 Rd H a (.lst xs)\/∃ (its:Array Value) (n:Nat),K.lookup a=some { cls:=.type "list",data:=.seq its n } ∧ its.size<=sizeLine/\Vals xs its.toList
theorem LsK.sq {K:PySem.W.Frag} {H:Hp} {a:Addr} {xs:List V} (h:LsK K H a xs):SqL K H a xs:=by
 rcases h with h | ⟨its,n,h1,h2,h3⟩
 ·exact .inl h
 ·exact .inr ⟨_,its,n,h1,rfl,rfl,rfl,h2,h3⟩
theorem LsK.of {K:PySem.W.Frag} {H:Hp} {a:Addr} {xs:List V} (h:H a=some (.lst xs)):LsK K H a xs:=.inl (.inl h)
noncomputable def DcK (H:Hp) (a:Addr) (ks:List D) (vs:List V):Prop:=
 ∃ kvs:List (List Key×V),Rd H a (.dT kvs)/\ks=kvs.map (fun kv=>D.tup (kv.1.map keyD))/\vs=kvs.map (·.2)
noncomputable def DcO (H:Hp) (a:Addr) (ks:List D) (vs:List V):Prop:=
 ∃ kvs:List (List Key×V),H a=some (.dT kvs)/\ks=kvs.map (fun kv=>D.tup (kv.1.map keyD))/\vs=kvs.map (·.2)
noncomputable def DcF (H:Hp) (a:Addr) (ks:List D) (vs:List V):Prop:=
 ∃ (kvs:List (List Key×V)) (o:Obj),H a=some (.frz o (.dT kvs))/\ks=kvs.map (fun kv=>D.tup (kv.1.map keyD))/\vs=kvs.map (·.2)
theorem DcF.k {H:Hp} {a:Addr} {ks:List D} {vs:List V} (h:DcF H a ks vs):DcK H a ks vs:=by
 obtain⟨kvs,o,h,e⟩:=h
 exact⟨kvs,.inr ⟨o,h⟩,e⟩
mutual
inductive Rep (K:PySem.W.Frag) (G:Hp):V->D->Prop where
 | non:Rep K G .non .non
 | bl (b:Bool):Rep K G (.bl b) (.bl b)
 | int (i:Int):Rep K G (.int i) (.int i)
 | str (x:Str):Rep K G (.str x) (.str x)
 | ty (n:String):Rep K G (.ty n) (.ty n)
 | tup {a:Addr} {vs:List V} {ds:List D} : SqT K G a vs->(allI ds=true->G a=some (.tup vs))->RepL K G vs ds->Rep K G (.ref a) (.tup ds)
 | lst {a:Addr} {vs:List V} {ds:List D} : LsK K G a vs->RepL K G vs ds->Rep K G (.ref a) (.lst ds)
 | dct {a:Addr} {vs:List V} {ks ds:List D} : DcK G a ks vs->RepL K G vs ds->Rep K G (.ref a) (.dct ks ds)
 | dcf {a:Addr} {vs:List V} {ks ds:List D} : DcF G a ks vs->RepL K G vs ds->Rep K G (.ref a) (.dcf ks ds)
 | tg {a:Addr} {d:D} : Rep K G (.ref a) d->Rep K G (.ref a) (.tg a d)
inductive RepL (K:PySem.W.Frag) (G:Hp):List V->List D->Prop where
 | nil:RepL K G [] []
 | cons {v:V} {vs:List V} {d:D} {ds:List D} : Rep K G v d->RepL K G vs ds->RepL K G (v::vs) (d::ds)
end
theorem same_rd {H H':Hp} {a:Addr} {u:HO} (e:Same H H') (h:Rd H a u):Rd H' a u:=by
 rcases h with h | ⟨o,h⟩
 ·exact .inl (e _ _ h)
 ·exact .inr ⟨o,e _ _ h⟩
theorem zc3 {K:PySem.W.Frag} {H H':Hp} {a:Addr} {xs:List V} (e:Same H H') (h:LsK K H a xs):LsK K H' a xs:=by
 rcases h with h | h
 ·exact .inl (same_rd e h)
 ·exact .inr h
theorem same_dc {H H':Hp} {a:Addr} {ks:List D} {vs:List V} (e:Same H H') (h:DcK H a ks vs):DcK H' a ks vs:=by
 obtain⟨kvs,h,q⟩:=h
 exact⟨kvs,same_rd e h,q⟩
theorem same_df {H H':Hp} {a:Addr} {ks:List D} {vs:List V} (e:Same H H') (h:DcF H a ks vs):DcF H' a ks vs:=by
 obtain⟨kvs,o,h,q⟩:=h
 exact⟨kvs,o,e _ _ h,q⟩
theorem zc8 {K:PySem.W.Frag} {H H':Hp} {a:Addr} {xs:List V} (e:Same H H') (h:SqT K H a xs):SqT K H' a xs:=by
 rcases h with h | h
 ·exact .inl (same_rd e h)
 ·exact .inr h
mutual
theorem Rep.mono {K:PySem.W.Frag} {G G':Hp} (e:Same G G'):∀ {v:V} {d:D},Rep K G v d->Rep K G' v d
 | _,_,.non=>.non
 | _,_,.bl b=>.bl b
 | _,_,.int i=>.int i
 | _,_,.str x=>.str x
 | _,_,.ty n=>.ty n
 | _,_,.tup h x r=>.tup (zc8 e h) (fun z=>e _ _ (x z)) (RepL.mono e r)
 | _,_,.lst h r=>.lst (zc3 e h) (RepL.mono e r)
 | _,_,.dct h r=>.dct (same_dc e h) (RepL.mono e r)
 | _,_,.dcf h r=>.dcf (same_df e h) (RepL.mono e r)
 | _,_,.tg r=>.tg (Rep.mono e r)
theorem RepL.mono {K:PySem.W.Frag} {G G':Hp} (e:Same G G'):∀ {vs:List V} {ds:List D},RepL K G vs ds->RepL K G' vs ds
 | _,_,.nil=>.nil
 | _,_,.cons h r=>.cons (Rep.mono e h) (RepL.mono e r)
end
theorem RepL.len {K:PySem.W.Frag} {G:Hp} : ∀ {vs:List V} {ds:List D},RepL K G vs ds->vs.length=ds.length
 | _,_,.nil=>rfl
 | _,_,.cons _ r=>congrArg (· + 1) (RepL.len r)
theorem RepL.app {K:PySem.W.Frag} {G:Hp} : ∀ {vs ws:List V} {ds es:List D},RepL K G vs ds->RepL K G ws es->RepL K G (vs++ws) (ds++es)
 | _,_,_,_,.nil,s=>s
 | _,_,_,_,.cons h r,s=>.cons h (RepL.app r s)
theorem RepL.at {K:PySem.W.Frag} {G:Hp} : ∀ {vs:List V} {ds:List D} {i:Nat} {d:D},RepL K G vs ds->ds[i]? = some d->∃ v,vs[i]? = some v/\Rep K G v d
 | _,_,_,_,.nil,e=>by simp at e
 | _,_,0,_,.cons h _,e=>by simp at e;subst e;exact⟨_,rfl,h⟩
 | _,_,i+1,d,.cons _ r,e=>by
  obtain⟨v,h1,h2⟩:=RepL.at (i:=i) (d:=d) r (by simpa using e)
  exact⟨v,by simpa using h1,h2⟩
theorem RepL.atV {K:PySem.W.Frag} {G:Hp} : ∀ {vs:List V} {ds:List D} {i:Nat} {v:V},RepL K G vs ds->vs[i]? = some v->∃ d,ds[i]? = some d/\Rep K G v d
 | _,_,_,_,.nil,e=>by simp at e
 | _,_,0,_,.cons h _,e=>by simp at e;subst e;exact⟨_,rfl,h⟩
 | _,_,i+1,d,.cons _ r,e=>by
  obtain⟨v,h1,h2⟩:=RepL.atV (i:=i) (v:=d) r (by simpa using e)
  exact⟨v,by simpa using h1,h2⟩
theorem RepL.take {K:PySem.W.Frag} {G:Hp} : ∀ (n:Nat) {vs:List V} {ds:List D},RepL K G vs ds->RepL K G (vs.take n) (ds.take n)
 | 0,_,_,_=>.nil
 | _+1,_,_,.nil=>.nil
 | n+1,_,_,.cons h r=>.cons h (RepL.take n r)
theorem RepL.drop {K:PySem.W.Frag} {G:Hp} : ∀ (n:Nat) {vs:List V} {ds:List D},RepL K G vs ds->RepL K G (vs.drop n) (ds.drop n)
 | 0,_,_,r=>r
 | _+1,_,_,.nil=>.nil
 | n+1,_,_,.cons _ r=>RepL.drop n r
theorem RepL.map {K:PySem.W.Frag} {G:Hp} {α:Type} {f:α->V} {g:α->D} (h:∀ a,Rep K G (f a) (g a)):∀ l:List α,RepL K G (l.map f) (l.map g)
 | []=>.nil
 | a::l=>.cons (h a) (RepL.map h l)
inductive Sl where
 | val (d:D) | own (d:D) | lnt (d:D)
noncomputable def Sl.fz:Sl->D
 | .val d=>d
 | .own d=>d
 | .lnt d=>d
abbrev DEnv:=List (Option Sl)
noncomputable def OwnAt (K:PySem.W.Frag) (G H:Hp) (p:Addr):D->Prop
 | .lst ds=>∃ vs,H p=some (.lst vs)/\RepL K G vs ds
 | .dct ks ds=>∃ vs,DcO H p ks vs/\RepL K G vs ds
 | _=>False
noncomputable def RepS (K:PySem.W.Frag) (G H:Hp) (v:V):Sl->Prop
 | .val d=>Rep K G v d
 | .own d=>∃ p,v=.ref p/\G p=none/\OwnAt K G H p d
 | .lnt d=>∃ p,v=.ref p/\G p=none/\OwnAt K G H p d
noncomputable def Sl.isO:Sl->Bool
 | .val _=>false
 | _=>true
theorem RepS.own {K:PySem.W.Frag} {G H:Hp} {v:V} {s:Sl} (h:RepS K G H v s) (o:s.isO=true):∃ p,v=.ref p/\G p=none/\OwnAt K G H p s.fz:=by
 cases s with
 | val d=>cases o
 | own d=>exact h
 | lnt d=>exact h
theorem OwnAt.some {K:PySem.W.Frag} {G H:Hp} {p:Addr} {d:D} (h:OwnAt K G H p d):∃ o,H p=Option.some o:=by
 cases d with
 | lst ds=>obtain⟨vs,h,_⟩:=h;exact⟨_,h⟩
 | dct ks ds=>
  obtain⟨vs,⟨kvs,h,_⟩,_⟩:=h
  exact⟨_,h⟩
 | _=>exact h.elim
theorem OwnAt.keep {K:PySem.W.Frag} {G H G' H':Hp} {p:Addr} {d:D} (h:OwnAt K G H p d) (e:H' p=H p) (g:Same G G'):OwnAt K G' H' p d:=by
 cases d with
 | lst ds=>obtain⟨vs,h,r⟩:=h;exact⟨vs,by rw[e];exact h,RepL.mono g r⟩
 | dct ks ds=>
  obtain⟨vs,h,r⟩:=h
  obtain⟨kvs,h,q⟩:=h
  exact⟨vs,⟨kvs,by rw[e];exact h,q⟩,RepL.mono g r⟩
 | _=>exact h.elim
theorem OwnAt.shown {K:PySem.W.Frag} {G H:Hp} {p:Addr} {d:D} (h:OwnAt K G H p d) (hg:G p=Option.none) {o:HO} (ho:H p=Option.some o):Rep K (upd G p o) (.ref p) d:=by
 have hs:Same G (upd G p o):=fun b u q=>by rw[za2 (za5 q hg)];exact q
 cases d with
 | lst ds=>obtain⟨vs,h,r⟩:=h;rw[ho] at h;cases h;exact .lst (.of za4) (RepL.mono hs r)
 | dct ks ds=>
  obtain⟨vs,h,r⟩:=h
  refine .dct ?_ (RepL.mono hs r)
  obtain⟨kvs,h,q⟩:=h
  rw[ho] at h;cases h;exact⟨kvs,.inl za4,q⟩
 | _=>exact h.elim
noncomputable def Ow (σ:St) (δ:DEnv) (p:Addr):Prop:=∃ (i:Nat) (s:Sl),δ[i]? = some (some s)/\s.isO=true/\σ[i]? = some (some (V.ref p))
structure EnvOk (K:PySem.W.Frag) (G H:Hp) (σ:St) (δ:DEnv):Prop where
 len:δ.length=σ.length
 at':∀ (i:Nat) (s:Sl),δ[i]? = some (some s)->∃ v,σ[i]? = some (some v)/\RepS K G H v s
 sep:∀ (i j:Nat) (p:Addr) (s s':Sl),δ[i]? = some (some s)->δ[j]? = some (some s')->s.isO=true->s'.isO=true->σ[i]? = some (some (.ref p))->σ[j]? = some (some (.ref p))->i=j
noncomputable def Nt (o:Option HO):Prop:=o=none\/∃ ks:List Key,o=some (.tup (ks.map kV))
theorem Nt.next {G G':Hp} {b:Addr} (h:Nt (G b)) (gg:Same G G') (k:G b=none->Nt (G' b)):Nt (G' b):=by
 rcases h with h | ⟨ks,h⟩
 ·exact k h
 ·exact .inr ⟨ks,gg _ _ h⟩
theorem Nt.none {G H:Hp} {b:Addr} {o:HO} (h:Nt (G b)) (gh:Same G H) (e:H b=some o) (no:∀ vs,o ≠ .tup vs):G b=none:=by
 rcases h with h | ⟨ks,h⟩
 ·exact h
 ·have:=gh _ _ h
  rw[e] at this
  exact absurd (Option.some.inj this) (no _)
structure StOk (K:PySem.W.Frag) (M:Nat->Option Addr) (G0 H0 G H:Hp) (σ:St) (δ:DEnv):Prop where
 gh:Same G H
 env:EnvOk K G H σ δ
 h0:Same H0 H
 g0:Same G0 G
 fr:∀ b,H0 b ≠ none->G0 b=none->Nt (G b)
 own0:∀ p,Ow σ δ p->H0 p=none
 mt:∀ (i:Nat) (d:D),δ[i]? = some (some (.lnt d))->∃ p,M i=some p/\σ[i]? = some (some (.ref p))
structure Gr (G H:Hp) (σ:St) (δ:DEnv) (G' H':Hp) (δ':DEnv):Prop where
 hs:∀ b o,H b=some o -> ¬ Ow σ δ b->H' b=some o
 hd:∀ b,H b ≠ none->H' b ≠ none
 gg:Same G G'
 fr:∀ b,H b ≠ none->G b=none -> ¬ Ow σ δ b->Nt (G' b)
 shr:∀ p,Ow σ δ' p->Ow σ δ p
theorem Gr.refl (G H:Hp) (σ:St) (δ:DEnv):Gr G H σ δ G H δ:=⟨fun _ _ h _=>h,fun _ h=>h,Same.refl _,fun _ _ h _=>.inl h,fun _ h=>h⟩
theorem same_ne {H H':Hp} (e:Same H H') {b:Addr} (h:H b ≠ none):H' b ≠ none:=by
 cases q:H b with
 | none=>exact absurd q h
 | some o=>rw[e b o q];simp
theorem Gr.of {G H G' H':Hp} {σ:St} {δ δ':DEnv} (hh:Same H H') (gg:Same G G') (fr:∀ b,H b ≠ none->G b=none -> ¬ Ow σ δ b->Nt (G' b)) (shr:∀ p,Ow σ δ' p->Ow σ δ p):Gr G H σ δ G' H' δ':=
 ⟨fun b o h _=>hh b o h,fun _ h=>same_ne hh h,gg,fr,shr⟩
theorem Gr.trans {G H G1 H1 G2 H2:Hp} {σ:St} {δ δ1 δ2:DEnv} (a:Gr G H σ δ G1 H1 δ1) (b:Gr G1 H1 σ δ1 G2 H2 δ2):Gr G H σ δ G2 H2 δ2:=
 ⟨fun c o h n=>b.hs c o (a.hs c o h n) fun z=>n (a.shr c z),fun c h=>b.hd c (a.hd c h),a.gg.trans b.gg,fun c h n o=>(a.fr c h n o).next b.gg fun n1=>b.fr c (a.hd c h) n1 fun z=>o (a.shr c z),fun p z=>a.shr p (b.shr p z)⟩
theorem Gr.free {G H G' H':Hp} {σ:St} {δ δ':DEnv} (g:Gr G H σ δ G' H' δ') {p:Addr} (h:H' p=none):H p=none:=by
 cases q:H p with
 | none=>rfl
 | some o=>exact absurd h (g.hd p (by rw[q];simp))
theorem StOk.noOw {K:PySem.W.Frag} {M:Nat->Option Addr} {G0 H0 G H:Hp} {σ:St} {δ:DEnv} (S:StOk K M G0 H0 G H σ δ) {p:Addr} (hp:H p=none):¬ Ow σ δ p:=fun ⟨i,s,z1,o,z2⟩=>by
 obtain⟨v,z3,r⟩:=S.env.at' i _ z1
 rw[z2] at z3
 cases z3
 obtain⟨q,z4,_,z5⟩:=r.own o
 cases z4
 obtain⟨o',z6⟩:=z5.some
 rw[hp] at z6;cases z6
noncomputable def RepR (K:PySem.W.Frag) (H G' H':Hp) (v:V) (s:Sl):Prop:=RepS K G' H' v s/\(s.isO=true->(∃ d,s=.own d)/\∃ p,v=.ref p/\H p=none)
noncomputable def noX:XK:=fun _ _ _=>False
abbrev Rs (α:Type):=Option (Except XD α×DEnv)
noncomputable def Rs.bind {α β:Type} (r:Rs α) (k:α->DEnv->Rs β):Rs β:=match r with
 | some (.ok a,δ)=>k a δ
 | _=>none
theorem Rs.inv {α β:Type} {r:Rs α} {k:α->DEnv->Rs β} {q:Except XD β} {δ':DEnv} (h:r.bind k=some (q,δ')):∃ a δ1,r=some (.ok a,δ1)/\k a δ1=some (q,δ'):=by
 unfold Rs.bind at h
 split at h
 ·exact⟨_,_,rfl,h⟩
 ·cases h
theorem Rs.bind_ok {α β:Type} (a:α) (δ:DEnv) (k:α->DEnv->Rs β):Rs.bind (some (.ok a,δ)) k=k a δ:=rfl
abbrev FE:=DEnv->Rs Sl
abbrev FL:=DEnv->Rs (List D)
abbrev FT:=DEnv->Rs Bool
noncomputable def PostE (X:Cx) (M:Nat->Option Addr) (G0 H0 G H:Hp) (σ:St) (δ δ':DEnv) (Q:VK):Except XD Sl->Prop
 | .ok s=>∀ v G' H',StOk X.K M G0 H0 G' H' σ δ'->Gr G H σ δ G' H' δ'->RepR X.K H G' H' v s->Q v H'
 | .error _=>True
noncomputable def PostL (X:Cx) (M:Nat->Option Addr) (G0 H0 G H:Hp) (σ:St) (δ δ':DEnv) (Q:List V->Hp->Prop):Except XD (List D)->Prop
 | .ok ds=>∀ vs G' H',StOk X.K M G0 H0 G' H' σ δ'->Gr G H σ δ G' H' δ'->RepL X.K G' vs ds->Q vs H'
 | .error _=>True
noncomputable def PostT {α:Type} (X:Cx) (M:Nat->Option Addr) (G0 H0 G H:Hp) (σ:St) (δ δ':DEnv) (Q:α->Hp->Prop):Except XD α->Prop
 | .ok b=>∀ G' H',StOk X.K M G0 H0 G' H' σ δ'->Gr G H σ δ G' H' δ'->Q b H'
 | .error _=>True
noncomputable def SndE (X:Cx) (t:TE) (f:FE):Prop:=∀ (M:Nat->Option Addr) (G0 H0 G H:Hp) (σ:St) (δ:DEnv) (r:Except XD Sl) (δ':DEnv) (Q:VK),StOk X.K M G0 H0 G H σ δ->f δ=some (r,δ')->PostE X M G0 H0 G H σ δ δ' Q r->t σ H Q
noncomputable def SndL (X:Cx) (t:TA) (f:FL):Prop:=∀ (M:Nat->Option Addr) (G0 H0 G H:Hp) (σ:St) (δ:DEnv) (r:Except XD (List D)) (δ':DEnv) (Q:List V->Hp->Prop),StOk X.K M G0 H0 G H σ δ->f δ=some (r,δ')->PostL X M G0 H0 G H σ δ δ' Q r->t σ H Q
noncomputable def SndT (X:Cx) (t:TT) (f:FT):Prop:=∀ (M:Nat->Option Addr) (G0 H0 G H:Hp) (σ:St) (δ:DEnv) (r:Except XD Bool) (δ':DEnv) (Q:Bool->Hp->Prop),StOk X.K M G0 H0 G H σ δ->f δ=some (r,δ')->PostT X M G0 H0 G H σ δ δ' Q r->t σ H Q
noncomputable def DE (X:Cx) (e:Expr) (f:FE):Prop:=∃ t,PE X e t/\SndE X t f
noncomputable def DA (X:Cx) (es:List Expr) (f:FL):Prop:=∃ t,PA X es t/\SndL X t f
noncomputable def DT (X:Cx) (e:Expr) (f:FT):Prop:=∃ t,PT X e t/\SndT X t f
theorem StOk.new {K:PySem.W.Frag} {M:Nat->Option Addr} {G0 H0 G H:Hp} {σ:St} {δ:DEnv} (S:StOk K M G0 H0 G H σ δ) {p:Addr} {o:HO} (hp:H p=none):StOk K M G0 H0 G (upd H p o) σ δ/\Gr G H σ δ G (upd H p o) δ/\G p=none:=by
 have hs:Same H (upd H p o):=fun b u q=>by rw[za2 (za5 q hp)];exact q
 have hg:G p=none:=Same.free S.gh hp
 refine⟨⟨S.gh.trans hs,⟨S.env.len,fun i s e => ?_,S.env.sep⟩,S.h0.trans hs,S.g0,S.fr,S.own0,S.mt⟩,Gr.of hs (Same.refl _) (fun _ _ h _=>.inl h) fun _ h=>h,hg⟩
 obtain⟨v,e1,r⟩:=S.env.at' i s e
 refine⟨v,e1,?_⟩
 have key:∀ d,(∃ q,v=.ref q/\G q=none/\OwnAt K G H q d)->∃ q,v=.ref q/\G q=none/\OwnAt K G (upd H p o) q d:=fun d ⟨q,e2,e3,rr⟩=>by
  obtain⟨o',ho⟩:=rr.some
  exact⟨q,e2,e3,rr.keep (by rw[za2 (za5 ho hp)]) (Same.refl _)⟩
 cases s with
 | val d=>exact r
 | own d=>exact key d r
 | lnt d=>exact key d r
theorem StOk.showAt {K:PySem.W.Frag} {M:Nat->Option Addr} {G0 H0 G H:Hp} {σ:St} {δ:DEnv} (S:StOk K M G0 H0 G H σ δ) {p:Addr} {o:HO} (hp:H p=some o) (hg:G p=none) (hn:¬ Ow σ δ p) (h0:H0 p=none):
  StOk K M G0 H0 (upd G p o) H σ δ/\Same G (upd G p o):=by
 have hs:Same G (upd G p o):=fun b u q=>by rw[za2 (za5 q hg)];exact q
 refine⟨⟨fun b u q => ?_,⟨S.env.len,fun i s e => ?_,S.env.sep⟩,S.h0,S.g0.trans hs,fun b h n => ?_,S.own0,S.mt⟩,hs⟩
 ·by_cases e:b=p
  ·subst e;rw[za4] at q;cases q;exact hp
  ·rw[za2 e] at q;exact S.gh b u q
 ·obtain⟨v,e1,r⟩:=S.env.at' i s e
  refine⟨v,e1,?_⟩
  have key:∀ d,s.isO=true->(∃ q,v=.ref q/\G q=none/\OwnAt K G H q d)->∃ q,v=.ref q/\(upd G p o) q=none/\OwnAt K (upd G p o) H q d:=fun d os ⟨q,e2,e3,rr⟩=>by
   subst e2
   have ne:q ≠ p:=fun z=>hn ⟨i,s,e,os,by rw[←z];exact e1⟩
   exact⟨q,rfl,by rw[za2 ne];exact e3,rr.keep rfl hs⟩
  cases s with
  | val d=>exact Rep.mono hs r
  | own d=>exact key d rfl r
  | lnt d=>exact key d rfl r
 ·have ne:b ≠ p:=fun z=>h (by rw[z];exact h0)
  rw[za2 ne];exact S.fr b h n
theorem SndE.toV {X:Cx} {t:TE} {f:FE} (h:SndE X t f) (M:Nat->Option Addr) (G0 H0 G H:Hp) (σ:St) (δ:DEnv) (s:Sl) (δ':DEnv) (Q:VK) (S:StOk X.K M G0 H0 G H σ δ) (ef:f δ=some (.ok s,δ'))
  (k:∀ v G' H',StOk X.K M G0 H0 G' H' σ δ'->Gr G H σ δ G' H' δ'->Rep X.K G' v s.fz->Q v H'):t σ H Q:=by
 refine h M G0 H0 G H σ δ (.ok s) δ' Q S ef fun v G' H' S' g r => ?_
 obtain⟨r,nw⟩:=r
 by_cases os:s.isO=true
 ·obtain⟨_,q,e4,hq⟩:=nw os
  obtain⟨p,e2,e3,rr⟩:=r.own os
  have epq:p=q:=by rw[e2] at e4;cases e4;rfl
  subst epq e2
  have no:¬ Ow σ δ' p:=fun z=>S.noOw hq (g.shr _ z)
  obtain⟨o,ho⟩:=rr.some
  obtain⟨S2,hs⟩:=S'.showAt ho e3 no (Same.free S.h0 hq)
  refine k (.ref p) _ H' S2 ⟨g.hs,g.hd,g.gg.trans hs,fun b hb n o => ?_,g.shr⟩ (rr.shown e3 ho)
  rw[za2 (fun z=>hb (by rw[z];exact hq))]
  exact g.fr b hb n o
 ·cases s with
  | val d=>exact k v G' H' S' g r
  | own d=>exact absurd rfl os
  | lnt d=>exact absurd rfl os
theorem ow_drop {σ:St} {δ:DEnv} {i:Nat} {o:Option Sl} (ho:∀ s,o=some s->s.isO=false) (hi:i<δ.length) {q:Addr} (h:Ow σ (δ.set i o) q):∃ j s,j ≠ i/\δ[j]? = some (some s)/\s.isO=true/\σ[j]? = some (some (V.ref q)):=by
 obtain⟨j,s,z1,os,z2⟩:=h
 by_cases hj:j=i
 ·subst hj;rw[List.getElem?_set_self hi] at z1
  cases o with
  | none=>cases z1
  | some s'=>cases z1;rw[ho s rfl] at os;cases os
 ·rw[List.getElem?_set_ne (Ne.symm hj)] at z1
  exact⟨j,s,hj,z1,os,z2⟩
noncomputable def fVar (i:Nat):FE:=fun δ=>match δ[i]? with
 | some (some (.val d))=>some (.ok (.val d),δ)
 | some (some (.own d))=>some (.ok (.val d),δ.set i (some (.val d)))
 | _=>none
theorem StOk.freeze {K:PySem.W.Frag} {M:Nat->Option Addr} {G0 H0 G H:Hp} {σ:St} {δ:DEnv} (S:StOk K M G0 H0 G H σ δ) {i:Nat} {d:D} (hd:δ[i]? = some (some (.own d))):
  ∃ p o,σ[i]? = some (some (.ref p))/\StOk K M G0 H0 (upd G p o) H σ (δ.set i (some (.val d)))/\Gr G H σ δ (upd G p o) H (δ.set i (some (.val d)))/\Rep K (upd G p o) (.ref p) d:=by
 obtain⟨v,e1,r⟩:=S.env.at' i _ hd
 obtain⟨p,rfl,e3,r⟩:=r
 obtain⟨o,e2⟩:=r.some
 have hs:Same G (upd G p o):=fun b u q=>by rw[za2 (za5 q e3)];exact q
 have hi:i<δ.length:=(List.getElem?_eq_some_iff.mp hd).1
 have shr:∀ q,Ow σ (δ.set i (some (.val d))) q->Ow σ δ q/\q ≠ p:=fun q z=>by
  obtain⟨j,s,hj,z1,os,z2⟩:=ow_drop (fun s e=>by cases e;rfl) hi z
  refine⟨⟨j,s,z1,os,z2⟩,fun z=>hj ?_⟩
  subst z
  exact S.env.sep j i q s _ z1 hd os rfl z2 e1
 refine⟨p,o,e1,⟨fun b u q => ?_,⟨by simpa using S.env.len,fun j s ej => ?_,fun j j' q a b z1 z2 oa ob z3 z4 => ?_⟩,S.h0,S.g0.trans hs,fun b hb n => ?_,fun q z=>S.own0 q (shr q z).1,fun j d' z => ?_⟩,
  Gr.of (Same.refl _) hs (fun b hb n o' => ?_) fun q z=>(shr q z).1,r.shown e3 e2⟩
 ·by_cases e:b=p
  ·subst e;rw[za4] at q;cases q;exact e2
  ·rw[za2 e] at q;exact S.gh b u q
 ·by_cases hj:j=i
  ·subst hj;rw[List.getElem?_set_self hi] at ej;cases ej
   exact⟨.ref p,e1,r.shown e3 e2⟩
  ·have ej':=ej
   rw[List.getElem?_set_ne (Ne.symm hj)] at ej
   obtain⟨v,e4,r'⟩:=S.env.at' j s ej
   refine⟨v,e4,?_⟩
   have key:∀ d,s.isO=true->(∃ q,v=.ref q/\G q=none/\OwnAt K G H q d)->∃ q,v=.ref q/\(upd G p o) q=none/\OwnAt K (upd G p o) H q d:=fun d os ⟨q,z2,z3,rr⟩=>by
    subst z2
    have ne:q ≠ p:=(shr q ⟨j,s,ej',os,e4⟩).2
    exact⟨q,rfl,by rw[za2 ne];exact z3,rr.keep rfl hs⟩
   cases s with
   | val d=>exact Rep.mono hs r'
   | own d=>exact key d rfl r'
   | lnt d=>exact key d rfl r'
 ·by_cases hj:j=i
  ·subst hj;rw[List.getElem?_set_self hi] at z1;cases z1;cases oa
  ·by_cases hj':j'=i
   ·subst hj';rw[List.getElem?_set_self hi] at z2;cases z2;cases ob
   ·rw[List.getElem?_set_ne (Ne.symm hj)] at z1
    rw[List.getElem?_set_ne (Ne.symm hj')] at z2
    exact S.env.sep j j' q a b z1 z2 oa ob z3 z4
 ·have ne:b ≠ p:=fun z=>hb (by rw[z];exact S.own0 p ⟨i,_,hd,rfl,e1⟩)
  rw[za2 ne];exact S.fr b hb n
 ·by_cases hj:j=i
  ·subst hj;rw[List.getElem?_set_self hi] at z;cases z
  ·rw[List.getElem?_set_ne (Ne.symm hj)] at z;exact S.mt j d' z
 ·have ne:b ≠ p:=fun z=>o' (by rw[z];exact⟨i,_,hd,rfl,e1⟩)
  rw[za2 ne];exact .inl n
theorem RepR.val {K:PySem.W.Frag} {H G' H':Hp} {v:V} {d:D} (h:Rep K G' v d):RepR K H G' H' v (.val d):=⟨h,fun z=>nomatch z⟩
theorem snd_var {X:Cx} (i:Nat):SndE X (tVar i) (fVar i):=by
 intro M G0 H0 G H σ δ r δ' Q S e k
 unfold fVar at e
 split at e
 ·rename_i d' hd
  cases e
  obtain⟨v,e1,r⟩:=S.env.at' i _ hd
  exact⟨v,e1,k v G H S (Gr.refl ..) (.val r)⟩
 ·rename_i d hd
  cases e
  obtain⟨p,o,e1,S1,g1,r1⟩:=S.freeze hd
  exact⟨.ref p,e1,k _ _ _ S1 g1 (.val r1)⟩
 ·cases e
theorem de (i:Nat) {X:Cx} {x:Str} {pos:Pos} (hN:X.N[i]? = some x:=by rfl) (hv:Vis X.env.scope x:=by first | exact Or.inl rfl | exact Or.inr (Or.inl rfl) | exact Or.inr (Or.inr rfl)) (hd:(x == ("__debug__" : Str))=false:=by decide) (hcd:(x == ("__classdict__" : Str))=false:=by decide):DE X (.Name x pos) (fVar i):=⟨_,pv i hN hv hd hcd,snd_var i⟩
noncomputable def fC (d:D):FE:=fun δ=>some (.ok (.val d),δ)
theorem snd_C {X:Cx} {v:V} {d:D} (h:∀ G,Rep X.K G v d):SndE X (tC v) (fC d):=by
 intro M G0 H0 G H σ δ d' δ' Q S e k
 cases e
 exact k v G H S (Gr.refl ..) (.val (h G))
section
variable {X:Cx} {pos:Pos}
theorem zax {i j} : DE X (.Constant (.int i) j pos) (fC (.int i)):=⟨_,pe_int,snd_C fun _=>.int i⟩
theorem de_bl {b j} : DE X (.Constant (.bool b) j pos) (fC (.bl b)):=⟨_,pe_bl,snd_C fun _=>.bl b⟩
theorem de_non {j} : DE X (.Constant .none j pos) (fC .non):=⟨_,pe_non,snd_C fun _=>.non⟩
theorem zbq {x j} : DE X (.Constant (.str x) j pos) (fC (.str x)):=⟨_,pe_str,snd_C fun _=>.str x⟩
theorem de_glob {x:Str} {v:V} {u:Value} {d:D} (hg:Gl X x) (hm:X.mg x=some u) (r:RelV v u) (h:∀ G,Rep X.K G v d) (hd:(x == ("__debug__" : Str))=false:=by decide):DE X (.Name x pos) (fC d):=⟨_,pe_glob hg hm r hd,snd_C h⟩
end
end L4
namespace L4
open PySem L2
noncomputable def lift {α:Type} (o:Option α) (δ:DEnv):Rs α:=match o with | some a=>some (.ok a,δ) | none=>none
theorem zcz {α:Type} {o:Option α} {δ δ':DEnv} {q:Except XD α} (h:lift o δ=some (q,δ')):∃ a,o=some a/\q=.ok a/\δ'=δ:=by
 unfold lift at h
 split at h
 ·cases h;exact⟨_,rfl,rfl,rfl⟩
 ·cases h
theorem zf4 {α:Type} (a:α) (δ:DEnv):lift (some a) δ=some (.ok a,δ):=rfl
noncomputable def fOp (g:D->D->Option Sl) (f1 f2:FE):FE:=fun δ=>(f1 δ).bind fun p δ=>(f2 δ).bind fun q δ=>lift (g p.fz q.fz) δ
noncomputable def fUn (g:D->Option Sl) (f1:FE):FE:=fun δ=>(f1 δ).bind fun p δ=>lift (g p.fz) δ
noncomputable def fNil:FL:=fun δ=>some (.ok [],δ)
noncomputable def fCons (f:FE) (r:FL):FL:=fun δ=>(f δ).bind fun p δ=>(r δ).bind fun q δ=>some (.ok (p.fz::q),δ)
noncomputable def fArgs (g:List D->Option Sl) (r:FL):FE:=fun δ=>(r δ).bind fun p δ=>lift (g p) δ
noncomputable def SndO (K:PySem.W.Frag) (r:R2) (g:D->D->Option Sl):Prop:=∀ (M:Nat->Option Addr) (G0 H0 G H:Hp) (σ:St) (δ:DEnv) (x y:V) (d1 d2:D) (s:Sl) (Q:VK),StOk K M G0 H0 G H σ δ->Rep K G x d1->Rep K G y d2->g d1 d2=some s →
 (∀ v G' H',StOk K M G0 H0 G' H' σ δ->Gr G H σ δ G' H' δ->RepR K H G' H' v s->Q v H')->r x y H Q
noncomputable def SndU (K:PySem.W.Frag) (r:V->Hp->VK->Prop) (g:D->Option Sl):Prop:=∀ (M:Nat->Option Addr) (G0 H0 G H:Hp) (σ:St) (δ:DEnv) (x:V) (d1:D) (s:Sl) (Q:VK),StOk K M G0 H0 G H σ δ->Rep K G x d1->g d1=some s →
 (∀ v G' H',StOk K M G0 H0 G' H' σ δ->Gr G H σ δ G' H' δ->RepR K H G' H' v s->Q v H')->r x H Q
noncomputable def SndN (K:PySem.W.Frag) (r:List V->Hp->VK->Prop) (g:List D->Option Sl):Prop:=∀ (M:Nat->Option Addr) (G0 H0 G H:Hp) (σ:St) (δ:DEnv) (xs:List V) (ds:List D) (s:Sl) (Q:VK),StOk K M G0 H0 G H σ δ->RepL K G xs ds->g ds=some s →
 (∀ v G' H',StOk K M G0 H0 G' H' σ δ->Gr G H σ δ G' H' δ->RepR K H G' H' v s->Q v H')->r xs H Q
theorem RepR.back {K:PySem.W.Frag} {G G1:Hp} {σ:St} {δ δ1:DEnv} {H H1 G' H':Hp} {v:V} {s:Sl} (g:Gr G H σ δ G1 H1 δ1) (r:RepR K H1 G' H' v s):RepR K H G' H' v s:=⟨r.1,fun o=>let ⟨a,p,e1,e2⟩:=r.2 o;⟨a,p,e1,g.free e2⟩⟩
section
variable {X:Cx} {ta tb:TE} {f1 f2:FE} {t:TA} {fl:FL}
theorem snd_op {r:R2} {g:D->D->Option Sl} (ho:SndO X.K r g) (ha:SndE X ta f1) (hb:SndE X tb f2):SndE X (tOp r ta tb) (fOp g f1 f2):=by
 intro M G0 H0 G H σ δ q δ' Q S e k
 obtain⟨s1,δ1,e1,e⟩:=Rs.inv e
 ·refine ha.toV M G0 H0 G H σ δ s1 δ1 _ S e1 fun x G1 H1 S1 g1 r1 => ?_
  obtain⟨s2,δ2,e2,e⟩:=Rs.inv e
  ·refine hb.toV M G0 H0 G1 H1 σ δ1 s2 δ2 _ S1 e2 fun y G2 H2 S2 g2 r2 => ?_
   obtain⟨s3,e3,rfl,rfl⟩:=zcz e
   refine ho M G0 H0 G2 H2 σ _ x y _ _ s3 Q S2 (Rep.mono g2.gg r1) r2 e3 fun v G3 H3 S3 g3 r3 => ?_
   exact k v G3 H3 S3 (g1.trans (g2.trans g3)) (r3.back (g1.trans g2))
theorem snd_un {r:V->Hp->VK->Prop} {g:D->Option Sl} (ho:SndU X.K r g) (ha:SndE X ta f1):SndE X (tUn r ta) (fUn g f1):=by
 intro M G0 H0 G H σ δ q δ' Q S e k
 obtain⟨s1,δ1,e1,e⟩:=Rs.inv e
 ·refine ha.toV M G0 H0 G H σ δ s1 δ1 _ S e1 fun x G1 H1 S1 g1 r1 => ?_
  obtain⟨s3,e3,rfl,rfl⟩:=zcz e
  refine ho M G0 H0 G1 H1 σ _ x _ s3 Q S1 r1 e3 fun v G3 H3 S3 g3 r3 => ?_
  exact k v G3 H3 S3 (g1.trans g3) (r3.back g1)
theorem snd_nil:SndL X tNil fNil:=by
 intro M G0 H0 G H σ δ q δ' Q S e k
 cases e
 exact k [] G H S (Gr.refl ..) .nil
theorem snd_cons (ha:SndE X ta f1) (hr:SndL X t fl):SndL X (tCons ta t) (fCons f1 fl):=by
 intro M G0 H0 G H σ δ q δ' Q S e k
 obtain⟨s1,δ1,e1,e⟩:=Rs.inv e
 ·refine ha.toV M G0 H0 G H σ δ s1 δ1 _ S e1 fun x G1 H1 S1 g1 r1 => ?_
  obtain⟨s2,δ2,e2,e⟩:=Rs.inv e
  ·cases e
   refine hr M G0 H0 G1 H1 σ δ1 (.ok s2) _ _ S1 e2 fun vs G2 H2 S2 g2 r2 => ?_
   exact k _ G2 H2 S2 (g1.trans g2) (.cons (Rep.mono g2.gg r1) r2)
theorem snd_cb {r:List V->Hp->VK->Prop} {g:List D->Option Sl} (ho:SndN X.K r g) (ha:SndL X t fl):SndE X (tCB r t) (fArgs g fl):=by
 intro M G0 H0 G H σ δ q δ' Q S e k
 obtain⟨s1,δ1,e1,e⟩:=Rs.inv e
 ·refine ha M G0 H0 G H σ δ (.ok s1) δ1 _ S e1 fun x G1 H1 S1 g1 r1 => ?_
  obtain⟨s3,e3,rfl,rfl⟩:=zcz e
  refine ho M G0 H0 G1 H1 σ _ x _ s3 Q S1 r1 e3 fun v G3 H3 S3 g3 r3 => ?_
  exact k v G3 H3 S3 (g1.trans g3) (r3.back g1)
noncomputable def gTupD (ds:List D):Option Sl:=if ds.length<=sizeLine then some (.val (.tup ds)) else none
noncomputable def gLstD (ds:List D):Option Sl:=if ds.length<=sizeLine then some (.own (.lst ds)) else none
theorem StOk.newTup {K:PySem.W.Frag} {M:Nat->Option Addr} {G0 H0 G H:Hp} {σ:St} {δ:DEnv} (S:StOk K M G0 H0 G H σ δ) {p:Addr} {vs:List V} {ds:List D} (hp:H p=none) (r:RepL K G vs ds):
  StOk K M G0 H0 (upd G p (.tup vs)) (upd H p (.tup vs)) σ δ/\Gr G H σ δ (upd G p (.tup vs)) (upd H p (.tup vs)) δ/\RepR K H (upd G p (.tup vs)) (upd H p (.tup vs)) (.ref p) (.val (.tup ds)):=by
 obtain⟨S1,g1,hg⟩:=S.new (o:=.tup vs) hp
 obtain⟨S2,hs⟩:=S1.showAt za4 hg (S.noOw hp) (Same.free S.h0 hp)
 refine⟨S2,⟨g1.hs,g1.hd,hs,fun b hb n o => ?_,fun _ z=>z⟩,.val (.tup (SqT.of za4) (fun _=>za4) (RepL.mono hs r))⟩
 rw[za2 (fun z=>hb (by rw[z];exact hp))]
 exact .inl n
theorem StOk.newOwn {K:PySem.W.Frag} {M:Nat->Option Addr} {G0 H0 G H:Hp} {σ:St} {δ:DEnv} (S:StOk K M G0 H0 G H σ δ) {p:Addr} {o:HO} {d:D} (hp:H p=none) (r:OwnAt K G (upd H p o) p d):
  StOk K M G0 H0 G (upd H p o) σ δ/\Gr G H σ δ G (upd H p o) δ/\RepR K H G (upd H p o) (.ref p) (.own d):=by
 obtain⟨S1,g1,hg⟩:=S.new (o:=o) hp
 exact⟨S1,g1,⟨p,rfl,hg,r⟩,fun _=>⟨⟨d,rfl⟩,p,rfl,hp⟩⟩
theorem StOk.newLst {K:PySem.W.Frag} {M:Nat->Option Addr} {G0 H0 G H:Hp} {σ:St} {δ:DEnv} (S:StOk K M G0 H0 G H σ δ) {p:Addr} {vs:List V} {ds:List D} (hp:H p=none) (r:RepL K G vs ds):
  StOk K M G0 H0 G (upd H p (.lst vs)) σ δ/\Gr G H σ δ G (upd H p (.lst vs)) δ/\RepR K H G (upd H p (.lst vs)) (.ref p) (.own (.lst ds)):=S.newOwn hp ⟨vs,za4,r⟩
theorem snd_tup (ha:SndL X t fl):SndE X (tTup t) (fArgs gTupD fl):=by
 intro M G0 H0 G H σ δ q δ' Q S e k
 obtain⟨s1,δ1,e1,e⟩:=Rs.inv e
 ·refine ha M G0 H0 G H σ δ (.ok s1) δ1 _ S e1 fun vs G1 H1 S1 g1 r1 => ?_
  obtain⟨s3,e3,rfl,rfl⟩:=zcz e
  unfold gTupD at e3
  split at e3
  ·rename_i hl
   cases e3
   refine⟨by rw[r1.len];exact hl,fun p hp => ?_⟩
   obtain⟨S2,g2,r2⟩:=S1.newTup hp r1
   exact k _ _ _ S2 (g1.trans g2) (r2.back g1)
  ·cases e3
theorem snd_lst (ha:SndL X t fl):SndE X (tLst t) (fArgs gLstD fl):=by
 intro M G0 H0 G H σ δ q δ' Q S e k
 obtain⟨s1,δ1,e1,e⟩:=Rs.inv e
 ·refine ha M G0 H0 G H σ δ (.ok s1) δ1 _ S e1 fun vs G1 H1 S1 g1 r1 => ?_
  obtain⟨s3,e3,rfl,rfl⟩:=zcz e
  unfold gLstD at e3
  split at e3
  ·rename_i hl
   cases e3
   refine⟨by rw[r1.len];exact hl,fun p hp => ?_⟩
   obtain⟨S2,g2,r2⟩:=S1.newLst hp r1
   exact k _ _ _ S2 (g1.trans g2) (r2.back g1)
  ·cases e3
end
section
variable {X:Cx} {ta tb:TE} {f1 f2:FE} {tA tB':TT} {c1 c2:FT}
noncomputable def blOf (d:D):Option Bool:=match d with | .bl k=>some k | _=>none
theorem blOf_inv {d:D} {k:Bool} (h:blOf d=some k):d=.bl k:=by
 unfold blOf at h
 split at h
 ·cases h;rfl
 ·cases h
noncomputable def fTb (f:FE):FT:=fun δ=>(f δ).bind fun p δ=>lift (blOf p.fz) δ
noncomputable def truD:D->Option Bool
 | .non=>some false
 | .bl k=>some k
 | .int i=>some (decide (i ≠ 0))
 | .str x=>if x.length<=sizeLine then some (decide (x.length ≠ 0)) else none
 | .tup ds=>some (!ds.isEmpty)
 | .lst ds=>some (!ds.isEmpty)
 | _=>none
noncomputable def fTr (f:FE):FT:=fun δ=>(f δ).bind fun p δ=>lift (truD p.fz) δ
noncomputable def fAndT (a b:FT):FT:=fun δ=>(a δ).bind fun p δ=>if p then b δ else some (.ok false,δ)
noncomputable def fOrT (a b:FT):FT:=fun δ=>(a δ).bind fun p δ=>if p then some (.ok true,δ) else b δ
noncomputable def fNotT (a:FT):FT:=fun δ=>(a δ).bind fun p δ=>some (.ok (!p),δ)
section
variable {K:PySem.W.Frag} {G:Hp} {v:V}
theorem rep_bl {k:Bool} (h:Rep K G v (.bl k)):v=.bl k:=by cases h;rfl
theorem zc2 {k:Int} (h:Rep K G v (.int k)):v=.int k:=by cases h;rfl
theorem zf3 {k:Str} (h:Rep K G v (.str k)):v=.str k:=by cases h;rfl
theorem rep_non (h:Rep K G v .non):v=.non:=by cases h;rfl
theorem rep_tup {ds:List D} (h:Rep K G v (.tup ds)):∃ a vs,v=.ref a/\SqT K G a vs/\RepL K G vs ds:=by cases h with | tup h _ r=>exact⟨_,_,rfl,h,r⟩
theorem rep_tupX {ds:List D} (h:Rep K G v (.tup ds)):∃ a vs,v=.ref a/\SqT K G a vs/\(allI ds=true->G a=some (.tup vs))/\RepL K G vs ds:=by cases h with | tup h x r=>exact⟨_,_,rfl,h,x,r⟩
theorem zd9 {ds:List D} (h:Rep K G v (.lst ds)):∃ a vs,v=.ref a/\LsK K G a vs/\RepL K G vs ds:=by cases h with | lst h r=>exact⟨_,_,rfl,h,r⟩
theorem rep_dct {ks ds:List D} (h:Rep K G v (.dct ks ds)):∃ a vs,v=.ref a/\DcK G a ks vs/\RepL K G vs ds:=by cases h with | dct h r=>exact⟨_,_,rfl,h,r⟩
end
theorem snd_test (ha:SndE X ta f1):SndT X (tTest ta) (fTb f1):=by
 intro M G0 H0 G H σ δ q δ' Q S e k
 obtain⟨s1,δ1,e1,e⟩:=Rs.inv e
 ·refine ha.toV M G0 H0 G H σ δ s1 δ1 _ S e1 fun x G1 H1 S1 g1 r1 => ?_
  obtain⟨b,e3,rfl,rfl⟩:=zcz e
  rw[blOf_inv e3] at r1
  exact⟨_,rep_bl r1,k G1 H1 S1 g1⟩
theorem snd_andT (ha:SndT X tA c1) (hb:SndT X tB' c2):SndT X (tAnd tA tB') (fAndT c1 c2):=by
 intro M G0 H0 G H σ δ q δ' Q S e k
 obtain⟨b,δ1,e1,e⟩:=Rs.inv e
 ·refine ha M G0 H0 G H σ δ (.ok b) δ1 _ S e1 fun G1 H1 S1 g1 => ?_
  cases b with
  | true=>
   rw[if_pos rfl]
   have e':c2 δ1=some (q,δ'):=by simpa using e
   cases q with
   | ok b'=>exact hb M G0 H0 G1 H1 σ δ1 (.ok b') δ' _ S1 e' fun G2 H2 S2 g2=>k G2 H2 S2 (g1.trans g2)
   | error x=>cases x
  | false=>
   rw[if_neg Bool.false_ne_true]
   simp only[Bool.false_eq_true,if_false,Option.some.injEq,Prod.mk.injEq] at e
   obtain⟨rfl,rfl⟩:=e
   exact k G1 H1 S1 g1
theorem snd_orT (ha:SndT X tA c1) (hb:SndT X tB' c2):SndT X (tOr tA tB') (fOrT c1 c2):=by
 intro M G0 H0 G H σ δ q δ' Q S e k
 obtain⟨b,δ1,e1,e⟩:=Rs.inv e
 ·refine ha M G0 H0 G H σ δ (.ok b) δ1 _ S e1 fun G1 H1 S1 g1 => ?_
  cases b with
  | false=>
   rw[if_neg Bool.false_ne_true]
   have e':c2 δ1=some (q,δ'):=by simpa using e
   cases q with
   | ok b'=>exact hb M G0 H0 G1 H1 σ δ1 (.ok b') δ' _ S1 e' fun G2 H2 S2 g2=>k G2 H2 S2 (g1.trans g2)
   | error x=>cases x
  | true=>
   rw[if_pos rfl]
   simp only[if_true,Option.some.injEq,Prod.mk.injEq] at e
   obtain⟨rfl,rfl⟩:=e
   exact k G1 H1 S1 g1
theorem snd_notT (ha:SndT X tA c1):SndT X (tNot tA) (fNotT c1):=by
 intro M G0 H0 G H σ δ q δ' Q S e k
 obtain⟨b,δ1,e1,e⟩:=Rs.inv e
 ·cases e
  exact ha M G0 H0 G H σ δ (.ok b) _ _ S e1 fun G1 H1 S1 g1=>k G1 H1 S1 g1
noncomputable def fAndV (a b:FE):FE:=fun δ=>(a δ).bind fun p δ=>match blOf p.fz with | some true=>b δ | some false=>some (.ok (.val (.bl false)),δ) | none=>none
noncomputable def fOrV (a b:FE):FE:=fun δ=>(a δ).bind fun p δ=>match blOf p.fz with | some false=>b δ | some true=>some (.ok (.val (.bl true)),δ) | none=>none
noncomputable def fNotV (a:FE):FE:=fun δ=>(a δ).bind fun p δ=>lift ((blOf p.fz).map fun k=>.val (.bl (!k))) δ
noncomputable def fIfE (c:FT) (a b:FE):FE:=fun δ=>(c δ).bind fun p δ=>if p then a δ else b δ
end
inductive Out where
 | next (δ:DEnv) | ret (s:Sl) (δ:DEnv) | brk (δ:DEnv) | cont (δ:DEnv)
abbrev FS:=DEnv->Option Out
noncomputable def RepN (K:PySem.W.Frag) (H0 G H:Hp) (σ:St) (δ:DEnv) (v:V) (s:Sl):Prop:=RepS K G H v s/\(s.isO=true->(∃ d,s=.own d)/\∃ p,v=.ref p/\H0 p=none/\¬ Ow σ δ p)
noncomputable def PostS (X:Cx) (M:Nat->Option Addr) (G0 H0:Hp) (E:Ends):Out->Prop
 | .next δ=>∀ σ G H,StOk X.K M G0 H0 G H σ δ->E.nx σ H
 | .brk δ=>∀ σ G H,StOk X.K M G0 H0 G H σ δ->E.bk σ H
 | .cont δ=>∀ σ G H,StOk X.K M G0 H0 G H σ δ->E.ct σ H
 | .ret s δ=>∀ v σ G H,StOk X.K M G0 H0 G H σ δ->RepN X.K H0 G H σ δ v s->E.rt v H
noncomputable def SndS (X:Cx) (t:TS) (f:FS):Prop:=∀ (M:Nat->Option Addr) (G0 H0 G H:Hp) (σ:St) (δ:DEnv) (o:Out) (E:Ends),StOk X.K M G0 H0 G H σ δ->f δ=some o->PostS X M G0 H0 E o->t E σ H
noncomputable def DS (X:Cx) (st:Stmt) (f:FS):Prop:=∃ t,PS X st t/\SndS X t f
noncomputable def DB (X:Cx) (st:List Stmt) (f:FS):Prop:=∃ t,PSs X st t/\SndS X t f
noncomputable def thenS {α:Type} (r:Rs α) (k:α->DEnv->Option Out):Option Out:=match r with
 | some (.ok a,δ)=>k a δ
 | _=>none
theorem zb8 {α:Type} {r:Rs α} {k:α->DEnv->Option Out} {o:Out} (h:thenS r k=some o):∃ a δ,r=some (.ok a,δ)/\k a δ=some o:=by
 unfold thenS at h
 split at h
 ·exact⟨_,_,rfl,h⟩
 ·cases h
theorem zc7 {α:Type} (a:α) (δ:DEnv) (k:α->DEnv->Option Out):thenS (some (.ok a,δ)) k=k a δ:=rfl
section
variable {X:Cx} {t u:TS} {f1 f2:FS} {te:TE} {fe:FE} {tc:TT} {fc:FT}
noncomputable def fNext:FS:=fun δ=>some (.next δ)
noncomputable def fSeq (a b:FS):FS:=fun δ=>(a δ).bind fun o=>match o with | .next δ'=>b δ' | o=>some o
noncomputable def fIf (c:FT) (a b:FS):FS:=fun δ=>thenS (c δ) fun p δ=>if p then a δ else b δ
noncomputable def fAsg (i:Nat) (f:FE):FS:=fun δ=>thenS (f δ) fun p δ=>some (.next (δ.set i (some p)))
noncomputable def fDrop (f:FE):FS:=fun δ=>thenS (f δ) fun _ δ=>some (.next δ)
noncomputable def fRet (f:FE):FS:=fun δ=>thenS (f δ) fun p δ=>some (.ret p δ)
noncomputable def fRetN:FS:=fun δ=>some (.ret (.val .non) δ)
noncomputable def fRetV (i:Nat):FS:=fun δ=>match δ[i]? with | some (some (.val d))=>some (.ret (.val d) δ) | some (some (.own d))=>some (.ret (.own d) (δ.set i none)) | _=>none
noncomputable def fBrk:FS:=fun δ=>some (.brk δ)
theorem snd_next:SndS X tNext fNext:=by
 intro M G0 H0 G H σ δ o E S e k
 cases e
 exact k σ G H S
theorem snd_seq (h1:SndS X t f1) (h2:SndS X u f2):SndS X (tSeq t u) (fSeq f1 f2):=by
 intro M G0 H0 G H σ δ o E S e k
 obtain⟨o1,e1,e⟩:=Option.bind_eq_some_iff.mp e
 refine h1 M G0 H0 G H σ δ o1 _ S e1 ?_
 cases o1 with
 | next δ1=>exact fun σ1 G1 H1 S1=>h2 M G0 H0 G1 H1 σ1 δ1 o E S1 e k
 | ret s δ1=>cases e;exact k
 | brk δ1=>cases e;exact k
 | cont δ1=>cases e;exact k
theorem snd_if (hc:SndT X tc fc) (h1:SndS X t f1) (h2:SndS X u f2):SndS X (tIfS tc t u) (fIf fc f1 f2):=by
 intro M G0 H0 G H σ δ o E S e k
 obtain⟨b,δ1,e1,e⟩:=zb8 e
 ·refine hc M G0 H0 G H σ δ (.ok b) δ1 _ S e1 fun G1 H1 S1 g1 => ?_
  cases b with
  | true=>rw[if_pos rfl];exact h1 M G0 H0 G1 H1 σ δ1 o E S1 (by simpa using e) k
  | false=>rw[if_neg Bool.false_ne_true];exact h2 M G0 H0 G1 H1 σ δ1 o E S1 (by simpa using e) k
theorem StOk.set {K:PySem.W.Frag} {M:Nat->Option Addr} {G0 H0 G H:Hp} {σ:St} {δ:DEnv} (S:StOk K M G0 H0 G H σ δ) (i:Nat) {v:V} {s:Sl} (r:RepS K G H v s) (nw:s.isO=true->(∃ d,s=.own d)/\∃ p,v=.ref p/\H0 p=none/\¬ Ow σ δ p):
  StOk K M G0 H0 G H (σ.set i (some v)) (δ.set i (some s)):=by
 have ow:∀ p,Ow (σ.set i (some v)) (δ.set i (some s)) p->(Ow σ δ p)\/(v=.ref p/\s.isO=true):=fun p ⟨j,s',z1,os,z2⟩=>by
  by_cases hj:j=i
  ·subst hj
   have hl:j<δ.length:=by have:=(List.getElem?_eq_some_iff.mp z1).1;simpa using this
   have hl':j<σ.length:=by have:=S.env.len;lia
   rw[List.getElem?_set_self hl] at z1
   rw[List.getElem?_set_self hl'] at z2
   cases z1;cases z2
   exact .inr ⟨rfl,os⟩
  ·rw[List.getElem?_set_ne (Ne.symm hj)] at z1 z2
   exact .inl ⟨j,s',z1,os,z2⟩
 refine⟨S.gh,⟨by simpa using S.env.len,fun j s' e => ?_,fun j j' p a b z1 z2 oa ob z3 z4 => ?_⟩,S.h0,S.g0,S.fr,fun p z => ?_,fun j d e => ?_⟩
 ·by_cases hj:j=i
  ·subst hj
   have hl:j<δ.length:=by have:=(List.getElem?_eq_some_iff.mp e).1;simpa using this
   have hl':j<σ.length:=by have:=S.env.len;lia
   rw[List.getElem?_set_self hl] at e
   cases e
   exact⟨v,List.getElem?_set_self hl',r⟩
  ·rw[List.getElem?_set_ne (Ne.symm hj)] at e
   obtain⟨v',e1,r'⟩:=S.env.at' j s' e
   exact⟨v',by rw[List.getElem?_set_ne (Ne.symm hj)];exact e1,r'⟩
 ·by_cases hj:j=i
  ·by_cases hj':j'=i
   ·rw[hj,hj']
   ·exfalso
    subst hj
    have hl:j<δ.length:=by have:=(List.getElem?_eq_some_iff.mp z1).1;simpa using this
    have hl':j<σ.length:=by have:=S.env.len;lia
    rw[List.getElem?_set_self hl] at z1
    rw[List.getElem?_set_self hl'] at z3
    rw[List.getElem?_set_ne (Ne.symm hj')] at z2 z4
    cases z1;cases z3
    obtain⟨_,q,e1,_,e3⟩:=nw oa
    cases e1
    exact e3 ⟨j',b,z2,ob,z4⟩
  ·by_cases hj':j'=i
   ·exfalso
    subst hj'
    have hl:j'<δ.length:=by have:=(List.getElem?_eq_some_iff.mp z2).1;simpa using this
    have hl':j'<σ.length:=by have:=S.env.len;lia
    rw[List.getElem?_set_self hl] at z2
    rw[List.getElem?_set_self hl'] at z4
    rw[List.getElem?_set_ne (Ne.symm hj)] at z1 z3
    cases z2;cases z4
    obtain⟨_,q,e1,_,e3⟩:=nw ob
    cases e1
    exact e3 ⟨j,a,z1,oa,z3⟩
   ·rw[List.getElem?_set_ne (Ne.symm hj)] at z1 z3
    rw[List.getElem?_set_ne (Ne.symm hj')] at z2 z4
    exact S.env.sep j j' p a b z1 z2 oa ob z3 z4
 ·rcases ow p z with z | ⟨e1,e2⟩
  ·exact S.own0 p z
  ·obtain⟨_,q,e3,e4,_⟩:=nw e2
   rw[e1] at e3;cases e3
   exact e4
 ·by_cases hj:j=i
  ·subst hj
   have hl:j<δ.length:=by have:=(List.getElem?_eq_some_iff.mp e).1;simpa using this
   rw[List.getElem?_set_self hl] at e
   cases e
   obtain⟨⟨d',z⟩,_⟩:=nw rfl
   cases z
  ·rw[List.getElem?_set_ne (Ne.symm hj)] at e
   obtain⟨p,z1,z2⟩:=S.mt j d e
   exact⟨p,z1,by rw[List.getElem?_set_ne (Ne.symm hj)];exact z2⟩
theorem RepR.toN {K:PySem.W.Frag} {M:Nat->Option Addr} {G0 H0 G H G' H':Hp} {σ:St} {δ δ':DEnv} {v:V} {s:Sl} (S:StOk K M G0 H0 G H σ δ) (g:Gr G H σ δ G' H' δ') (r:RepR K H G' H' v s):RepN K H0 G' H' σ δ' v s:=
 ⟨r.1,fun o=>let ⟨a,p,e1,e2⟩:=r.2 o;⟨a,p,e1,Same.free S.h0 e2,fun z=>S.noOw e2 (g.shr _ z)⟩⟩
theorem snd_asg {i:Nat} (he:SndE X te fe):SndS X (tAsg te (gName i)) (fAsg i fe):=by
 intro M G0 H0 G H σ δ o E S e k
 obtain⟨s,δ1,e1,e⟩:=zb8 e
 ·cases e
  refine he M G0 H0 G H σ δ (.ok s) δ1 _ S e1 fun v G1 H1 S1 g1 r => ?_
  have r':=r.toN S g1
  exact k _ G1 H1 (S1.set i r'.1 r'.2)
theorem snd_drop (he:SndE X te fe):SndS X (tDrop te) (fDrop fe):=by
 intro M G0 H0 G H σ δ o E S e k
 obtain⟨s,δ1,e1,e⟩:=zb8 e
 ·cases e
  exact he M G0 H0 G H σ δ (.ok s) δ1 _ S e1 fun v G1 H1 S1 g1 r=>k σ G1 H1 S1
theorem snd_ret (he:SndE X te fe):SndS X (tRet te) (fRet fe):=by
 intro M G0 H0 G H σ δ o E S e k
 obtain⟨s,δ1,e1,e⟩:=zb8 e
 ·cases e
  exact he M G0 H0 G H σ δ (.ok s) δ1 _ S e1 fun v G1 H1 S1 g1 r=>k v σ G1 H1 S1 (r.toN S g1)
theorem StOk.empty {K:PySem.W.Frag} {M:Nat->Option Addr} {G0 H0 G H:Hp} {σ:St} {δ:DEnv} (S:StOk K M G0 H0 G H σ δ) (i:Nat):StOk K M G0 H0 G H σ (δ.set i none):=by
 have up:∀ (j:Nat) (s:Sl),(δ.set i none)[j]? = some (some s)->δ[j]? = some (some s):=fun j s e=>by
  by_cases hj:j=i
  ·subst hj
   have hl:j<δ.length:=by have:=(List.getElem?_eq_some_iff.mp e).1;simpa using this
   rw[List.getElem?_set_self hl] at e;cases e
  ·rwa [List.getElem?_set_ne (Ne.symm hj)] at e
 exact⟨S.gh,⟨by simpa using S.env.len,fun j s e=>S.env.at' j s (up j s e),fun j j' p a b z1 z2=>S.env.sep j j' p a b (up j a z1) (up j' b z2)⟩,S.h0,S.g0,S.fr,fun p ⟨j,s,z1,z2⟩=>S.own0 p ⟨j,s,up j s z1,z2⟩,fun j d e=>S.mt j d (up j _ e)⟩
theorem snd_retV (i:Nat):SndS X (tRet (tVar i)) (fRetV i):=by
 intro M G0 H0 G H σ δ o E S e k
 unfold fRetV at e
 split at e
 ·rename_i d hs
  cases e
  obtain⟨v,e1,r⟩:=S.env.at' i _ hs
  exact⟨v,e1,k v σ G H S ⟨r,fun z=>nomatch z⟩⟩
 ·rename_i d hs
  cases e
  obtain⟨v,e1,r⟩:=S.env.at' i _ hs
  refine⟨v,e1,k v σ G H (S.empty i) ⟨r,fun _=>⟨⟨d,rfl⟩,?_⟩⟩⟩
  obtain⟨p,rfl,_⟩:=r
  refine⟨p,rfl,S.own0 p ⟨i,_,hs,rfl,e1⟩,fun z => ?_⟩
  obtain⟨j,s,hj,z1,os,z2⟩:=ow_drop (o:=none) (fun s e=>by cases e) (List.getElem?_eq_some_iff.mp hs).1 z
  exact hj (S.env.sep j i p s _ z1 hs os rfl z2 e1)
 ·cases e
noncomputable def Sl.now:Sl->D->Sl
 | .lnt _,d=>.lnt d
 | _,d=>.own d
theorem StOk.change {K:PySem.W.Frag} {M:Nat->Option Addr} {G0 H0 G H H':Hp} {σ:St} {δ:DEnv} (S:StOk K M G0 H0 G H σ δ) {i:Nat} {p:Addr} {s:Sl} {d':D} (hi:δ[i]? = some (some s)) (os:s.isO=true) (hp:σ[i]? = some (some (.ref p)))
  (hb:∀ b,b ≠ p->H' b=H b) (r:OwnAt K G H' p d'):StOk K M G0 H0 G H' σ (δ.set i (some (s.now d')))/\Gr G H σ δ G H' (δ.set i (some (s.now d'))):=by
 obtain⟨v,e1,r0⟩:=S.env.at' i _ hi
 obtain⟨p',e2,e4,r0⟩:=r0.own os
 rw[hp] at e1;cases e1;cases e2
 have hl:i<δ.length:=(List.getElem?_eq_some_iff.mp hi).1
 have on:(s.now d').isO=true:=by cases s<;>rfl
 have ow:∀ q,Ow σ (δ.set i (some (s.now d'))) q->Ow σ δ q:=fun q ⟨j,es,z1,oz,z2⟩=>by
  by_cases hj:j=i
  ·subst hj;exact⟨j,s,hi,os,z2⟩
  ·rw[List.getElem?_set_ne (Ne.symm hj)] at z1;exact⟨j,es,z1,oz,z2⟩
 have same':∀ (H1:Hp),H1 p=none->Same H1 H->Same H1 H':=fun H1 n h b o q=>by
  rw[hb b (za5 q n)];exact h b o q
 have own0:H0 p=none:=S.own0 p ⟨i,s,hi,os,hp⟩
 have rep:RepS K G H' (.ref p) (s.now d'):=by cases s<;>exact⟨p,rfl,e4,r⟩
 refine⟨⟨same' G e4 S.gh,⟨by simpa using S.env.len,fun j s' e => ?_,fun j j' q a b z1 z2 oa ob z3 z4 => ?_⟩,same' H0 own0 S.h0,S.g0,S.fr,fun q z=>S.own0 q (ow q z),fun j d e => ?_⟩,fun b o e n => ?_,fun b n => ?_,Same.refl _,fun _ _ n _=>.inl n,ow⟩
 ·by_cases hj:j=i
  ·subst hj
   rw[List.getElem?_set_self hl] at e
   cases e
   exact⟨.ref p,hp,rep⟩
  ·rw[List.getElem?_set_ne (Ne.symm hj)] at e
   obtain⟨v,z1,r'⟩:=S.env.at' j s' e
   refine⟨v,z1,?_⟩
   have key:∀ d,s'.isO=true->(∃ q,v=.ref q/\G q=none/\OwnAt K G H q d)->∃ q,v=.ref q/\G q=none/\OwnAt K G H' q d:=fun d os' ⟨q,z2,z3,rr⟩=>by
    subst z2
    have ne:q ≠ p:=fun z=>hj (by subst z;exact S.env.sep j i q s' s e hi os' os z1 hp)
    exact⟨q,rfl,z3,rr.keep (hb q ne) (Same.refl _)⟩
   cases s' with
   | val d=>exact r'
   | own d=>exact key d rfl r'
   | lnt d=>exact key d rfl r'
 ·have fix:∀ (m:Nat) (c:Sl),(δ.set i (some (s.now d')))[m]? = some (some c)->c.isO=true->∃ c',δ[m]? = some (some c')/\c'.isO=true:=fun m c z oz=>by
   by_cases hm:m=i
   ·subst hm;exact⟨s,hi,os⟩
   ·rw[List.getElem?_set_ne (Ne.symm hm)] at z;exact⟨c,z,oz⟩
  obtain⟨a',z1,oa⟩:=fix j a z1 oa
  obtain⟨b',z2,ob⟩:=fix j' b z2 ob
  exact S.env.sep j j' q a' b' z1 z2 oa ob z3 z4
 ·by_cases hj:j=i
  ·subst hj
   rw[List.getElem?_set_self hl] at e
   cases s with
   | val d=>cases os
   | own d0=>cases e
   | lnt d0=>exact S.mt j d0 hi
  ·rw[List.getElem?_set_ne (Ne.symm hj)] at e;exact S.mt j d e
 ·rw[hb b (fun z=>n (by rw[z];exact⟨i,s,hi,os,hp⟩))];exact e
 ·by_cases hz:b=p
  ·subst hz;obtain⟨o,q⟩:=r.some;rw[q];simp
  ·rw[hb b hz];exact n
noncomputable def isL:D->Bool
 | .lst _=>true
 | _=>false
noncomputable def mutD (i:Nat) (g:List D->List D->Option (List D×D)) (es:List D) (δ:DEnv):Rs Sl:=match δ[i]? with
 | some (some s)=>if s.isO=true then (match s.fz with
  | .lst ds=>(match g ds es with | some q=>some (.ok (.val q.2),δ.set i (some (s.now (.lst q.1)))) | none=>none)
  | _=>none) else none
 | _=>none
noncomputable def fMut (i:Nat) (g:List D->List D->Option (List D×D)) (r:FL):FE:=fun δ=>match δ[i]? with
 | some (some s)=>if isL s.fz=true then (r δ).bind (mutD i g) else none
 | _=>none
noncomputable def SndM (K:PySem.W.Frag) (r:V->List V->Hp->VK->Prop) (g:List D->List D->Option (List D×D)):Prop:=∀ (G H:Hp) (p:Addr) (vs xs:List V) (ds es ds':List D) (d:D) (Q:VK),Same G H->H p=some (.lst vs)->RepL K G vs ds->RepL K G xs es->g ds es=some (ds',d) →
 (∀ v vs',RepL K G vs' ds'->Rep K G v d->Q v (upd H p (.lst vs')))->r (.ref p) xs H Q
theorem tyL {K:PySem.W.Frag} {G H:Hp} {v:V} {s:Sl} (gh:Same G H) (r:RepS K G H v s) (h:isL s.fz=true):tyV K "list" v H:=by
 have key:∀ d,isL d=true->(∃ p,v=.ref p/\G p=none/\OwnAt K G H p d)->tyV K "list" v H:=fun d hd ⟨p,e,_,o⟩=>by
  subst e
  cases d with
  | lst ds=>obtain⟨vs,o,_⟩:=o;exact .inl ⟨rfl,vs,SqL.of o⟩
  | _=>cases hd
 cases s with
 | val d=>
  cases d with
  | lst ds=>obtain⟨a,vs,rfl,q,_⟩:=zd9 r;exact .inl ⟨rfl,vs,(zc3 gh q).sq⟩
  | _=>cases h
 | own d=>exact key d h r
 | lnt d=>exact key d h r
theorem mutD_snd {i:Nat} {r:V->List V->Hp->VK->Prop} {g:List D->List D->Option (List D×D)} (hr:SndM X.K r g) {M:Nat->Option Addr} {G0 H0 G H:Hp} {σ:St} {δ δ':DEnv} {es:List D} {xs:List V} {q:Except XD Sl} {v:V} {Q:VK} (S:StOk X.K M G0 H0 G H σ δ) (hv:σ[i]? = some (some v)) (rx:RepL X.K G xs es)
  (e:mutD i g es δ=some (q,δ')) (k:∀ s w G' H',q=.ok s->StOk X.K M G0 H0 G' H' σ δ'->Gr G H σ δ G' H' δ'->RepR X.K H G' H' w s->Q w H'):r v xs H Q:=by
 unfold mutD at e
 split at e
 ·rename_i s hi
  split at e
  ·rename_i os
   split at e
   ·rename_i ds hds
    split at e
    ·rename_i q' hq
     obtain⟨ds',d⟩:=q'
     cases e
     obtain⟨w,y1,r2⟩:=S.env.at' i _ hi
     rw[hv] at y1;cases y1
     obtain⟨p,rfl,y3,o⟩:=r2.own os
     rw[hds] at o
     obtain⟨vs,y2,y4⟩:=o
     refine hr G H p vs xs ds es ds' d _ S.gh y2 y4 rx hq fun w vs' r3 r4 => ?_
     obtain⟨S2,g2⟩:=S.change (H':=upd H p (.lst vs')) hi os hv (fun b hb=>za2 hb) (d':=.lst ds') ⟨vs',za4,r3⟩
     exact k _ w G _ rfl S2 g2 (.val r4)
    ·cases e
   ·cases e
  ·cases e
 ·cases e
theorem snd_mut {i:Nat} {ta:TA} {fa:FL} {r:V->List V->Hp->VK->Prop} {g:List D->List D->Option (List D×D)} (hr:SndM X.K r g) (ha:SndL X ta fa):SndE X (tBM X.K "list" r (tVar i) ta) (fMut i g fa):=by
 intro M G0 H0 G H σ δ q δ' Q S e k
 unfold fMut at e
 split at e
 ·rename_i s0 hi0
  split at e
  ·rename_i hl
   obtain⟨v,z1,r0⟩:=S.env.at' i _ hi0
   refine⟨v,z1,tyL S.gh r0 hl,?_⟩
   obtain⟨es,δ1,e1,e⟩:=Rs.inv e
   ·refine ha M G0 H0 G H σ δ (.ok es) δ1 _ S e1 fun xs G1 H1 S1 g1 r1 => ?_
    refine mutD_snd hr S1 z1 r1 e fun s w G2 H2 hq S2 g2 r2 => ?_
    subst hq
    exact k w G2 H2 S2 (g1.trans g2) (r2.back g1)
  ·cases e
 ·cases e
noncomputable def fMut0 (i:Nat) (g:List D->List D->Option (List D×D)):FE:=fMut i g fNil
noncomputable def gAppend (ds es:List D):Option (List D×D):=match es with | [d]=>if ds.length<sizeLine then some (ds++[d],.non) else none | _=>none
theorem m_append {K:PySem.W.Frag} : SndM K rAppend gAppend:=by
 intro G H p vs xs ds es ds' d Q S hp r1 r2 e k
 unfold gAppend at e
 split at e
 ·split at e
  ·rename_i hl
   cases e
   cases r2 with
   | cons h t=>
    cases t
    exact⟨p,vs,_,rfl,rfl,hp,by rw[r1.len];exact hl,k _ _ (r1.app (.cons h .nil)) .non⟩
  ·cases e
 ·cases e
noncomputable def forD (i:Nat) (F:FS):List D->DEnv->Option Out
 | [],δ=>some (.next δ)
 | d::ds,δ=>(F (δ.set i (some (.val d)))).bind fun o=>match o with
  | .next δ'=>forD i F ds δ'
  | .cont δ'=>forD i F ds δ'
  | .brk δ'=>some (.next δ')
  | .ret s δ'=>some (.ret s δ')
noncomputable def fFor (src:FL) (i:Nat) (F:FS):FS:=fun δ=>thenS (src δ) fun ds δ=>forD i F ds δ
theorem forD_turn {M:Nat->Option Addr} {G0 H0:Hp} {E:Ends} {i:Nat} {tb:TS} {F:FS} (hb:SndS X tb F) {d:D} {ds:List D} {v:V} {G H:Hp} {σ:St} {δ:DEnv} {o:Out} {P:St->Hp->Prop} (S:StOk X.K M G0 H0 G H σ δ) (r:Rep X.K G v d) (e:forD i F (d::ds) δ=some o) (k:PostS X M G0 H0 E o)
  (h:∀ σ' G' H' δ',StOk X.K M G0 H0 G' H' σ' δ'->forD i F ds δ'=some o->P σ' H'):tb { E with nx:=P,ct:=P,bk:=E.nx } (σ.set i (some v)) H:=by
 obtain⟨o1,e1,e⟩:=Option.bind_eq_some_iff.mp e
 refine hb M G0 H0 G H _ _ o1 _ (S.set i (s:=.val d) r fun z=>nomatch z) e1 ?_
 cases o1 with
 | next δ1=>exact fun σ' G' H' S'=>h σ' G' H' δ1 S' e
 | cont δ1=>exact fun σ' G' H' S'=>h σ' G' H' δ1 S' e
 | brk δ1=>cases e;exact k
 | ret s δ1=>cases e;exact k
theorem StOk.rebase {K:PySem.W.Frag} {M:Nat->Option Addr} {G0 H0 G H:Hp} {σ:St} {δ:DEnv} (S:StOk K M G0 H0 G H σ δ):StOk K M G H0 G H σ δ:=⟨S.gh,S.env,S.h0,Same.refl _,fun _ _ n=>.inl n,S.own0,S.mt⟩
theorem StOk.unbase {K:PySem.W.Frag} {M:Nat->Option Addr} {G0 H0 G1 H1 G H:Hp} {σ σ1:St} {δ δ1:DEnv} (S:StOk K M G0 H0 G1 H1 σ1 δ1) (S':StOk K M G1 H0 G H σ δ):StOk K M G0 H0 G H σ δ:=⟨S'.gh,S'.env,S'.h0,S.g0.trans S'.g0,fun b h n=>(S.fr b h n).next S'.g0 fun n1=>S'.fr b h n1,S'.own0,S'.mt⟩
theorem PostS.rebase {M:Nat->Option Addr} {G0 H0 G1 H1:Hp} {σ:St} {δ:DEnv} {E:Ends} {o:Out} (S:StOk X.K M G0 H0 G1 H1 σ δ) (k:PostS X M G0 H0 E o):PostS X M G1 H0 E o:=by
 cases o with
 | next δ1=>exact fun σ' G H S'=>k σ' G H (S.unbase S')
 | brk δ1=>exact fun σ' G H S'=>k σ' G H (S.unbase S')
 | cont δ1=>exact fun σ' G H S'=>k σ' G H (S.unbase S')
 | ret s δ1=>exact fun v σ' G H S' r=>k v σ' G H (S.unbase S') r
noncomputable def rngD (lo:Int) (n:Nat):List D:=(List.range n).map fun (k:Nat)=>D.int (lo+(k:Int))
noncomputable def rng1D (ds:List D):Option (List D):=match ds with
 | [.int j]=>if -(2 ^ 62)<=j/\j<2 ^ 62 then some (rngD 0 j.toNat) else none
 | _=>none
noncomputable def rng2D (ds:List D):Option (List D):=match ds with
 | [.int i,.int j]=>if -(2 ^ 62)<=i/\i<2 ^ 62 ∧ -(2 ^ 62)<=j/\j<2 ^ 62 then some (rngD i (j - i).toNat) else none
 | _=>none
noncomputable def fRng1 (r:FL):FL:=fun δ=>(r δ).bind fun p δ=>lift (rng1D p) δ
noncomputable def fRng2 (r:FL):FL:=fun δ=>(r δ).bind fun p δ=>lift (rng2D p) δ
noncomputable def whileD (c:FT) (F:FS):Nat->DEnv->Option Out
 | 0,_=>none
 | n+1,δ=>thenS (c δ) fun p δ=>if p then (F δ).bind fun o=>(match o with
  | .next δ'=>whileD c F n δ'
  | .cont δ'=>whileD c F n δ'
  | .brk δ'=>some (.next δ')
  | .ret s δ'=>some (.ret s δ')) else some (.next δ)
theorem snd_while (n:Nat) {tb:TS} {F:FS} (hc:SndT X tc fc) (hb:SndS X tb F):SndS X (tWhile tc tb) (whileD fc F n):=by
 intro M G0 H0 G H σ δ o E S e k
 refine⟨fun m σ' H'=>∃ G' δ',StOk X.K M G0 H0 G' H' σ' δ'/\whileD fc F m δ'=some o,⟨n,G,δ,S,e⟩,?_⟩
 rintro m σ' H' ⟨G',δ',S',ef⟩
 cases m with
 | zero=>cases ef
 | succ m=>
  obtain⟨b,δ1,e1,ef⟩:=zb8 ef
  ·refine hc M G0 H0 G' H' σ' δ' (.ok b) δ1 _ S' e1 fun G2 H2 S2 g2 => ?_
   cases b with
   | true=>
    rw[if_pos rfl]
    obtain⟨o1,e2,ef⟩:=Option.bind_eq_some_iff.mp (by simpa using ef)
    refine⟨fun σ3 H3=>∃ G3 δ3,StOk X.K M G0 H0 G3 H3 σ3 δ3/\whileD fc F m δ3=some o,fun σ3 H3 h=>⟨m,Nat.lt_succ_self _,h⟩,?_⟩
    refine hb M G0 H0 G2 H2 σ' δ1 o1 _ S2 e2 ?_
    cases o1 with
    | next δ3=>exact fun σ3 G3 H3 S3=>⟨G3,δ3,S3,ef⟩
    | cont δ3=>exact fun σ3 G3 H3 S3=>⟨G3,δ3,S3,ef⟩
    | brk δ3=>cases ef;exact k
    | ret s δ3=>cases ef;exact k
   | false=>
    rw[if_neg Bool.false_ne_true]
    simp only[Bool.false_eq_true,if_false,Option.some.injEq] at ef
    subst ef
    exact k σ' G2 H2 S2
end
end L4
namespace L4
open PySem L2
section
variable {K:PySem.W.Frag}
theorem SndO.or {r r':R2} {g g':D->D->Option Sl} (h:SndO K r g) (h':SndO K r' g'):SndO K (fun x y H Q=>r x y H Q\/r' x y H Q) (fun a b=>match g a b with | some s=>some s | none=>g' a b):=by
 intro M G0 H0 G H σ δ x y d1 d2 s Q S r1 r2 e k
 dsimp only at e
 split at e
 ·rename_i s' hs
  cases e
  exact .inl (h M G0 H0 G H σ δ x y d1 d2 s Q S r1 r2 hs k)
 ·exact .inr (h' M G0 H0 G H σ δ x y d1 d2 s Q S r1 r2 e k)
noncomputable def iiD (c:Int->Int->Bool) (g:Int->Int->D) (a b:D):Option Sl:=match a,b with
 | .int i,.int j=>if c i j=true then some (.val (g i j)) else none
 | _,_=>none
theorem o_int {C:Int->Int->Prop} {gv:Int->Int->V} {c:Int->Int->Bool} {g:Int->Int->D} (hc:∀ i j,c i j=true->C i j) (hg:∀ G i j,Rep K G (gv i j) (g i j)):SndO K (rI C gv) (iiD c g):=by
 intro M G0 H0 G H σ δ x y d1 d2 s Q S r1 r2 e k
 unfold iiD at e
 split at e
 ·rename_i i j
  split at e
  ·rename_i h
   cases e
   cases zc2 r1
   cases zc2 r2
   exact⟨i,j,rfl,rfl,hc i j h,k _ G H S (Gr.refl ..) (.val (hg G i j))⟩
  ·cases e
 ·cases e
noncomputable def iiD0 (g:Int->Int->D) (a b:D):Option Sl:=match a,b with
 | .int i,.int j=>some (.val (g i j))
 | _,_=>none
theorem o_int0 {gv:Int->Int->V} {g:Int->Int->D} (hg:∀ G i j,Rep K G (gv i j) (g i j)):SndO K (rI0 gv) (iiD0 g):=by
 intro M G0 H0 G H σ δ x y d1 d2 s Q S r1 r2 e k
 unfold iiD0 at e
 split at e
 ·rename_i i j
  cases e
  cases zc2 r1
  cases zc2 r2
  exact⟨i,j,rfl,rfl,k _ G H S (Gr.refl ..) (.val (hg G i j))⟩
 ·cases e
noncomputable def ssD (c:Str->Str->Bool) (g:Str->Str->D) (a b:D):Option Sl:=match a,b with
 | .str i,.str j=>if c i j=true then some (.val (g i j)) else none
 | _,_=>none
theorem o_addS:SndO K (fun x y H Q=>∃ i j,x=.str i/\y=.str j/\i.length+j.length<=sizeLine/\Q (.str (i++j)) H) (ssD (fun i j=>decide (i.length+j.length<=sizeLine)) fun i j=>.str (i++j)):=by
 intro M G0 H0 G H σ δ x y d1 d2 s Q S r1 r2 e k
 unfold ssD at e
 split at e
 ·rename_i i j
  split at e
  ·rename_i h
   cases e
   cases zf3 r1
   cases zf3 r2
   exact⟨i,j,rfl,rfl,of_decide_eq_true h,k _ G H S (Gr.refl ..) (.val (.str _))⟩
  ·cases e
 ·cases e
noncomputable def rCatS (K:PySem.W.Frag):R2:=fun x y H Q=>∃ l b xs zs,x=.ref l/\y=.ref b/\LsK K H l xs/\LsK K H b zs/\xs.length+zs.length<=sizeLine/\∀ p,H p=none->Q (.ref p) (upd H p (.lst (xs++zs)))
noncomputable def catD (a b:D):Option Sl:=match a,b with
 | .lst i,.lst j=>if i.length+j.length<=sizeLine then some (.own (.lst (i++j))) else none
 | _,_=>none
theorem o_cat:SndO K (rCatS K) catD:=by
 intro M G0 H0 G H σ δ x y d1 d2 s Q S r1 r2 e k
 unfold catD at e
 split at e
 ·rename_i i j
  split at e
  ·rename_i h
   cases e
   obtain⟨l,xs,rfl,q1,l1⟩:=zd9 r1
   obtain⟨b,zs,rfl,q2,l2⟩:=zd9 r2
   refine⟨l,b,xs,zs,rfl,rfl,zc3 S.gh q1,zc3 S.gh q2,by rw[l1.len,l2.len];exact h,fun p hp => ?_⟩
   obtain⟨S2,g2,r⟩:=S.newLst hp (l1.app l2)
   exact k _ _ _ S2 g2 r
  ·cases e
 ·cases e
noncomputable def isND (neg:Bool) (a b:D):Option Sl:=match b with
 | .non=>some (.val (.bl (match a with | .non => !neg | _=>neg)))
 | _=>none
theorem rep_isN {G:Hp} {x:V} {d:D} (r:Rep K G x d):decide (x=V.non)=(match d with | .non=>true | _=>false):=by
 cases r<;>rfl
theorem o_notN:SndO K (fun x y H Q=>y=.non/\Q (.bl (!decide (x=.non))) H) (isND true):=by
 intro M G0 H0 G H σ δ x y d1 d2 s Q S r1 r2 e k
 unfold isND at e
 split at e
 ·cases e
  cases rep_non r2
  refine⟨rfl,k _ G H S (Gr.refl ..) ?_⟩
  rw[rep_isN r1]
  cases d1<;>exact .val (.bl _)
 ·cases e
noncomputable def ixD (a b:D):Option Sl:=match a,b with
 | .lst ds,.int i=>(atI ds i).map .val
 | .tup ds,.int i=>(atI ds i).map .val
 | .str z,.int i=>if z.length<=sizeLine then (atI z.cps.toList i).map fun c=>.val (.str ⟨#[c]⟩) else none
 | _,_=>none
theorem RepL.atI {G:Hp} {vs:List V} {ds:List D} {i:Int} {d:D} (r:RepL K G vs ds) (h:L2.atI ds i=some d):∃ v,L2.atI vs i=some v/\Rep K G v d:=by
 unfold L2.atI at h ⊢
 rw[r.len]
 obtain⟨j,e1,e2⟩:=Option.bind_eq_some_iff.mp h
 obtain⟨v,e3,e4⟩:=r.at e2
 exact⟨v,by rw[e1];exact e3,e4⟩
theorem o_ix:SndO K (rIx K) ixD:=by
 intro M G0 H0 G H σ δ x y d1 d2 s Q S r1 r2 e k
 unfold ixD at e
 split at e
 ·rename_i ds i
  obtain⟨d,e1,e2⟩:=Option.map_eq_some_iff.mp e
  subst e2
  obtain⟨l,xs,rfl,q1,l1⟩:=zd9 r1
  cases zc2 r2
  obtain⟨v,e3,r3⟩:=l1.atI e1
  exact .inl ⟨l,xs,i,v,rfl,rfl,(zc3 S.gh q1).sq,e3,k _ G H S (Gr.refl ..) (.val r3)⟩
 ·rename_i ds i
  obtain⟨d,e1,e2⟩:=Option.map_eq_some_iff.mp e
  subst e2
  obtain⟨l,xs,rfl,q1,l1⟩:=rep_tup r1
  cases zc2 r2
  obtain⟨v,e3,r3⟩:=l1.atI e1
  exact .inr (.inl ⟨l,xs,i,v,rfl,rfl,zc8 S.gh q1,e3,k _ G H S (Gr.refl ..) (.val r3)⟩)
 ·rename_i z i
  split at e
  ·rename_i hz
   obtain⟨c,e1,e2⟩:=Option.map_eq_some_iff.mp e
   subst e2
   cases zf3 r1
   cases zc2 r2
   exact .inr (.inr ⟨z,i,c,rfl,rfl,hz,e1,k _ G H S (Gr.refl ..) (.val (.str _))⟩)
  ·cases e
 ·cases e
abbrev FO:=DEnv->Rs (Option Int)
noncomputable def SndP (X:Cx) (t:TO) (f:FO):Prop:=∀ (M:Nat->Option Addr) (G0 H0 G H:Hp) (σ:St) (δ:DEnv) (r:Except XD (Option Int)) (δ':DEnv) (Q:Option Int->Hp->Prop),StOk X.K M G0 H0 G H σ δ->f δ=some (r,δ')->PostT X M G0 H0 G H σ δ δ' Q r->t σ H Q
noncomputable def fNoP:FO:=fun δ=>some (.ok none,δ)
noncomputable def intOf (d:D):Option (Option Int):=match d with | .int i=>some (some i) | _=>none
noncomputable def fPart (f:FE):FO:=fun δ=>(f δ).bind fun p δ=>lift (intOf p.fz) δ
theorem snd_noP {X:Cx} : SndP X tNoPart fNoP:=by
 intro M G0 H0 G H σ δ b δ' Q S e k
 cases e
 exact k G H S (Gr.refl ..)
theorem snd_part {X:Cx} {te:TE} {fe:FE} (h:SndE X te fe):SndP X (tPart te) (fPart fe):=by
 intro M G0 H0 G H σ δ q δ' Q S e k
 obtain⟨s1,δ1,e1,e⟩:=Rs.inv e
 ·refine h.toV M G0 H0 G H σ δ s1 δ1 _ S e1 fun v G1 H1 S1 g1 r1 => ?_
  obtain⟨i,e3,rfl,rfl⟩:=zcz e
  unfold intOf at e3
  split at e3
  ·rename_i i' hi
   cases e3
   rw[hi] at r1
   exact⟨i',zc2 r1,k G1 H1 S1 g1⟩
  ·cases e3
noncomputable def SndSl (K:PySem.W.Frag) (r:V->Option Int->Option Int->Hp->VK->Prop) (g:D->Option Int->Option Int->Option Sl):Prop:=∀ (M:Nat->Option Addr) (G0 H0 G H:Hp) (σ:St) (δ:DEnv) (x:V) (d:D) (lo hi:Option Int) (s:Sl) (Q:VK),StOk K M G0 H0 G H σ δ->Rep K G x d->g d lo hi=some s →
 (∀ v G' H',StOk K M G0 H0 G' H' σ δ->Gr G H σ δ G' H' δ->RepR K H G' H' v s->Q v H')->r x lo hi H Q
noncomputable def fSl (g:D->Option Int->Option Int->Option Sl) (f:FE) (l h:FO):FE:=fun δ=>(f δ).bind fun p δ=>(l δ).bind fun q δ=>(h δ).bind fun r δ=>lift (g p.fz q r) δ
theorem snd_sl {X:Cx} {r:V->Option Int->Option Int->Hp->VK->Prop} {g:D->Option Int->Option Int->Option Sl} {te:TE} {fe:FE} {tl th:TO} {fl fh:FO} (hr:SndSl X.K r g) (he:SndE X te fe) (hl:SndP X tl fl) (hh:SndP X th fh):SndE X (tSl r te tl th) (fSl g fe fl fh):=by
 intro M G0 H0 G H σ δ q δ' Q S e k
 obtain⟨s1,δ1,e1,e⟩:=Rs.inv e
 ·refine he.toV M G0 H0 G H σ δ s1 δ1 _ S e1 fun x G1 H1 S1 g1 r1 => ?_
  obtain⟨lo,δ2,e2,e⟩:=Rs.inv e
  ·refine hl M G0 H0 G1 H1 σ δ1 (.ok lo) δ2 _ S1 e2 fun G2 H2 S2 g2 => ?_
   obtain⟨hi,δ3,e3,e⟩:=Rs.inv e
   ·refine hh M G0 H0 G2 H2 σ δ2 (.ok hi) _ _ S2 e3 fun G3 H3 S3 g3 => ?_
    obtain⟨s4,e4,rfl,rfl⟩:=zcz e
    refine hr M G0 H0 G3 H3 σ _ x _ lo hi s4 Q S3 (Rep.mono (g2.gg.trans g3.gg) r1) e4 fun v G4 H4 S4 g4 r4 => ?_
    exact k v G4 H4 S4 (g1.trans (g2.trans (g3.trans g4))) (r4.back (g1.trans (g2.trans g3)))
noncomputable def cutD {α:Type} (xs:List α) (lo hi:Option Int):List α:=(xs.drop (HT.sIx xs.length 0 lo)).take (HT.sIx xs.length xs.length hi - HT.sIx xs.length 0 lo)
theorem RepL.cut {G:Hp} {vs:List V} {ds:List D} (lo hi:Option Int) (r:RepL K G vs ds):RepL K G (cutV vs lo hi) (cutD ds lo hi):=by
 unfold cutV cutD
 rw[r.len]
 exact RepL.take _ (RepL.drop _ r)
noncomputable def rExtendS (K:PySem.W.Frag):V->List V->Hp->VK->Prop:=fun x vs H Q=>∃ l b xs zs,x=.ref l/\vs=[.ref b]/\H l=some (.lst xs)/\LsK K H b zs/\xs.length+zs.length<=sizeLine/\Q .non (upd H l (.lst (xs++zs)))
noncomputable def gExtend (ds es:List D):Option (List D×D):=match es with | [.lst zs]=>if ds.length+zs.length<=sizeLine then some (ds++zs,.non) else none | _=>none
theorem m_extend:SndM K (rExtendS K) gExtend:=by
 intro G H p vs xs ds es ds' d Q S hp r1 r2 e k
 unfold gExtend at e
 split at e
 ·rename_i zs
  split at e
  ·rename_i hl
   cases e
   cases r2 with
   | cons h t=>
    cases t
    obtain⟨b,ws,rfl,q,l⟩:=zd9 h
    exact⟨p,b,vs,ws,rfl,rfl,hp,zc3 S q,by rw[r1.len,l.len];exact hl,k _ _ (r1.app l) .non⟩
  ·cases e
 ·cases e
noncomputable def g1 (g:D->Option Sl) (ds:List D):Option Sl:=match ds with | [d]=>g d | _=>none
noncomputable def g2 (g:D->D->Option Sl) (ds:List D):Option Sl:=match ds with | [a,b]=>g a b | _=>none
theorem repL1 {G:Hp} {xs:List V} {d:D} (r:RepL K G xs [d]):∃ x,xs=[x]/\Rep K G x d:=by
 cases r with
 | cons h t=>cases t;exact⟨_,rfl,h⟩
theorem repL2 {G:Hp} {xs:List V} {d e:D} (r:RepL K G xs [d,e]):∃ x y,xs=[x,y]/\Rep K G x d/\Rep K G y e:=by
 cases r with
 | cons h t=>
  obtain⟨y,rfl,r⟩:=repL1 t
  exact⟨_,_,rfl,h,r⟩
noncomputable def lenD (d:D):Option Sl:=match d with
 | .str z=>if z.length<=sizeLine then some (.val (.int z.length)) else none
 | .lst ds=>some (.val (.int ds.length))
 | .tup ds=>some (.val (.int ds.length))
 | _=>none
theorem c_len:SndN K (fun xs H Q=>∃ x n,xs=[x]/\LenV K x H n/\Q (.int n) H) (g1 lenD):=by
 intro M G0 H0 G H σ δ xs ds s Q S r e k
 unfold g1 at e
 split at e
 ·rename_i d
  obtain⟨x,rfl,rr⟩:=repL1 r
  unfold lenD at e
  split at e
  ·rename_i z
   split at e
   ·rename_i hz
    cases e
    cases zf3 rr
    exact⟨_,z.length,rfl,⟨hz,rfl⟩,k _ G H S (Gr.refl ..) (.val (.int _))⟩
   ·cases e
  ·rename_i es
   cases e
   obtain⟨l,vs,rfl,q1,l1⟩:=zd9 rr
   exact⟨_,vs.length,rfl,.inl ⟨vs,(zc3 S.gh q1).sq,rfl⟩,k _ G H S (Gr.refl ..) (.val (by rw[l1.len];exact .int _))⟩
  ·rename_i es
   cases e
   obtain⟨l,vs,rfl,q1,l1⟩:=rep_tup rr
   exact⟨_,vs.length,rfl,.inr ⟨vs,zc8 S.gh q1,rfl⟩,k _ G H S (Gr.refl ..) (.val (by rw[l1.len];exact .int _))⟩
  ·cases e
 ·cases e
theorem c_ii {gv:Int->Int->V} {g:Int->Int->D} (hg:∀ G i j,Rep K G (gv i j) (g i j)):SndN K (fun xs H Q=>∃ i j,xs=[.int i,.int j]/\Q (gv i j) H) (g2 (iiD0 g)):=by
 intro M G0 H0 G H σ δ xs ds s Q S r e k
 unfold g2 at e
 split at e
 ·obtain⟨x,y,rfl,r1,r2⟩:=repL2 r
  unfold iiD0 at e
  split at e
  ·rename_i i j
   cases e
   cases zc2 r1
   cases zc2 r2
   exact⟨i,j,rfl,k _ G H S (Gr.refl ..) (.val (hg _ _ _))⟩
  ·cases e
 ·cases e
noncomputable def intD (d:D):Option Sl:=match d with | .int i=>some (.val (.int i)) | .bl k=>some (.val (.int (if k then 1 else 0))) | _=>none
noncomputable def listD (d:D):Option Sl:=match d with | .lst ds=>some (.own (.lst ds)) | .tup ds=>some (.own (.lst ds)) | _=>none
theorem c_list:SndN K (fun xs H Q=>∃ p ys,xs=[.ref p]/\(SqL K H p ys\/SqT K H p ys)/\∀ l,H l=none->Q (.ref l) (upd H l (.lst ys))) (g1 listD):=by
 intro M G0 H0 G H σ δ xs ds s Q S r e k
 unfold g1 at e
 split at e
 ·rename_i d
  obtain⟨x,rfl,rr⟩:=repL1 r
  unfold listD at e
  split at e
  ·cases e
   obtain⟨l,vs,rfl,q1,l1⟩:=zd9 rr
   refine⟨l,vs,rfl,.inl (zc3 S.gh q1).sq,fun p hp => ?_⟩
   obtain⟨S2,g2,r⟩:=S.newLst hp l1
   exact k _ _ _ S2 g2 r
  ·cases e
   obtain⟨l,vs,rfl,q1,l1⟩:=rep_tup rr
   refine⟨l,vs,rfl,.inr (zc8 S.gh q1),fun p hp => ?_⟩
   obtain⟨S2,g2,r⟩:=S.newLst hp l1
   exact k _ _ _ S2 g2 r
  ·cases e
 ·cases e
noncomputable def fChain (g g':D->D->Option Sl) (f1 f2 f3:FE):FE:=fun δ=>(f1 δ).bind fun p δ=>(f2 δ).bind fun q δ=>match g p.fz q.fz with
 | some (.val (.bl true))=>(f3 δ).bind fun r δ=>lift (g' q.fz r.fz) δ
 | some (.val (.bl false))=>some (.ok (.val (.bl false)),δ)
 | _=>none
theorem snd_truth {X:Cx} {ta:TE} {f1:FE} (ha:SndE X ta f1):SndT X (fun σ H Q=>ta σ H fun x H'=>∃ k,TruV X.K x H' k/\Q k H') (fTr f1):=by
 intro M G0 H0 G H σ δ q δ' Q S e k
 obtain⟨s1,δ1,e1,e⟩:=Rs.inv e
 ·obtain⟨b,e2,rfl,rfl⟩:=zcz e
  refine ha.toV M G0 H0 G H σ δ s1 _ _ S e1 fun x G1 H1 S1 g1 r1 => ?_
  refine⟨_,?_,k G1 H1 S1 g1⟩
  cases hd:s1.fz with
  | non=>rw[hd] at e2 r1;cases e2;cases rep_non r1;rfl
  | bl c=>rw[hd] at e2 r1;cases e2;cases rep_bl r1;rfl
  | int i =>
   rw[hd] at e2 r1;cases e2;cases zc2 r1
   show decide (i ≠ 0)=(i != 0)
   by_cases h:i=0<;>simp [h]
  | str z=>
   rw[hd] at e2 r1;
   change (if z.length<=sizeLine then some (decide (z.length ≠ 0)) else none)=some b at e2
   split at e2
   ·rename_i hz
    cases e2
    cases zf3 r1
    refine⟨hz,?_⟩
    by_cases h:z.length=0
    ·simp [h]
    ·have h2:((z.length:Nat):Int) ≠ 0:=by lia
     rw[decide_eq_true h]
     exact (bne_iff_ne.mpr h2).symm
   ·cases e2
  | tup ds =>
   rw[hd] at e2 r1;cases e2
   obtain⟨a,vs,rfl,q,l⟩:=rep_tup r1
   exact .inr (.inl ⟨vs,zc8 S1.gh q,by cases l<;>rfl⟩)
  | lst ds =>
   rw[hd] at e2 r1;cases e2
   obtain⟨a,vs,rfl,q,l⟩:=zd9 r1
   exact .inl ⟨vs,(zc3 S1.gh q).sq,by cases l<;>rfl⟩
  | ty n=>rw[hd] at e2;cases e2
  | dct ks vs=>rw[hd] at e2;cases e2
  | dcf _ _=>rw[hd] at e2;cases e2
  | tg _ _=>rw[hd] at e2;cases e2
end
end L4
namespace L4
open PySem L2
noncomputable def addD:D->D->Option Sl:=fun a b=>match iiD0 (fun i j=>.int (i+j)) a b with
 | some s=>some s
 | none=>(fun a b=>match ssD (fun i j=>decide (i.length+j.length<=sizeLine)) (fun i j=>.str (i++j)) a b with | some s=>some s | none=>catD a b) a b
noncomputable def subD:D->D->Option Sl:=iiD0 fun i j=>.int (i - j)
noncomputable def cMul (i j:Int):Bool:=(decide (-(2 ^ 64)<i) && decide (i<2 ^ 64)) || (decide (-(2 ^ 64)<j) && decide (j<2 ^ 64))
noncomputable def mulD:D->D->Option Sl:=iiD cMul fun i j=>.int (i * j)
noncomputable def cDiv (_ j:Int):Bool:=decide (0<j) && decide (j<1073741824)
noncomputable def fdivD:D->D->Option Sl:=iiD cDiv fun i j=>.int (i / j)
noncomputable def modD:D->D->Option Sl:=iiD (fun _ j=>decide (0<j)) fun i j=>.int (i % j)
noncomputable def cPow (i j:Int):Bool:=decide (0<=j) && decide (j<=1000000) && decide (i.natAbs<2 ^ 64)
noncomputable def powD:D->D->Option Sl:=iiD cPow fun i j=>.int (i ^ j.toNat)
noncomputable def negD:D->Option Sl:=fun d=>match d with | .int i=>some (.val (.int (-i))) | _=>none
noncomputable def ltD:D->D->Option Sl:=iiD0 fun i j=>.bl (decide (i<j))
noncomputable def leD:D->D->Option Sl:=iiD0 fun i j=>.bl (decide (i<=j))
noncomputable def gtD:D->D->Option Sl:=iiD0 fun i j=>.bl (decide (j<i))
noncomputable def geD:D->D->Option Sl:=iiD0 fun i j=>.bl (decide (j<=i))
noncomputable def maxD:D->D->Option Sl:=iiD0 fun i j=>.int (if j > i then j else i)
noncomputable def minD:D->D->Option Sl:=iiD0 fun i j=>.int (if j<i then j else i)
mutual
noncomputable def eqD:D->D->Bool
 | .non,.non=>true
 | .bl a,.bl b=>a == b
 | .int a,.int b=>a == b
 | .bl a,.int b=>(if a=true then (1:Int) else 0) == b
 | .int a,.bl b=>a == (if b=true then (1:Int) else 0)
 | .str a,.str b=>a == b
 | .tup a,.tup b=>eqDs a b
 | .lst a,.lst b=>eqDs a b
 | _,_=>false
noncomputable def eqDs:List D->List D->Bool
 | [],[]=>true
 | a::as,b::bs=>eqD a b && eqDs as bs
 | _,_=>false
end
mutual
noncomputable def depD:D->Nat
 | .tup a=>depDs a+1
 | .lst a=>depDs a+1
 | _=>0
noncomputable def depDs:List D->Nat
 | []=>0
 | a::as=>max (depD a) (depDs as)
end
noncomputable def strOkD (x:Str):Bool:=x.cps.all (· < 0x110000)
mutual
noncomputable def za1:D->Bool
 | .ty _=>false
 | .dct _ _=>false
 | .dcf _ _=>false
 | .tg _ _=>false
 | .str x=>strOkD x
 | .tup ds=>za9 ds
 | .lst ds=>za9 ds
 | _=>true
noncomputable def za9:List D->Bool
 | []=>true
 | d::ds=>za1 d && za9 ds
end
noncomputable def eqOp (neg:Bool) (a b:D):Option Sl:=if (decide (depD a<=100) && za1 a && za1 b)=true then some (.val (.bl (if neg then !eqD a b else eqD a b))) else none
noncomputable def inOp (neg:Bool) (a b:D):Option Sl:=match b with
 | .lst ds=>if (decide (depD a<=100) && za1 a && za9 ds)=true then some (.val (.bl (if neg then !ds.any (fun y=>eqD y a) else ds.any (fun y=>eqD y a)))) else none
 | .tup ds=>if (decide (depD a<=100) && za1 a && za9 ds)=true then some (.val (.bl (if neg then !ds.any (fun y=>eqD y a) else ds.any (fun y=>eqD y a)))) else none
 | .str y=>match a with
  | .str x=>some (.val (.bl (if neg then !(!(Builtin.Str.occurrences y x 0 y.length 1).isEmpty) else !(Builtin.Str.occurrences y x 0 y.length 1).isEmpty)))
  | _=>none
 | _=>none
noncomputable def isiT:D->String->Option Bool
 | .int _,T=>if T = "int" then some true else if T = "bool" ∨ T = "str" ∨ T = "list" ∨ T = "tuple" then some false else none
 | .bl _,T=>if T = "int" ∨ T = "bool" then some true else if T = "str" ∨ T = "list" ∨ T = "tuple" then some false else none
 | .str _,T=>if T = "str" then some true else if T = "int" ∨ T = "bool" ∨ T = "list" ∨ T = "tuple" then some false else none
 | .tup _,T=>if T = "tuple" then some true else if T = "int" ∨ T = "bool" ∨ T = "str" ∨ T = "list" then some false else none
 | .lst _,T=>if T = "list" then some true else if T = "int" ∨ T = "bool" ∨ T = "str" ∨ T = "tuple" then some false else none
 | .non,T=>if T = "int" ∨ T = "bool" ∨ T = "str" ∨ T = "list" ∨ T = "tuple" then some false else none
 | _,_=>none
noncomputable def isiD (a b:D):Option Sl:=match b with | .ty T=>(isiT a T).map fun k=>.val (.bl k) | _=>none
noncomputable def startD (n:Nat) (_:List Nat) (ds:List D):DEnv:=(ds.map fun d=>some (.val d))++List.replicate (n - ds.length) none
abbrev Fn:=List D->Option (Except XD Sl×List D)
noncomputable def runD (n m:Nat) (ms:List Nat) (f:FS):Fn:=fun ds=>if ds.length=m then (match f (startD n ms ds) with
 | some (.ret s _)=>some (.ok s,[])
 | some (.next _)=>some (.ok (.val .non),[])
 | _=>none) else none
end L4
namespace L4
open PySem L2
mutual
noncomputable def noLst:D->Bool
 | .lst _=>false
 | .dct _ _=>false
 | .dcf _ _=>false
 | .tg _ _=>false
 | .tup ds=>noLsts ds
 | _=>true
noncomputable def noLsts:List D->Bool
 | []=>true
 | d::ds=>noLst d && noLsts ds
end
noncomputable def Sl.flat:Sl->Bool
 | .val d=>noLst d
 | .own (.lst ds)=>noLsts ds
 | .own (.dct _ ds)=>noLsts ds
 | _=>false
noncomputable def frzS:Option Sl->Option Sl
 | some s=>some (.val s.fz)
 | none=>none
noncomputable def frzE (δ:DEnv):DEnv:=δ.map frzS
noncomputable def fPure (f:FE):FE:=fun δ=>match f (frzE δ) with
 | some (.ok s,_)=>if s.flat=true then some (.ok s,δ) else f δ
 | _=>none
noncomputable def fPureT (c:FT):FT:=fun δ=>match c (frzE δ) with
 | some (.ok s,_)=>some (.ok s,δ)
 | _=>none
section
variable {K:PySem.W.Frag} {M:Nat->Option Addr}
theorem frz_at {δ:DEnv} {i:Nat} {s:Sl} (h:(frzE δ)[i]? = some (some s)):∃ s',δ[i]? = some (some s')/\s=.val s'.fz:=by
 unfold frzE at h
 rw[List.getElem?_map] at h
 cases q:δ[i]? with
 | none=>rw[q] at h;cases h
 | some o=>
  rw[q] at h
  cases o with
  | none=>cases h
  | some s'=>cases h;exact⟨s',rfl,rfl⟩
theorem noOw_frz {σ:St} {δ:DEnv} {p:Addr} : ¬ Ow σ (frzE δ) p:=fun ⟨i,s,z,os,_⟩=>by
 obtain⟨s',_,rfl⟩:=frz_at z
 cases os
noncomputable def isHO:HO->Prop
 | .lst _=>True
 | .dT _=>True
 | .dK _=>True
 | _=>False
theorem OwnAt.isHO {G H:Hp} {p:Addr} {d:D} (h:OwnAt K G H p d):∃ o,H p=Option.some o/\L4.isHO o:=by
 cases d with
 | lst ds=>obtain⟨vs,h,_⟩:=h;exact⟨_,h,trivial⟩
 | dct ks ds=>
  obtain⟨vs,⟨kvs,h,_⟩,_⟩:=h
  exact⟨_,h,trivial⟩
 | _=>exact h.elim
open Classical in
theorem StOk.frz {G0 H0 G H:Hp} {σ:St} {δ:DEnv} (S:StOk K M G0 H0 G H σ δ):∃ G1,StOk K M G0 H0 G1 H σ (frzE δ)/\Same G G1/\∀ b o,G1 b=some o->G b=some o\/isHO o:=by
 have hOw:∀ p,Ow σ δ p->∃ o,H p=some o/\G p=none/\isHO o:=fun p ⟨i,s,z1,os,z2⟩=>by
  obtain⟨v,z3,r⟩:=S.env.at' i _ z1
  obtain⟨q,e1,e2,r⟩:=r.own os
  rw[z2] at z3;cases z3;cases e1
  obtain⟨o,e3,e4⟩:=r.isHO
  exact⟨o,e3,e2,e4⟩
 have hs:Same G (fun b=>if Ow σ δ b then H b else G b):=fun b o q=>by
  have:¬ Ow σ δ b:=fun z=>by obtain⟨_,_,e,_⟩:=hOw b z;rw[q] at e;cases e
  show (if Ow σ δ b then H b else G b)=some o
  rw[if_neg this];exact q
 refine⟨fun b=>if Ow σ δ b then H b else G b,⟨fun b o q => ?_,⟨by simpa [frzE] using S.env.len,fun i s e => ?_,fun i j p a b z1 _ oa _ z3 _=>(noOw_frz ⟨i,a,z1,oa,z3⟩).elim⟩,S.h0,S.g0.trans hs,fun b h n => ?_,fun p z=>(noOw_frz z).elim,fun i d e => ?_⟩,hs,fun b o q => ?_⟩
 ·split at q
  ·exact q
  ·exact S.gh b o q
 ·obtain⟨s',q,rfl⟩:=frz_at e
  obtain⟨v,e1,r⟩:=S.env.at' i s' q
  refine⟨v,e1,?_⟩
  by_cases os:s'.isO=true
  ·obtain⟨p,rfl,e3,r⟩:=r.own os
   obtain⟨o,ho⟩:=r.some
   have r2:=r.shown e3 ho
   have:Same (upd G p o) (fun b=>if Ow σ δ b then H b else G b):=fun b u z=>by
    show (if Ow σ δ b then H b else G b)=some u
    by_cases hb:b=p
    ·subst hb
     rw[za4] at z;cases z
     rw[if_pos ⟨i,s',q,os,e1⟩];exact ho
    ·rw[za2 hb] at z
     exact hs b u z
   exact Rep.mono this r2
  ·cases s' with
   | val d=>exact Rep.mono hs r
   | own d=>exact absurd rfl os
   | lnt d=>exact absurd rfl os
 ·have:¬ Ow σ δ b:=fun z=>h (S.own0 b z)
  show Nt (if Ow σ δ b then H b else G b)
  rw[if_neg this];exact S.fr b h n
 ·obtain⟨s',_,z⟩:=frz_at e
  cases z
 ·dsimp only at q
  split at q
  ·rename_i z
   obtain⟨o',e,_,e4⟩:=hOw b z
   rw[e] at q;cases q
   exact .inr e4
  ·exact .inl q
mutual
theorem Rep.narrow {G G':Hp} (h:∀ a vs,(SqT K G a vs->SqT K G' a vs)/\(G a=some (.tup vs)->G' a=some (.tup vs))):∀ {v:V} {d:D},Rep K G v d->noLst d=true->Rep K G' v d
 | _,_,.non,_=>.non
 | _,_,.bl b,_=>.bl b
 | _,_,.int i,_=>.int i
 | _,_,.str x,_=>.str x
 | _,_,.ty n,_=>.ty n
 | _,_,.tup q x r,n=>.tup ((h _ _).1 q) (fun z=>(h _ _).2 (x z)) (RepL.narrow h r n)
 | _,_,.lst _ _,n=>nomatch n
 | _,_,.dct _ _,n=>nomatch n
 | _,_,.dcf _ _,n=>nomatch n
 | _,_,.tg _,n=>nomatch n
theorem RepL.narrow {G G':Hp} (h:∀ a vs,(SqT K G a vs->SqT K G' a vs)/\(G a=some (.tup vs)->G' a=some (.tup vs))):∀ {vs:List V} {ds:List D},RepL K G vs ds->noLsts ds=true->RepL K G' vs ds
 | _,_,.nil,_=>.nil
 | _,_,.cons q r,n=>by
  have n':(noLst _ && noLsts _)=true:=n
  rw[Bool.and_eq_true] at n'
  exact .cons (Rep.narrow h q n'.1) (RepL.narrow h r n'.2)
end
open Classical in
noncomputable def G3of (G G2 H:Hp):Hp:=fun b=>if H b=none\/(∃ ks:List Key,G2 b=some (.tup (ks.map kV))) then G2 b else G b
theorem G3_pos {G G2 H:Hp} {b:Addr} (h:H b=none\/∃ ks:List Key,G2 b=some (.tup (ks.map kV))):G3of G G2 H b=G2 b:=by unfold G3of;rw[if_pos h]
theorem G3_neg {G G2 H:Hp} {b:Addr} (h:¬ (H b=none\/∃ ks:List Key,G2 b=some (.tup (ks.map kV)))):G3of G G2 H b=G b:=by unfold G3of;rw[if_neg h]
theorem StOk.back {G0 H0 G H G1 G2 H2:Hp} {σ:St} {δ δ2:DEnv} (S:StOk K M G0 H0 G H σ δ) (n1:∀ b o,G1 b=some o->G b=some o\/isHO o)
  (S2:StOk K M G0 H0 G2 H2 σ δ2) (g:Gr G1 H σ (frzE δ) G2 H2 δ2):
  ∃ G3,StOk K M G0 H0 G3 H2 σ δ/\Gr G H σ δ G3 H2 δ/\(∀ a vs,(SqT K G2 a vs->SqT K G3 a vs)/\(G2 a=some (.tup vs)->G3 a=some (.tup vs)))/\∀ b,H b=none->G3 b=G2 b:=by
 have hh:Same H H2:=fun b o e=>g.hs b o e noOw_frz
 have hs:Same G (G3of G G2 H):=fun b o q=>by
  by_cases c:H b=none\/∃ ks:List Key,G2 b=some (.tup (ks.map kV))
  ·rw[G3_pos c]
   have h1:=S.gh b o q
   rcases c with c | ⟨ks,c⟩
   ·rw[c] at h1;cases h1
   ·have h2:=S2.gh _ _ c
    rw[hh b o h1] at h2
    rw[c,←Option.some.inj h2]
  ·rw[G3_neg c];exact q
 have nofr:∀ b,H b ≠ none->Nt (G b)->Nt (G3of G G2 H b):=fun b h n=>by
  by_cases c:H b=none\/∃ ks:List Key,G2 b=some (.tup (ks.map kV))
  ·rw[G3_pos c]
   rcases c with c | c
   ·exact absurd c h
   ·exact .inr c
  ·rw[G3_neg c];exact n
 refine⟨G3of G G2 H,⟨fun b o q => ?_,⟨S.env.len,fun i s e => ?_,S.env.sep⟩,S.h0.trans hh,S.g0.trans hs,fun b h n=>nofr b (same_ne S.h0 h) (S.fr b h n),S.own0,S.mt⟩,Gr.of hh hs (fun b h n _=>nofr b h (.inl n)) fun _ z=>z,fun a vs => ?_,fun b hb=>G3_pos (.inl hb)⟩
 ·by_cases c:H b=none\/∃ ks:List Key,G2 b=some (.tup (ks.map kV))
  ·rw[G3_pos c] at q;exact S2.gh b o q
  ·rw[G3_neg c] at q;exact hh b o (S.gh b o q)
 ·obtain⟨v,e1,r⟩:=S.env.at' i s e
  refine⟨v,e1,?_⟩
  have key:∀ d,(∃ p,v=.ref p/\G p=none/\OwnAt K G H p d)->∃ p,v=.ref p/\G3of G G2 H p=none/\OwnAt K (G3of G G2 H) H2 p d:=fun d ⟨p,e2,e4,rr⟩=>by
   obtain⟨o,e3,ho⟩:=rr.isHO
   refine⟨p,e2,?_,rr.keep (by rw[hh _ _ e3,e3]) hs⟩
   rw[G3_neg]
   ·exact e4
   ·rintro (c | ⟨ks,c⟩)
    ·rw[e3] at c;cases c
    ·have h2:=S2.gh _ _ c
     rw[hh _ _ e3] at h2
     cases Option.some.inj h2
     exact ho
  cases s with
  | val d=>exact Rep.mono hs r
  | own d=>exact key d r
  | lnt d=>exact key d r
 ·have at_:∀ o,G2 a=some o -> ¬ isHO o->G3of G G2 H a=some o:=fun o e no=>by
   by_cases c:H a=none\/∃ ks:List Key,G2 a=some (.tup (ks.map kV))
   ·rw[G3_pos c];exact e
   ·rw[G3_neg c]
    cases e1:G1 a with
    | none=>
     rcases g.fr a (fun z=>c (.inl z)) e1 noOw_frz with h | h
     ·rw[e] at h;cases h
     ·exact absurd (.inr h) c
    | some o1=>
     have e2:=g.gg a o1 e1
     rw[e] at e2;cases e2
     rcases n1 a o e1 with q | q
     ·exact q
     ·exact absurd q no
  refine⟨fun q => ?_,fun q=>at_ _ q fun z=>z⟩
  rcases q with (q | ⟨o,q⟩) | q
  ·exact .inl (.inl (at_ _ q fun z=>z))
  ·exact .inl (.inr ⟨o,at_ _ q fun z=>z⟩)
  ·exact .inr q
end
section
variable {X:Cx}
theorem snd_pure {te:TE} {fe:FE} (h:SndE X te fe):SndE X te (fPure fe):=by
 intro M G0 H0 G H σ δ q δ' Q S e k
 unfold fPure at e
 obtain⟨G1,S1,hs,n1⟩:=S.frz
 split at e
 ·rename_i s δ1 e1
  split at e
  ·rename_i hf
   cases e
   refine h M G0 H0 G1 H σ (frzE δ) (.ok s) δ1 Q S1 e1 fun v G2 H2 S2 g2 r2 => ?_
   obtain⟨G3,S3,g3,hq,h3⟩:=S.back n1 S2 g2
   refine k v G3 H2 S3 g3 ⟨?_,r2.2⟩
   obtain⟨r,nw⟩:=r2
   cases s with
   | val d=>exact Rep.narrow hq r hf
   | lnt d=>cases hf
   | own d=>
    obtain⟨p,rfl,y2,r⟩:=r
    obtain⟨_,q,y3,y4⟩:=nw rfl
    cases y3
    refine⟨p,rfl,by rw[h3 p y4];exact y2,?_⟩
    cases d with
    | lst ds=>obtain⟨vs,y1,r⟩:=r;exact⟨vs,y1,RepL.narrow hq r hf⟩
    | dct ks ds=>obtain⟨vs,y1,r⟩:=r;exact⟨vs,y1,RepL.narrow hq r hf⟩
    | _=>exact r.elim
  ·exact h M G0 H0 G H σ δ _ δ' Q S e k
 ·cases e
end
end L4
namespace L4
open PySem L2
section
variable {X:Cx} {a b c e:Expr} {es:List Expr} {f1 f2 f3:FE} {fl:FL} {pos:Pos} {c1 c2:FT} {rest:List Expr}
noncomputable def QR (X:Cx) (op:CmpOp) (g:D->D->Option Sl):Prop:=∃ r,OpR X (compareOp op) r/\SndO X.K r g
noncomputable def BR (X:Cx) (op:Operator) (g:D->D->Option Sl):Prop:=∃ r,OpR X (binaryOp op) r/\SndO X.K r g
theorem de_bin {op:Operator} {g:D->D->Option Sl} (h:BR X op g) (ha:DE X a f1) (hb:DE X b f2):DE X (.BinOp a op b pos) (fOp g f1 f2):=
 let ⟨_,h1,h2⟩:=h;let ⟨_,a1,a2⟩:=ha;let ⟨_,b1,b2⟩:=hb;⟨_,pe_op h1 a1 b1,snd_op h2 a2 b2⟩
theorem de_cmp {op:CmpOp} {g:D->D->Option Sl} (h:QR X op g) (ha:DE X a f1) (hb:DE X b f2) (hm:behindInMarks op b=false):DE X (.Compare a [op] [b] pos) (fOp g f1 f2):=
 let ⟨_,h1,h2⟩:=h;let ⟨_,a1,a2⟩:=ha;let ⟨_,b1,b2⟩:=hb;⟨_,pe_cmpR h1 a1 b1 hm,snd_op h2 a2 b2⟩
theorem zb0 {op:CmpOp} {g:D->D->Option Sl} (h:QR X op g) (ha:DE X a f1) (hb:DE X b f2) (hm:behindInMarks op b=false):DT X (.Compare a [op] [b] pos) (fTb (fOp g f1 f2)):=
 let ⟨_,h1,h2⟩:=h;let ⟨_,a1,a2⟩:=ha;let ⟨_,b1,b2⟩:=hb;⟨_,pt_cmpR h1 a1 b1 hm,snd_test (snd_op h2 a2 b2)⟩
theorem q_lt:QR X .Lt ltD:=⟨_,op_lt,o_int0 fun _ _ _=>.bl _⟩
theorem q_gt:QR X .Gt gtD:=⟨_,op_gt,o_int0 fun _ _ _=>.bl _⟩
theorem q_notN:QR X .IsNot (isND true):=⟨_,op_notN,o_notN⟩
theorem de_sub (ha:DE X a f1) (hb:DE X b f2):DE X (.BinOp a .Sub b pos) (fOp subD f1 f2):=de_bin ⟨_,op_sub,o_int0 fun _ _ _=>.int _⟩ ha hb
theorem de_mul (ha:DE X a f1) (hb:DE X b f2):DE X (.BinOp a .Mult b pos) (fOp mulD f1 f2):=de_bin ⟨_,op_mul,o_int (fun i j h=>by
 unfold cMul at h
 rw[Bool.or_eq_true,Bool.and_eq_true,Bool.and_eq_true] at h
 exact h.imp (fun z=>⟨of_decide_eq_true z.1,of_decide_eq_true z.2⟩) fun z=>⟨of_decide_eq_true z.1,of_decide_eq_true z.2⟩) fun _ _ _=>.int _⟩ ha hb
theorem zb5 (ha:DE X a f1) (hb:DE X b f2):DE X (.BinOp a .FloorDiv b pos) (fOp fdivD f1 f2):=de_bin ⟨_,op_fdiv,o_int (fun i j h=>by
 unfold cDiv at h
 rw[Bool.and_eq_true] at h
 exact⟨of_decide_eq_true h.1,of_decide_eq_true h.2⟩) fun _ _ _=>.int _⟩ ha hb
theorem zbz (ha:DE X a f1) (hb:DE X b f2):DE X (.BinOp a .Mod b pos) (fOp modD f1 f2):=de_bin ⟨_,op_mod,o_int (fun i j h=>of_decide_eq_true h) fun _ _ _=>.int _⟩ ha hb
theorem de_pow (ha:DE X a f1) (hb:DE X b f2):DE X (.BinOp a .Pow b pos) (fOp powD f1 f2):=de_bin ⟨_,op_pow,o_int (fun i j h=>by
 unfold cPow at h
 rw[Bool.and_eq_true,Bool.and_eq_true] at h
 exact⟨of_decide_eq_true h.1.1,of_decide_eq_true h.1.2,of_decide_eq_true h.2⟩) fun _ _ _=>.int _⟩ ha hb
theorem Inv.lstR {pins:List (Addr×Obj)} {σ:St} {H:Hp} {s:Shared} {l:Addr} {xs:List V} (I:Inv X pins σ H s) (hH:LsK X.K H l xs):xs.length<=sizeLine/\∃ (its:List Value) (n:Nat),Vals xs its/\xs.length=its.length/\s.heap.get? l=some { cls:=.type "list",data:=.seq its.toArray n }:=by
 rcases hH with hH | ⟨its,n,h1,h2,h3⟩
 ·obtain⟨z,its,n,r,e⟩:=hH.ok I.hok
  exact⟨z,its,n,r,r.length,e⟩
 ·refine⟨by rw[h3.length,Array.length_toList];exact h2,its.toList,n,h3,h3.length,?_⟩
  have:=I.kIn l _ h1
  simpa using this
theorem op_catS:OpR X (binaryOp .Add) (rCatS X.K):=by
 intro pins s σ H x y v u Q I rx ry h
 obtain⟨l,b,xs,zs,rfl,rfl,hH,hB,hz,q⟩:=h
 cases rx
 cases ry
 obtain⟨z,its,n,r,hl,e⟩:=Inv.lstR I hH
 obtain⟨z2,its2,n2,r2,hl2,e2⟩:=Inv.lstR I hB
 refine PySem.P.add_list e e2 ?_ (by rw[List.size_toArray,List.size_toArray];lia)
 have ea:its.toArray++its2.toArray=(its++its2).toArray:=by simp
 rw[ea]
 exact⟨.ref _,_,I.lnew (t':=s.toks) (r.append r2) (by rw[List.length_append];lia),rfl,q _ I.fresh⟩
theorem mt_extendS:MtM X "list.extend" (rExtendS X.K):=by
 intro pins s σ H x vs v us Q I rx rv h
 obtain⟨l,b,xs,zs,rfl,rfl,hH,hB,hz,q⟩:=h
 cases rx
 obtain⟨u,rfl,ru⟩:=rv.one
 cases ru
 obtain⟨z,its,n,r,hl,e⟩:=I.lstM hH
 obtain⟨z2,its2,n2,r2,hl2,e2⟩:=Inv.lstR I hB
 have hsz:its.toArray.size+its2.toArray.size<=sizeLine:=by rw[List.size_toArray,List.size_toArray];lia
 have hlong:¬ (!its.toArray.isEmpty && Builtin.List.listTooLong (its.toArray.size+its2.toArray.size))=true:=by
  rw[notLongL hsz,Bool.and_false]
  exact Bool.false_ne_true
 refine call_meets F.slot_list_extend ⟨_,e,rfl⟩ F.entry_list_extend (F.args_list_extend_2 _ _)
  (AutoSeq1.list_extend_list_list_0 l its.toArray n b its2.toArray n2 hlong (by rw[List.size_toArray];lia) (by lia)) ⟨e,e2,?_⟩
 refine⟨.non,_,I.lset (its':=its++its2) hH e (by simp) (r.append r2) ?_,rfl,q⟩
 rw[List.length_append]
 lia
theorem zc0 (ha:DE X a f1) (hb:DE X b f2):DE X (.BinOp a .Add b pos) (fOp addD f1 f2):=de_bin ⟨_,op_add.or (op_add_str.or op_catS),(o_int0 fun _ _ _=>.int _).or (o_addS.or o_cat)⟩ ha hb
theorem u_neg {K:PySem.W.Frag} : SndU K (rU fun i=>.int (-i)) negD:=by
 intro M G0 H0 G H σ δ x d s Q S r e k
 unfold negD at e
 split at e
 ·rename_i i
  cases e
  cases zc2 r
  exact⟨i,rfl,k _ G H S (Gr.refl ..) (.val (.int _))⟩
 ·cases e
theorem de_neg (ha:DE X a f1):DE X (.UnaryOp .USub a pos) (fUn negD f1):=let ⟨_,a1,a2⟩:=ha;⟨_,pe_un un_neg a1,snd_un u_neg a2⟩
theorem zaz:DA X [] fNil:=⟨_,pa_nil,snd_nil⟩
theorem zaq (ha:DE X e f1) (hr:DA X es fl) (hs:starEach (e::es) X.env=(false,eval e X.env)::starEach es X.env:=by rfl):DA X (e::es) (fCons f1 fl):=let ⟨_,a1,a2⟩:=ha;let ⟨_,b1,b2⟩:=hr;⟨_,pa_cons a1 b1 hs,snd_cons a2 b2⟩
theorem zbj {x1} (h:DA X es fl):DE X (.Tuple es x1 pos) (fArgs gTupD fl):=let ⟨_,a1,a2⟩:=h;⟨_,pe_tup a1,snd_tup a2⟩
theorem zcx (h:DA X es fl):DE X (.List es pos) (fArgs gLstD fl):=let ⟨_,a1,a2⟩:=h;⟨_,pe_lst a1,snd_lst a2⟩
theorem de_ix (ha:DE X a f1) (hb:DE X b f2) (hs:PlainIx b):DE X (.Subscript a b pos) (fOp ixD f1 f2):=let ⟨_,a1,a2⟩:=ha;let ⟨_,b1,b2⟩:=hb;⟨_,pe_ix ix_seq a1 b1 hs,snd_op o_ix a2 b2⟩
theorem de_pure (h:DE X e f1):DE X e (fPure f1):=let ⟨_,a1,a2⟩:=h;⟨_,a1,snd_pure a2⟩
noncomputable def DW (X:Cx) (e:Expr) (f:FT):Prop:=∃ t,PW X e t/\SndT X t f
theorem dw (h:DW X e c1):DT X e c1:=let ⟨_,a1,a2⟩:=h;⟨_,a1.pt,a2⟩
theorem dw_and1 (h:DT X a c1):DW X (.BoolOp .And [a] pos) c1:=let ⟨_,a1,a2⟩:=h;⟨_,pw_and1 a1,a2⟩
theorem dw_or1 (h:DT X a c1):DW X (.BoolOp .Or [a] pos) c1:=let ⟨_,a1,a2⟩:=h;⟨_,pw_or1 a1,a2⟩
theorem dw_and (ha:DT X a c1) (hb:DW X (.BoolOp .And (b::rest) pos) c2):DW X (.BoolOp .And (a::b::rest) pos) (fAndT c1 c2):=let ⟨_,a1,a2⟩:=ha;let ⟨_,b1,b2⟩:=hb;⟨_,pw_and a1 b1,snd_andT a2 b2⟩
theorem dw_or (ha:DT X a c1) (hb:DW X (.BoolOp .Or (b::rest) pos) c2):DW X (.BoolOp .Or (a::b::rest) pos) (fOrT c1 c2):=let ⟨_,a1,a2⟩:=ha;let ⟨_,b1,b2⟩:=hb;⟨_,pw_or a1 b1,snd_orT a2 b2⟩
theorem dt_not (h:DT X a c1):DT X (.UnaryOp .Not a pos) (fNotT c1):=let ⟨_,a1,a2⟩:=h;⟨_,pt_not a1,snd_notT a2⟩
theorem dt_truth (h : DE X a f1) (he : ∀ whole, isTrue a X.env whole = (do let v ← whole; standAt a.pos; holding [v] (truthy v))) : DT X a (fTr f1) := let ⟨_, a1, a2⟩ := h; ⟨_, pt_truth a1 he, snd_truth a2⟩
section
variable {x:Str} {p:Pos}
theorem de_blt {id:String} {r:List V->Hp->VK->Prop} {g:List D->Option Sl} (hc:CallR X (.builtin id) r) (hn:SndN X.K r g) (hg:Gl X x) (hm:X.mg x=none) (hv:bootBuiltins x=some (.builtin id)) (ha:DA X (e::es) fl) (hnm:x ≠ "__name__":=by decide) (hdb:(x == ("__debug__" : Str))=false:=by decide)
  (he:starEach (e::es) X.env=(false,eval e X.env)::starEach es X.env:=by rfl) (hpl:(backTo pos (starEach es X.env)).any (·.1)=false:=by rfl):DE X (.Call (.Name x p) (e::es) [] pos) (fArgs g fl):=
 let ⟨_,a1,a2⟩:=ha;⟨_,pe_callB hc hg hm hv a1 hnm hdb he hpl,snd_cb hn a2⟩
theorem de_tyc {T:String} {r:List V->Hp->VK->Prop} {g:List D->Option Sl} (hc:CallR X (.type T) r) (hn:SndN X.K r g) (hg:Gl X x) (hm:X.mg x=none) (hv:bootBuiltins x=some (.type T)) (ha:DA X (e::es) fl) (hnm:x ≠ "__name__":=by decide) (hdb:(x == ("__debug__" : Str))=false:=by decide)
  (he:starEach (e::es) X.env=(false,eval e X.env)::starEach es X.env:=by rfl) (hpl:(backTo pos (starEach es X.env)).any (·.1)=false:=by rfl):DE X (.Call (.Name x p) (e::es) [] pos) (fArgs g fl):=
 let ⟨_,a1,a2⟩:=ha;⟨_,pe_callTy hc hg hm hv a1 hnm hdb he hpl,snd_cb hn a2⟩
end
end
mutual
noncomputable def toPy:D->PyData
 | .non=>.none
 | .bl b=>.bool b
 | .int i=>.int i
 | .str x=>.str x
 | .ty _=>.none
 | .dct _ _=>.none
 | .dcf _ _=>.none
 | .tg _ _=>.none
 | .tup ds=>.tuple (toPys ds)
 | .lst ds=>.list (toPys ds)
noncomputable def toPys:List D->List PyData
 | []=>[]
 | d::ds=>toPy d::toPys ds
end
mutual
theorem toPy_ok:∀ d:D,za1 d=true->(toPy d).canLay0=true
 | .non,_=>by unfold toPy;rfl
 | .bl _,_=>by unfold toPy;rfl
 | .int _,_=>by unfold toPy;rfl
 | .str x,h=>by unfold za1 at h;unfold toPy;exact h
 | .ty _,h=>by unfold za1 at h;cases h
 | .dct _ _,h=>by unfold za1 at h;cases h
 | .dcf _ _,h=>by unfold za1 at h;cases h
 | .tg _ _,h=>by unfold za1 at h;cases h
 | .tup ds,h=>by unfold za1 at h;unfold toPy;exact toPys_ok ds h
 | .lst ds,h=>by unfold za1 at h;unfold toPy;exact toPys_ok ds h
theorem toPys_ok:∀ ds:List D,za9 ds=true->PyData.canLayAll0 (toPys ds)=true
 | [],_=>by unfold toPys;rfl
 | d::ds,h=>by
  unfold za9 at h
  rw[Bool.and_eq_true] at h
  unfold toPys PyData.canLayAll0
  rw[toPy_ok d h.1,toPys_ok ds h.2]
  rfl
end
mutual
theorem toPy_depth:∀ d:D,(toPy d).depth=depD d
 | .non=>by unfold toPy PyData.depth depD;rfl
 | .bl _=>by unfold toPy PyData.depth depD;rfl
 | .int _=>by unfold toPy PyData.depth depD;rfl
 | .str x=>by unfold toPy PyData.depth depD;rfl
 | .ty _=>by unfold toPy PyData.depth depD;rfl
 | .dct _ _=>by unfold toPy PyData.depth depD;rfl
 | .dcf _ _=>by unfold toPy PyData.depth depD;rfl
 | .tg _ _=>by unfold toPy PyData.depth depD;rfl
 | .tup ds=>by unfold toPy PyData.depth depD;rw[toPys_depth ds]
 | .lst ds=>by unfold toPy PyData.depth depD;rw[toPys_depth ds]
theorem toPys_depth:∀ ds:List D,PyData.depthAll (toPys ds)=depDs ds
 | []=>by unfold toPys depDs;rfl
 | d::ds=>by
  unfold toPys PyData.depthAll depDs
  rw[toPy_depth d,toPys_depth ds]
end
mutual
theorem toPy_eqv:∀ a b:D,za1 a=true->za1 b=true->PyData.eqv (toPy a) (toPy b)=eqD a b
 | a,.ty _,_,h=>by unfold za1 at h;cases h
 | .ty _,_,h,_=>by unfold za1 at h;cases h
 | a,.dct _ _,_,h=>by unfold za1 at h;cases h
 | .dct _ _,_,h,_=>by unfold za1 at h;cases h
 | a,.dcf _ _,_,h=>by unfold za1 at h;cases h
 | a,.tg _ _,_,h=>by unfold za1 at h;cases h
 | .dcf _ _,_,h,_=>by unfold za1 at h;cases h
 | .tg _ _,_,h,_=>by unfold za1 at h;cases h
 | .tup as,.tup bs,h1,h2=>by unfold za1 at h1 h2;unfold toPy PyData.eqv eqD;exact toPys_eqv as bs h1 h2
 | .lst as,.lst bs,h1,h2=>by unfold za1 at h1 h2;unfold toPy PyData.eqv eqD;exact toPys_eqv as bs h1 h2
 | .non,.non,_,_=>by unfold toPy PyData.eqv eqD;rfl
 | .non,.bl _,_,_=>by unfold toPy PyData.eqv eqD;rfl
 | .non,.int _,_,_=>by unfold toPy PyData.eqv eqD;rfl
 | .non,.str _,_,_=>by unfold toPy PyData.eqv eqD;rfl
 | .non,.tup _,_,_=>by unfold toPy PyData.eqv eqD;rfl
 | .non,.lst _,_,_=>by unfold toPy PyData.eqv eqD;rfl
 | .bl _,.non,_,_=>by unfold toPy PyData.eqv eqD;rfl
 | .bl _,.bl _,_,_=>by unfold toPy PyData.eqv eqD;rfl
 | .bl _,.int _,_,_=>by unfold toPy PyData.eqv eqD;rfl
 | .bl _,.str _,_,_=>by unfold toPy PyData.eqv eqD;rfl
 | .bl _,.tup _,_,_=>by unfold toPy PyData.eqv eqD;rfl
 | .bl _,.lst _,_,_=>by unfold toPy PyData.eqv eqD;rfl
 | .int _,.non,_,_=>by unfold toPy PyData.eqv eqD;rfl
 | .int _,.bl _,_,_=>by unfold toPy PyData.eqv eqD;rfl
 | .int _,.int _,_,_=>by unfold toPy PyData.eqv eqD;rfl
 | .int _,.str _,_,_=>by unfold toPy PyData.eqv eqD;rfl
 | .int _,.tup _,_,_=>by unfold toPy PyData.eqv eqD;rfl
 | .int _,.lst _,_,_=>by unfold toPy PyData.eqv eqD;rfl
 | .str _,.non,_,_=>by unfold toPy PyData.eqv eqD;rfl
 | .str _,.bl _,_,_=>by unfold toPy PyData.eqv eqD;rfl
 | .str _,.int _,_,_=>by unfold toPy PyData.eqv eqD;rfl
 | .str _,.str _,_,_=>by unfold toPy PyData.eqv eqD;rfl
 | .str _,.tup _,_,_=>by unfold toPy PyData.eqv eqD;rfl
 | .str _,.lst _,_,_=>by unfold toPy PyData.eqv eqD;rfl
 | .tup _,.non,_,_=>by unfold toPy PyData.eqv eqD;rfl
 | .tup _,.bl _,_,_=>by unfold toPy PyData.eqv eqD;rfl
 | .tup _,.int _,_,_=>by unfold toPy PyData.eqv eqD;rfl
 | .tup _,.str _,_,_=>by unfold toPy PyData.eqv eqD;rfl
 | .tup _,.lst _,_,_=>by unfold toPy PyData.eqv eqD;rfl
 | .lst _,.non,_,_=>by unfold toPy PyData.eqv eqD;rfl
 | .lst _,.bl _,_,_=>by unfold toPy PyData.eqv eqD;rfl
 | .lst _,.int _,_,_=>by unfold toPy PyData.eqv eqD;rfl
 | .lst _,.str _,_,_=>by unfold toPy PyData.eqv eqD;rfl
 | .lst _,.tup _,_,_=>by unfold toPy PyData.eqv eqD;rfl
theorem toPys_eqv:∀ as bs:List D,za9 as=true->za9 bs=true->PyData.eqvAll (toPys as) (toPys bs)=eqDs as bs
 | [],[],_,_=>by unfold toPys eqDs;rfl
 | a::as,b::bs,h1,h2=>by
  unfold za9 at h1 h2
  rw[Bool.and_eq_true] at h1 h2
  unfold toPys PyData.eqvAll eqDs
  rw[toPy_eqv a b h1.1 h2.1,toPys_eqv as bs h1.2 h2.2]
 | [],_::_,_,_=>by unfold toPys eqDs;rfl
 | _::_,[],_,_=>by unfold toPys eqDs;rfl
end
section
variable {X:Cx} {pins:List (Addr×Obj)} {σ:St} {H G:Hp} {s:Shared}
mutual
theorem zd7 (I:Inv X pins σ H s) (hs:Same G H):∀ {x:V} {d:D} {u:Value},Rep X.K G x d->za1 d=true->RelV x u->∃ as,Reads s.heap u (toPy d) as
 | _,_,_,.non,_,r=>by cases r;unfold toPy;exact⟨_,.none⟩
 | _,_,_,.bl b,_,r=>by cases r;unfold toPy;exact⟨_,.bool b⟩
 | _,_,_,.int i,_,r=>by obtain⟨t,rfl⟩:=r;unfold toPy;exact⟨_,.int i t⟩
 | _,_,_,.str x,_,r=>by obtain⟨t,rfl⟩:=r;unfold toPy;exact⟨_,.str x t⟩
 | _,_,_,.ty _,h,_=>by unfold za1 at h;cases h
 | _,_,_,.dct _ _,h,_=>by unfold za1 at h;cases h
 | _,_,_,.dcf _ _,h,_=>by unfold za1 at h;cases h
 | _,_,_,.tg _,h,_=>by unfold za1 at h;cases h
 | _,_,_,.tup q _ l,h,r=>by
  cases r
  unfold za1 at h
  obtain⟨its,r',⟨o,ho,hc,n,hd⟩,_⟩:=I.tuple (zc8 hs q)
  obtain⟨as,ra⟩:=readsAll_of I hs l h r'
  unfold toPy
  exact⟨as,.tuple ho hc hd (by simpa using ra)⟩
 | _,_,_,.lst q l,h,r=>by
  cases r
  unfold za1 at h
  obtain⟨_,its,n,r',_,e⟩:=Inv.lstR I (zc3 hs q)
  obtain⟨as,ra⟩:=readsAll_of I hs l h r'
  unfold toPy
  exact⟨_,.list e rfl rfl (by simpa using ra)⟩
theorem readsAll_of (I:Inv X pins σ H s) (hs:Same G H):∀ {xs:List V} {ds:List D} {us:List Value},RepL X.K G xs ds->za9 ds=true->Vals xs us->∃ as,ReadsAll s.heap us (toPys ds) as
 | _,_,_,.nil,_,.nil=>by unfold toPys;exact⟨_,.nil⟩
 | _,_,_,.cons q l,h,.cons r rs=>by
  unfold za9 at h
  rw[Bool.and_eq_true] at h
  obtain⟨as,ra⟩:=zd7 I hs q h.1 r
  obtain⟨bs,rb⟩:=readsAll_of I hs l h.2 rs
  unfold toPys
  exact⟨_,.cons ra rb⟩
end
end
section
variable {X:Cx}
noncomputable def rEqD (K:PySem.W.Frag) (neg:Bool):R2:=fun x y H Q=>∃ G a b,Same G H/\Rep K G x a/\Rep K G y b/\depD a<=100/\za1 a=true/\za1 b=true/\Q (.bl (if neg then !eqD a b else eqD a b)) H
theorem op_eqD (hu:X.A.units+150<cLine):OpR X (compareOp .Eq) (rEqD X.K false):=by
 intro pins s σ H x y v u Q I rx ry h
 obtain⟨G,a,b,hs,ra,rb,hd,pa,pb,q⟩:=h
 obtain⟨as,r1⟩:=zd7 I hs ra pa rx
 obtain⟨bs,r2⟩:=zd7 I hs rb pb ry
 refine SeqAt.compareEq_reads r1 r2 (toPy_ok a pa) (toPy_ok b pb) ?_ ⟨.bl _,H,I,rfl,?_⟩
 ·rw[toPy_depth]
  have:=Nat.min_le_left (depD a) (toPy b).depth
  lia
 ·rw[toPy_eqv a b pa pb];exact q
theorem op_neD (hu:X.A.units+150<cLine):OpR X (compareOp .NotEq) (rEqD X.K true):=by
 intro pins s σ H x y v u Q I rx ry h
 obtain⟨G,a,b,hs,ra,rb,hd,pa,pb,q⟩:=h
 obtain⟨as,r1⟩:=zd7 I hs ra pa rx
 obtain⟨bs,r2⟩:=zd7 I hs rb pb ry
 refine SeqAt.compareNe_reads r1 r2 (toPy_ok a pa) (toPy_ok b pb) ?_ ⟨.bl _,H,I,rfl,?_⟩
 ·rw[toPy_depth]
  have:=Nat.min_le_left (depD a) (toPy b).depth
  lia
 ·rw[toPy_eqv a b pa pb];exact q
theorem o_eqD {K:PySem.W.Frag} (neg:Bool):SndO K (rEqD K neg) (eqOp neg):=by
 intro M G0 H0 G H σ δ x y d1 d2 s Q S r1 r2 e k
 unfold eqOp at e
 split at e
 ·rename_i h
  cases e
  rw[Bool.and_eq_true,Bool.and_eq_true] at h
  exact⟨G,d1,d2,S.gh,r1,r2,of_decide_eq_true h.1.1,h.1.2,h.2,k _ G H S (Gr.refl ..) (.val (.bl _))⟩
 ·cases e
theorem q_eq (hu:X.A.units+150<cLine):QR X .Eq (eqOp false):=⟨_,op_eqD hu,o_eqD false⟩
theorem q_ne (hu:X.A.units+150<cLine):QR X .NotEq (eqOp true):=⟨_,op_neD hu,o_eqD true⟩
theorem zb4 {A:Around} {k:Nat} (hr:Room k A):A.units+150<cLine:=by have:=hr.un;lia
noncomputable def rInD (K:PySem.W.Frag) (neg:Bool):R2:=fun x y H Q=>∃ G a ds,Same G H/\Rep K G x a/\(Rep K G y (.lst ds)\/Rep K G y (.tup ds))/\depD a<=100/\za1 a=true/\za9 ds=true/\Q (.bl (if neg then !ds.any (fun z=>eqD z a) else ds.any (fun z=>eqD z a))) H
theorem any_eqv {a:D} (pa:za1 a=true):∀ ds:List D,za9 ds=true->((toPys ds).any fun y=>PyData.eqv y (toPy a))=ds.any fun z=>eqD z a
 | [],_=>by unfold toPys;rfl
 | d::ds,h=>by
  unfold za9 at h
  rw[Bool.and_eq_true] at h
  unfold toPys
  rw[List.any_cons,List.any_cons,toPy_eqv d a h.1 pa,any_eqv pa ds h.2]
theorem op_inD (hu:X.A.units+150<cLine):OpR X (compareOp .In) (rInD X.K false):=by
 intro pins s σ H x y v u Q I rx ry h
 obtain⟨G,a,ds,hs,ra,rb,hd,pa,pb,q⟩:=h
 obtain⟨as,r1⟩:=zd7 I hs ra pa rx
 have hu':X.A.units+1+min (PyData.depthAll (toPys ds)) (toPy a).depth<cLine:=by
  rw[toPy_depth]
  have:=Nat.min_le_right (PyData.depthAll (toPys ds)) (depD a)
  lia
 rcases rb with rb | rb
 ·obtain⟨bs,r2⟩:=zd7 (d:=.lst ds) I hs rb (by unfold za1;exact pb) ry
  unfold toPy at r2
  exact SeqAt.in_list_reads r2 r1 (toPys_ok ds pb) (toPy_ok a pa) hu' ⟨.bl _,H,I,rfl,by rw[any_eqv pa ds pb];exact q⟩
 ·obtain⟨bs,r2⟩:=zd7 (d:=.tup ds) I hs rb (by unfold za1;exact pb) ry
  unfold toPy at r2
  exact SeqAt.in_tuple_reads r2 r1 (toPys_ok ds pb) (toPy_ok a pa) hu' ⟨.bl _,H,I,rfl,by rw[any_eqv pa ds pb];exact q⟩
theorem o_inD {K:PySem.W.Frag} (neg:Bool):SndO K (fun x y H Q=>rInD K neg x y H Q\/∃ i j,x=.str i/\y=.str j/\Q (.bl (if neg then !(!(Builtin.Str.occurrences j i 0 j.length 1).isEmpty) else !(Builtin.Str.occurrences j i 0 j.length 1).isEmpty)) H) (inOp neg):=by
 intro M G0 H0 G H σ δ x y d1 d2 s Q S r1 r2 e k
 unfold inOp at e
 split at e
 ·split at e
  ·rename_i h
   cases e
   rw[Bool.and_eq_true,Bool.and_eq_true] at h
   exact .inl ⟨G,d1,_,S.gh,r1,.inl r2,of_decide_eq_true h.1.1,h.1.2,h.2,k _ G H S (Gr.refl ..) (.val (.bl _))⟩
  ·cases e
 ·split at e
  ·rename_i h
   cases e
   rw[Bool.and_eq_true,Bool.and_eq_true] at h
   exact .inl ⟨G,d1,_,S.gh,r1,.inr r2,of_decide_eq_true h.1.1,h.1.2,h.2,k _ G H S (Gr.refl ..) (.val (.bl _))⟩
  ·cases e
 ·split at e
  ·cases e
   cases zf3 r1
   cases zf3 r2
   exact .inr ⟨_,_,rfl,rfl,k _ G H S (Gr.refl ..) (.val (.bl _))⟩
  ·cases e
 ·cases e
theorem q_in (hu:X.A.units+150<cLine):QR X .In (inOp false):=⟨_,(op_inD hu).or op_in_str,o_inD false⟩
end
end L4
namespace L4
open PySem PySem.Spec PyProof.Rows L2
theorem bo_len:bootBuiltins "len" = some (.builtin "len"):=by decide +kernel
theorem bo_isinstance:bootBuiltins "isinstance" = some (.builtin "isinstance"):=by decide +kernel
theorem bo_max:bootBuiltins "max" = some (.builtin "max"):=by decide +kernel
theorem bo_min:bootBuiltins "min" = some (.builtin "min"):=by decide +kernel
theorem bo_list:bootBuiltins "list" = some (.type "list"):=by decide +kernel
theorem bo_tuple:bootBuiltins "tuple" = some (.type "tuple"):=by decide +kernel
section
variable {X:Cx} {a b c e:Expr} {es:List Expr} {f1 f2 f3:FE} {fl:FL} {pos p:Pos} {c1 c2:FT} {x:Str}
noncomputable def rIsi (K:PySem.W.Frag):List V->Hp->VK->Prop:=fun xs H Q=>∃ G d T v k,xs=[v,.ty T]/\Same G H/\Rep K G v d/\isiT d T=some k/\Q (.bl k) H
theorem call_isi:CallR X (.builtin "isinstance") (rIsi X.K):=by
 intro pins s σ H xs us Q I r h
 obtain⟨G,d,T,v,k,rfl,hs,rd,hk,q⟩:=h
 obtain⟨u,w',rfl,ru,rw'⟩:=vals2 r
 cases rw'
 have hq:∀ b,b=k->EP X pins σ Q (.bool b) s:=fun b e=>⟨.bl k,H,I,by rw[e];rfl,q⟩
 have hq':∀ b,b=k->EP X pins σ Q (.bool b) { s with toks:=s.toks+1 }:=fun b e=>⟨.bl k,H,I.tok _,by rw[e];rfl,q⟩
 cases d with
 | non=>
  cases rep_non rd
  cases ru
  simp only[isiT] at hk
  split at hk
  ·rename_i e;cases hk
   rcases e with rfl | rfl | rfl | rfl | rfl
   ·exact IsiPair.NoneType_int (hq' _ rfl)
   ·exact IsiPair.NoneType_bool (hq' _ rfl)
   ·exact IsiPair.NoneType_str (hq' _ rfl)
   ·exact IsiPair.NoneType_list (hq' _ rfl)
   ·exact IsiPair.NoneType_tuple (hq' _ rfl)
  ·cases hk
 | ty n=>cases hk
 | dct _ _=>cases hk
 | dcf _ _=>cases hk
 | tg _ _=>cases hk
 | int i=>
  cases zc2 rd
  obtain⟨t,rfl⟩:=ru
  simp only[isiT] at hk
  split at hk
  ·rename_i e;subst e;cases hk;exact IsiPair.int_int (hq _ rfl)
  ·split at hk
   ·rename_i e;cases hk
    rcases e with rfl | rfl | rfl | rfl
    ·exact IsiPair.int_bool (hq' _ rfl)
    ·exact IsiPair.int_str (hq' _ rfl)
    ·exact IsiPair.int_list (hq' _ rfl)
    ·exact IsiPair.int_tuple (hq' _ rfl)
   ·cases hk
 | bl i=>
  cases rep_bl rd
  cases ru
  simp only[isiT] at hk
  split at hk
  ·rename_i e;cases hk
   rcases e with rfl | rfl
   ·exact IsiPair.bool_int (hq _ rfl)
   ·exact IsiPair.bool_bool (hq _ rfl)
  ·split at hk
   ·rename_i e;cases hk
    rcases e with rfl | rfl | rfl
    ·exact IsiPair.bool_str (hq' _ rfl)
    ·exact IsiPair.bool_list (hq' _ rfl)
    ·exact IsiPair.bool_tuple (hq' _ rfl)
   ·cases hk
 | str i=>
  cases zf3 rd
  obtain⟨t,rfl⟩:=ru
  simp only[isiT] at hk
  split at hk
  ·rename_i e;subst e;cases hk;exact IsiPair.str_str (hq _ rfl)
  ·split at hk
   ·rename_i e;cases hk
    rcases e with rfl | rfl | rfl | rfl
    ·exact IsiPair.str_int (hq' _ rfl)
    ·exact IsiPair.str_bool (hq' _ rfl)
    ·exact IsiPair.str_list (hq' _ rfl)
    ·exact IsiPair.str_tuple (hq' _ rfl)
   ·cases hk
 | tup ds=>
  obtain⟨l,vs,rfl,hq0,_⟩:=rep_tup rd
  cases ru
  obtain⟨its,_,⟨o,ho,hc,n,hd⟩,_⟩:=I.tuple (zc8 hs hq0)
  simp only[isiT] at hk
  split at hk
  ·rename_i e;subst e;cases hk;exact IsiPair.tuple_tuple ho hc (hq _ rfl)
  ·split at hk
   ·rename_i e;cases hk
    rcases e with rfl | rfl | rfl | rfl
    ·exact IsiPair.tuple_int ho hc (hq' _ rfl)
    ·exact IsiPair.tuple_bool ho hc (hq' _ rfl)
    ·exact IsiPair.tuple_str ho hc (hq' _ rfl)
    ·exact IsiPair.tuple_list ho hc (hq' _ rfl)
   ·cases hk
 | lst ds=>
  obtain⟨l,vs,rfl,hq0,_⟩:=zd9 rd
  cases ru
  obtain⟨_,its,n,_,_,ho⟩:=Inv.lstR I (zc3 hs hq0)
  simp only[isiT] at hk
  split at hk
  ·rename_i e;subst e;cases hk;exact IsiPair.list_list ho rfl (hq _ rfl)
  ·split at hk
   ·rename_i e;cases hk
    rcases e with rfl | rfl | rfl | rfl
    ·exact IsiPair.list_int ho rfl (hq' _ rfl)
    ·exact IsiPair.list_bool ho rfl (hq' _ rfl)
    ·exact IsiPair.list_str ho rfl (hq' _ rfl)
    ·exact IsiPair.list_tuple ho rfl (hq' _ rfl)
   ·cases hk
theorem c_isi {K:PySem.W.Frag} : SndN K (rIsi K) (g2 isiD):=by
 intro M G0 H0 G H σ δ xs ds s Q S r e k
 unfold g2 at e
 split at e
 ·obtain⟨v,y,rfl,r1,r2⟩:=repL2 r
  unfold isiD at e
  split at e
  ·rename_i T
   obtain⟨b,e1,e2⟩:=Option.map_eq_some_iff.mp e
   subst e2
   have ey:y=.ty T:=by cases r2;rfl
   subst ey
   exact⟨G,_,T,v,b,rfl,S.gh,r1,e1,k _ G H S (Gr.refl ..) (.val (.bl _))⟩
  ·cases e
 ·cases e
section
variable (he:starEach (e::es) X.env=(false,eval e X.env)::starEach es X.env:=by rfl) (hpl:(backTo pos (starEach es X.env)).any (·.1)=false:=by rfl)
include he hpl
end
theorem de_len (hg:Gl X "len") (hm:X.mg "len" = none) (ha:DA X (e::es) fl) (he:starEach (e::es) X.env=(false,eval e X.env)::starEach es X.env:=by rfl) (hpl:(backTo pos (starEach es X.env)).any (·.1)=false:=by rfl):
  DE X (.Call (.Name "len" p) (e::es) [] pos) (fArgs (g1 lenD) fl):=de_blt call_len c_len hg hm bo_len ha (by decide) (by decide) he hpl
theorem de_isi (hg:Gl X "isinstance") (hm:X.mg "isinstance" = none) (ha:DA X (e::es) fl) (he:starEach (e::es) X.env=(false,eval e X.env)::starEach es X.env:=by rfl) (hpl:(backTo pos (starEach es X.env)).any (·.1)=false:=by rfl):
  DE X (.Call (.Name "isinstance" p) (e::es) [] pos) (fArgs (g2 isiD) fl):=de_blt call_isi c_isi hg hm bo_isinstance ha (by decide) (by decide) he hpl
theorem de_max (hc:X.calm=true) (hg:Gl X "max") (hm:X.mg "max" = none) (ha:DA X (e::es) fl) (he:starEach (e::es) X.env=(false,eval e X.env)::starEach es X.env:=by rfl) (hpl:(backTo pos (starEach es X.env)).any (·.1)=false:=by rfl):
  DE X (.Call (.Name "max" p) (e::es) [] pos) (fArgs (g2 maxD) fl):=de_blt (call_max2 hc) (c_ii fun _ _ _=>.int _) hg hm bo_max ha (by decide) (by decide) he hpl
theorem de_min (hc:X.calm=true) (hg:Gl X "min") (hm:X.mg "min" = none) (ha:DA X (e::es) fl) (he:starEach (e::es) X.env=(false,eval e X.env)::starEach es X.env:=by rfl) (hpl:(backTo pos (starEach es X.env)).any (·.1)=false:=by rfl):
  DE X (.Call (.Name "min" p) (e::es) [] pos) (fArgs (g2 minD) fl):=de_blt (call_min2 hc) (c_ii fun _ _ _=>.int _) hg hm bo_min ha (by decide) (by decide) he hpl
theorem de_list_ (hg:Gl X "list") (hm:X.mg "list" = none) (ha:DA X (e::es) fl) (he:starEach (e::es) X.env=(false,eval e X.env)::starEach es X.env:=by rfl) (hpl:(backTo pos (starEach es X.env)).any (·.1)=false:=by rfl):
  DE X (.Call (.Name "list" p) (e::es) [] pos) (fArgs (g1 listD) fl):=de_tyc call_list_of c_list hg hm bo_list ha (by decide) (by decide) he hpl
theorem de_ty {T:String} (hg:Gl X x) (hm:X.mg x=none) (hv:bootBuiltins x=some (.type T)) (hn:x ≠ "__name__":=by decide) (hd:(x == ("__debug__" : Str))=false:=by decide):DE X (.Name x pos) (fC (.ty T)):=
 ⟨_,pe_bltn hg hm hv (v:=.ty T) rfl hn hd,snd_C fun _=>.ty T⟩
noncomputable def DP (X:Cx) (e:Option Expr) (f:FO):Prop:=∃ t,PO X e t/\SndP X t f
theorem dp_none:DP X none fNoP:=⟨_,po_none,snd_noP⟩
theorem dp_some (h:DE X e f1):DP X (some e) (fPart f1):=let ⟨_,a1,a2⟩:=h;⟨_,po_some a1,snd_part a2⟩
end
section
variable {X:Cx} {e o:Expr} {es:List Expr} {fe:FE} {fl:FL} {pos p:Pos} {ft:FT} {st:Stmt} {rest:List Stmt} {F1 F2:FS}
theorem zb6:DB X [] fNext:=⟨_,pss_nil,snd_next⟩
theorem za0 (h1:DS X st F1) (h2:DB X rest F2):DB X (st::rest) (fSeq F1 F2):=let ⟨_,a1,a2⟩:=h1;let ⟨_,b1,b2⟩:=h2;⟨_,zez a1 b1,snd_seq a2 b2⟩
theorem za3 (h1:DS X st F1):DB X [st] F1:=let ⟨_,a1,a2⟩:=h1;⟨_,pss_one a1,a2⟩
theorem zb1 (h:DE X e fe):DS X (.Return (some e) pos) (fRet fe):=let ⟨_,a1,a2⟩:=h;⟨_,ps_ret a1,snd_ret a2⟩
theorem ds_retV (i:Nat) {x:Str} (hN:X.N[i]? = some x:=by rfl) (hv:Vis X.env.scope x:=by first | exact Or.inl rfl | exact Or.inr (Or.inl rfl) | exact Or.inr (Or.inr rfl)) (hd:(x == ("__debug__" : Str))=false:=by decide) (hcd:(x == ("__classdict__" : Str))=false:=by decide):
  DS X (.Return (some (.Name x p)) pos) (fRetV i):=⟨_,ps_ret (pv i hN hv hd hcd),snd_retV i⟩
theorem ds_if {c:Expr} {a b:List Stmt} (hc:DT X c ft) (h1:DB X a F1) (h2:DB X b F2):DS X (.If c a b pos) (fIf ft F1 F2):=let ⟨_,y1,y2⟩:=hc;let ⟨_,a1,a2⟩:=h1;let ⟨_,b1,b2⟩:=h2;⟨_,ps_if y1 a1 b1,snd_if y2 a2 b2⟩
theorem ds_expr (h:DE X e fe) (hs:swapsWith e none pos.line X.env=pure false:=by rfl):DS X (.Expr e pos) (fDrop fe):=let ⟨_,a1,a2⟩:=h;⟨_,ps_expr a1 hs,snd_drop a2⟩
theorem zb2 {i:Nat} {x:Str} {pos':Pos} (hN:X.N.Nodup) (hi:X.N[i]? = some x) (hx:Loc X.env.scope x) (h:DE X e fe) (hs:swapsWith e (some (.Name x pos')) pos.line X.env=pure false:=by rfl) (hf:X.fn x=true\/X.env.scope.names.lookup x=some .local:=by first | exact .inl rfl | exact .inr rfl | assumption):
  DS X (.Assign [.Name x pos'] e pos) (fAsg i fe):=let ⟨_,a1,a2⟩:=h;⟨_,ps_set hN hi hx a1 hs hf,snd_asg a2⟩
theorem de_append (i:Nat) {x:Str} {apos cpos np:Pos} (h:DA X (e::es) fl) (hN:X.N[i]? = some x:=by rfl) (hv:Vis X.env.scope x:=by first | exact Or.inl rfl | exact Or.inr (Or.inl rfl) | exact Or.inr (Or.inr rfl)) (hd:(x == ("__debug__" : Str))=false:=by decide) (hcd:(x == ("__classdict__" : Str))=false:=by decide)
  (hbase:attributeBase (.Name x np) "append" X.env (eval (.Name x np) X.env)=eval (.Name x np) X.env:=by rfl)
  (hfew:((backTo cpos (starEach (e::es) X.env)).all (fun x => !x.1) && (backToKw cpos (keywordEach [] X.env)).all (fun x=>x.1.isSome)
   && decide ((e::es).length+([]:List Keyword).length+(if ([]:List Keyword).isEmpty then 0 else 1)<30))=true:=by rfl)
  (hline:(apos.endLine == cpos.line)=true:=by rfl) (hs:starEach (e::es) X.env=(false,eval e X.env)::starEach es X.env:=by rfl) (hplain:(backTo cpos (starEach es X.env)).any (·.1)=false:=by rfl):
  DE X (.Call (.Attribute (.Name x np) "append" apos) (e::es) [] cpos) (fMut i gAppend fl):=
 let ⟨_,a1,a2⟩:=h;⟨_,pe_bm PySem.F.plainAttrs_list PySem.F.slot_list_append PySem.F.type_list_append mt_append (pv i hN hv hd hcd) a1 hbase hfew hline hs hplain,snd_mut m_append a2⟩
theorem de_extend (i:Nat) {x:Str} {apos cpos np:Pos} (h:DA X (e::es) fl) (hN:X.N[i]? = some x:=by rfl) (hv:Vis X.env.scope x:=by first | exact Or.inl rfl | exact Or.inr (Or.inl rfl) | exact Or.inr (Or.inr rfl)) (hd:(x == ("__debug__" : Str))=false:=by decide) (hcd:(x == ("__classdict__" : Str))=false:=by decide)
  (hbase:attributeBase (.Name x np) "extend" X.env (eval (.Name x np) X.env)=eval (.Name x np) X.env:=by rfl)
  (hfew:((backTo cpos (starEach (e::es) X.env)).all (fun x => !x.1) && (backToKw cpos (keywordEach [] X.env)).all (fun x=>x.1.isSome)
   && decide ((e::es).length+([]:List Keyword).length+(if ([]:List Keyword).isEmpty then 0 else 1)<30))=true:=by rfl)
  (hline:(apos.endLine == cpos.line)=true:=by rfl) (hs:starEach (e::es) X.env=(false,eval e X.env)::starEach es X.env:=by rfl) (hplain:(backTo cpos (starEach es X.env)).any (·.1)=false:=by rfl):
  DE X (.Call (.Attribute (.Name x np) "extend" apos) (e::es) [] cpos) (fMut i gExtend fl):=
 let ⟨_,a1,a2⟩:=h;⟨_,pe_bm PySem.F.plainAttrs_list PySem.F.slot_list_extend PySem.F.type_list_extend mt_extendS (pv i hN hv hd hcd) a1 hbase hfew hline hs hplain,snd_mut m_extend a2⟩
theorem ds_while (n:Nat) {c:Expr} {body:List Stmt} (hc:DT X c ft) (hb:DB X body F1) (hp:PassesOwn (model X.prog X.w) X.A X.env X.xe:=by first | exact PassesOwn.never | exact PassesOwn.leaving | exact PassesOwn.looking):DS X (.While c body [] pos) (whileD ft F1 n):=
 let ⟨_,a1,a2⟩:=hc;let ⟨_,b1,b2⟩:=hb;⟨_,ps_while hp a1 b1,snd_while n a2 b2⟩
end
end L4
namespace L4
open PySem PySem.Spec PyProof.Rows L2
structure Grew (G0 H0 G H:Hp):Prop where
 gh:Same G H
 h0:Same H0 H
 g0:Same G0 G
 fr:∀ b,H0 b ≠ none->G0 b=none->Nt (G b)
theorem StOk.grew {K:PySem.W.Frag} {M:Nat->Option Addr} {G0 H0 G H:Hp} {σ:L2.St} {δ:DEnv} (S:StOk K M G0 H0 G H σ δ):Grew G0 H0 G H:=⟨S.gh,S.h0,S.g0,S.fr⟩
noncomputable def CXA (_:Program) (_:World):CXT:=fun _ _ _ _ _ _=>False
noncomputable def spM (K:PySem.W.Frag) (_:List Nat) (F:Fn):Sp:=fun vs H Q _=>∃ (G:Hp) (ds:List D) (s:Sl),Same G H/\RepL K G vs ds/\F ds=some (.ok s,[])/\∀ v G' H',Grew G H G' H'->RepR K H G' H' v s->Q v H'
noncomputable def fCall (F:Fn) (r:FL):FE:=fun δ=>(r δ).bind fun ds δ=>match F ds with | some (q,[])=>some (q,δ) | _=>none
theorem StOk.gr0 {K:PySem.W.Frag} {M:Nat->Option Addr} {G0 H0 G H G' H':Hp} {σ:L2.St} {δ:DEnv} (S:StOk K M G0 H0 G H σ δ) (g:Grew G H G' H'):StOk K M G0 H0 G' H' σ δ/\Gr G H σ δ G' H' δ:=by
 refine⟨⟨g.gh,⟨S.env.len,fun i s e => ?_,S.env.sep⟩,S.h0.trans g.h0,S.g0.trans g.g0,fun b h n => ?_,S.own0,S.mt⟩,Gr.of g.h0 g.g0 (fun b h n _=>g.fr b h n) fun _ z=>z⟩
 ·obtain⟨v,e1,r⟩:=S.env.at' i s e
  refine⟨v,e1,?_⟩
  have key:∀ d,(∃ q,v=.ref q/\G q=none/\OwnAt K G H q d)->∃ q,v=.ref q/\G' q=none/\OwnAt K G' H' q d:=fun d ⟨q,e2,e4,rr⟩=>by
   obtain⟨o,e3,ho⟩:=rr.isHO
   exact⟨q,e2,(g.fr q (by rw[e3];simp) e4).none g.gh (g.h0 _ _ e3) (fun vs z=>by subst z;exact ho),rr.keep (by rw[g.h0 _ _ e3,e3]) g.g0⟩
  cases s with
  | val d=>exact Rep.mono g.g0 r
  | own d=>exact key d r
  | lnt d=>exact key d r
 ·exact (S.fr b h n).next g.g0 fun n1=>g.fr b (same_ne S.h0 h) n1
noncomputable def tCallX (X:Cx) (sp:Sp) (t:TA):TE:=fun σ H Q=>t σ H fun vs H1=>sp vs H1 Q noX
theorem snd_call {X:Cx} {t:TA} {fl:FL} {F:Fn} (ha:SndL X t fl):SndE X (tCallX X (spM X.K [] F) t) (fCall F fl):=by
 intro M G0 H0 G H σ δ q δ' Q S e k
 obtain⟨s1,δ1,e1,e⟩:=Rs.inv e
 ·refine ha M G0 H0 G H σ δ (.ok s1) δ1 _ S e1 fun vs G1 H1 S1 g1 r1 => ?_
  split at e
  ·rename_i q' e3
   cases e
   cases q with
   | ok s=>
    refine⟨G1,s1,s,S1.gh,r1,e3,fun v G2 H2 g2 r2 => ?_⟩
    obtain⟨S3,g3⟩:=S1.gr0 g2
    exact k v G2 H2 S3 (g1.trans g3) (r2.back g1)
   | error x=>cases x
  ·cases e
section
variable {X:Cx} {k:Nat} {f:Addr} {fd:FuncData} {ps:List Str} {sp:Sp} {x:Str} {p pos:Pos} {e:Expr} {es:List Expr} {t:TA}
theorem run_fnX {pins:List (Addr×Obj)} {σ:L2.St} {H:Hp} {s:Shared} {Q:VK} {us:List Value} {vs:List V} (F:FnOk X.prog X.w X.K X.mg X.base (CXA X.prog X.w) k f fd ps sp) (hr:Room k X.A) (hb:Binds X.K fd ps [])
  (I:Inv X pins σ H s) (r:Vals vs us) (h:sp vs H Q noX):wpAny (model X.prog X.w) X.A (call (.ref f) us) (EP X pins σ Q) X.xe s:=by
 have hl:(us++[]).length=ps.length:=by rw[List.append_nil,←r.length];exact F.len _ _ _ _ h
 have hb':=hb s us I.kIn hl
 rw[List.append_nil] at hb'
 refine wpAny_call (codeAny_mono (F.run X.A X.stack s H ⟨us,[]⟩ us vs Q noX hr I.env0 hb' r h) fun r s' hq => ?_)
 cases r with
 | error e=>exact hq.elim
 | ok fl=>
  cases fl with
  | ret u=>exact I.after hq
  | next=>exact False.elim hq
  | brk=>exact False.elim hq
  | cont=>exact False.elim hq
theorem pe_callX (F:FnOk X.prog X.w X.K X.mg X.base (CXA X.prog X.w) k f fd ps sp) (hr:Room k X.A) (hg:Gl X x) (hm:X.mg x=some (.ref f)) (hk:PySem.W.keepIn X.K (.ref f)=true) (hb:Binds X.K fd ps [])
  (ha:PA X (e::es) t) (hdb:(x == ("__debug__" : Str))=false:=by decide) (he:starEach (e::es) X.env=(false,eval e X.env)::starEach es X.env:=by rfl) (hpl:(backTo pos (starEach es X.env)).any (·.1)=false:=by rfl):
  PE X (.Call (.Name x p) (e::es) [] pos) (tCallX X sp t):=by
 intro pins s σ H Q I h
 refine wpAny_Call_Name_kw (ld_glob I hg hm ?_ hdb)
 refine PySem.W.callWith_K (h₀:=X.base) I.ok.mod.kin hk (thn (ha pos pins s σ H _ I h) fun us s1 ⟨vs,H1,I1,r,q⟩=>⟨I1.kIn,?_⟩) he hpl
 exact run_fnX F hr hb I1 r q
end
structure FnD (P:Program) (w:World) (K:PySem.W.Frag) (mg:Str->Option Value) (base:Heap) (x:Str) (k:Nat) (ps:List Str) (ms:List Nat) (F:Fn):Prop where
 ex:∃ f fd,mg x=some (.ref f)/\PySem.W.keepIn K (.ref f)=true/\Binds K fd ps []/\FnOk P w K mg base (CXA P w) k f fd ps (spM K ms F)
section
variable {X:Cx} {e:Expr} {es:List Expr} {fl:FL} {pos p:Pos} {x:Str} {k:Nat} {ps:List Str} {F:Fn}
theorem za6 (G:FnD X.prog X.w X.K X.mg X.base x k ps [] F) (hr:Room k X.A) (hg:Gl X x) (ha:DA X (e::es) fl) (hdb:(x == ("__debug__" : Str))=false:=by decide)
  (he:starEach (e::es) X.env=(false,eval e X.env)::starEach es X.env:=by rfl) (hpl:(backTo pos (starEach es X.env)).any (·.1)=false:=by rfl):DE X (.Call (.Name x p) (e::es) [] pos) (fCall F fl):=
 let ⟨_,_,hm,hk,hb,ok⟩:=G.ex;let ⟨_,a1,a2⟩:=ha;⟨_,pe_callX ok hr hg hm hk hb a1 hdb he hpl,snd_call a2⟩
end
section
variable {P:Program} {w:World} {K:PySem.W.Frag} {mg:Str->Option Value} {base:Heap}
theorem StOk.vals {M:Nat->Option Addr} {G H:Hp} {σ:L2.St} {δ:DEnv} (gh:Same G H) (hl:δ.length=σ.length) (h:∀ (i:Nat) (s:Sl),δ[i]? = some (some s)->∃ d v,s=.val d/\σ[i]? = some (some v)/\Rep K G v d):StOk K M G H G H σ δ:=by
 refine⟨gh,⟨hl,fun i s e => ?_,fun i j p s s' e _ os => ?_⟩,Same.refl _,Same.refl _,fun b _ n=>.inl n,fun p z => ?_,fun i d e => ?_⟩
 ·obtain⟨d,v,rfl,a,b⟩:=h i s e
  exact⟨v,a,b⟩
 ·obtain⟨d,v,rfl,_⟩:=h i s e
  cases os
 ·obtain⟨i,s,e,os,_⟩:=z
  obtain⟨d,v,rfl,_⟩:=h i s e
  cases os
 ·obtain⟨d',v,q,_⟩:=h i _ e
  cases q
theorem start_ok {M:Nat->Option Addr} {G H:Hp} {N:List Str} {vs:List V} {ds:List D} (hs:Same G H) (r:RepL K G vs ds):StOk K M G H G H (L2.start N vs) (startD N.length [] ds):=by
 refine StOk.vals hs (by simp [L2.start,startD,r.len]) fun i s e => ?_
 unfold startD at e
 by_cases hi:i<ds.length
 ·rw[List.getElem?_append_left (by simpa using hi),List.getElem?_map,List.getElem?_eq_getElem hi] at e
  cases e
  obtain⟨v,h1,h2⟩:=r.at (List.getElem?_eq_getElem hi)
  refine⟨_,v,rfl,?_,h2⟩
  unfold L2.start
  rw[List.getElem?_append_left (by rw[List.length_map,r.len];exact hi),List.getElem?_map,h1]
  rfl
 ·rw[List.getElem?_append_right (by simpa using hi),List.getElem?_replicate] at e
  split at e<;>cases e
theorem fnD_ok {x:Str} {st:Stmt} {f:Addr} {fd:FuncData} {N ps:List Str} {n m k:Nat} {f0:FS} (F:Fun K x x st f fd) (S:FnScope N ps (defScope st)) (hn:N.length=n) (hm:ps.length=m)
  (body:∀ (cdv:Value) (A:Around) (outer:List Env) (s:Shared) (H:Hp) (E:XK),Room k (A.deeper (envOfC x (defScope st) s.heap.objs.size f cdv))->DB (cxOf (CXA P w) P w K mg base N x (defScope st) f cdv A outer s H E) (defBody st) f0):
  FnOk P w K mg base (CXA P w) (k+1) f fd ps (spM K [] (runD n m [] f0)):=by
 have len:∀ vs H Q E,spM K [] (runD n m [] f0) vs H Q E->vs.length=ps.length:=fun vs H Q E h=>by
  obtain⟨G,ds,s,_,r,e,_⟩:=h
  unfold runD at e
  split at e
  ·rename_i hl
   rw[r.len,hl,hm]
  ·cases e
 obtain⟨oc,od,kV,doc,pm,an,cdv,ct,osl,rfl,lk,hcd⟩:=F.ex
 refine fn_of lk hcd S len fun A outer s H vs Q E hr h => ?_
 obtain⟨t,ht,snd⟩:=body cdv A outer s H E hr
 refine⟨t,ht,?_⟩
 obtain⟨G,ds,sl,hs,r,e,q⟩:=h
 unfold runD at e
 split at e
 ·have S0:=start_ok (M:=fun _=>none) (N:=N) hs r
  rw[hn] at S0
  split at e
  ·rename_i s' δ' ef
   cases e
   exact snd _ _ _ G H _ _ _ _ S0 ef fun v σ' G' H' S' r'=>q v G' H' S'.grew ⟨r'.1,fun o=>let ⟨a,p,b,c,_⟩:=r'.2 o;⟨a,p,b,c⟩⟩
  ·rename_i δ' ef
   cases e
   exact snd _ _ _ G H _ _ _ _ S0 ef fun σ' G' H' S'=>q .non G' H' S'.grew ⟨Rep.non,fun z=>nomatch z⟩
  ·cases e
 ·cases e
theorem zd3 {x:Str} {st:Stmt} {f:Addr} {fd:FuncData} {N ps:List Str} {n m k:Nat} {f0:FS} (F:Fun K x x st f fd) (S:FnScope N ps (defScope st)) (hn:N.length=n) (hm:ps.length=m) (b:Binds K fd ps []) (hmg:mg x=some (.ref f))
  (body:∀ (cdv:Value) (A:Around) (outer:List Env) (s:Shared) (H:Hp) (E:XK),Room k (A.deeper (envOfC x (defScope st) s.heap.objs.size f cdv))->DB (cxOf (CXA P w) P w K mg base N x (defScope st) f cdv A outer s H E) (defBody st) f0):
  FnD P w K mg base x (k+1) ps [] (runD n m [] f0):=⟨f,fd,hmg,F.kp,b,fnD_ok F S hn hm body⟩
theorem fnD_none {x:Str} {st:Stmt} {f:Addr} {fd:FuncData} {ps:List Str} {ms:List Nat} (F:Fun K x x st f fd) (b:Binds K fd ps []) (hmg:mg x=some (.ref f)) (k:Nat):FnD P w K mg base x k ps ms (fun _=>none):=
 have no:∀ vs H Q E,¬ spM K ms (fun _=>none) vs H Q E:=fun vs H Q E h=>by
  obtain⟨_,_,_,_,_,e,_⟩:=h
  cases e
 ⟨f,fd,hmg,F.kp,b,⟨fun vs H Q E h=>(no vs H Q E h).elim,fun A outer s H args us vs Q E _ _ _ _ h=>(no vs H Q E h).elim⟩⟩
structure GlD (K:PySem.W.Frag) (mg:Str->Option Value) (x:Str) (d:D):Prop where
 ex:∃ v u,mg x=some u/\RelV v u/\∀ G,Rep K G v d
theorem de_gl {X:Cx} {x:Str} {d:D} {pos:Pos} (h:GlD X.K X.mg x d) (hg:Gl X x) (hd:(x == ("__debug__" : Str))=false:=by decide):DE X (.Name x pos) (fC d):=let ⟨_,_,h1,h2,h3⟩:=h.ex;de_glob hg h1 h2 h3 hd
theorem law_sp {F:Fn} {H:Hp} {a:Addr} {ns:List Int} (h:F [.lst (ns.map D.int)]=some (.ok (.val (.bl true)),[])) (hR:LsK K H a (ns.map V.int)):spM K [] F [.ref a] H (fun v _=>v=.bl true) fun _ _ _=>False:=
 ⟨H,_,.val (.bl true),Same.refl _,.cons (.lst hR (RepL.map (fun i=>.int i) ns)) .nil,h,fun _ _ _ _ r=>rep_bl r.1⟩
theorem cxa_no {P:Program} {w:World} {H:Hp} {s s':Shared} {e:Value} (h:CXA P w [] H s (fun _ _ _=>False) e s'):False:=h
end
end L4
namespace L4
open PySem PySem.Spec PyProof.Rows L2
theorem law_callK {P:Program} {w:World} {K:PySem.W.Frag} {mg mb:Str->Option Value} {CX:CXT} {k:Nat} {fa a:Addr} {fd:FuncData} {x:Str} {sp:Sp} {s₁:Shared} {vs:List Value} {ns:List Int}
  (KX:K.In s₁.heap) (hns:s₁.heap.Ns mainGlobals mg) (hb:s₁.heap.Ns builtinsNs mb) (hbb:∀ x:Str,x ≠ "__name__" -> mb x=bootBuiltins x) (hlim:s₁.heap.NoLimit) (hg:s₁.gens = #[])
  (ha:s₁.heap.get? a=some { cls:=.type "list",data:=.seq vs.toArray }) (hi:IntsAre vs ns) (hl:ns.length<=sizeLine) (hr:Room k callerA)
  (F:∀ base:Heap,K.In base->base.Ns mainGlobals mg->FnOk P w K mg base CX k fa fd [x] sp) (hbind:∀ (s:Shared) (u:Value),BindsTo s fd ⟨[u],[]⟩ [(x,u)])
  (hsp:∀ H:Hp,Only H->LsK K H a (ns.map V.int)->sp [.ref a] H (fun v _=>v=.bl true) fun _ _ _=>False)
  (hCX:∀ H e s',CX [] H s₁ (fun _ _ _=>False) e s'->False):
  codeAny (model P w) callerA (.call (.ref fa) ⟨[.ref a],[]⟩) (fun r s'=>r=.ok (.ret (.bool true))/\OldK s₁.heap s'.heap/\s'.os=s₁.os/\AllBare s'.gens) s₁:=by
 have rv:=vals_ints hi
 have lenV:=hi.length
 have core:∀ H:Hp,Only H->LsK K H a (ns.map V.int)->HOk P w H s₁.heap->(∀ b,H b ≠ none->b=a)->(H a ≠ none->K.lookup a=none) →
   codeAny (model P w) callerA (.call (.ref fa) ⟨[.ref a],[]⟩) (fun r s'=>r=.ok (.ret (.bool true))/\OldK s₁.heap s'.heap/\s'.os=s₁.os/\AllBare s'.gens) s₁:=by
  intro H hO hS hok hA hK
  have base_of:∀ {b:Addr} {o:Obj},s₁.heap.get? b=some o->H b=none->(hidT s₁.heap H).get? b=some o:=fun e n=>hidT_get e n
  have noA:∀ {b:Addr} {o:Obj} {es:Array DictEntry} {ep:Nat},s₁.heap.get? b=some o->o.data=.dict es ep->H b=none:=fun {b o es ep} e d=>by
   cases q:H b with
   | none=>rfl
   | some u=>
    have e':b=a:=hA b (by rw[q];simp)
    subst e'
    rw[ha] at e;cases e
    have d':Data.seq vs.toArray _=Data.dict es ep:=d
    cases d'
  have nsK:∀ {b:Addr} {m:Str->Option Value},s₁.heap.Ns b m->(hidT s₁.heap H).Ns b m:=fun {b m} ⟨o,es,ep,e,d,r⟩=>⟨o,es,ep,base_of e (noA e d),d,r⟩
  have hKb:K.In (hidT s₁.heap H):=fun b o e=>base_of (KX b o e) (by
   cases q:H b with
   | none=>rfl
   | some u=>
    have e':b=a:=hA b (by rw[q];simp)
    subst e'
    rw[hK (by rw[q];simp)] at e;cases e)
  have hM:Mod K mg (hidT s₁.heap H):=⟨hKb,nsK hns,⟨mb,nsK hb,hbb⟩,let ⟨mc,h1,h2⟩:=hlim;⟨mc,nsK h1,h2⟩⟩
  have e0:Env0 P w K mg (hidT s₁.heap H) callerA [] s₁ H:=⟨rfl,hM,fun b o e=>of_hidT e,Nat.le_of_eq (hidT_size _ _),trivial,fun b hb=>absurd (show b ∈([]:List Addr) from hb) (by simp),hok,.of_eq hg⟩
  refine codeAny_mono ((F _ hKb (nsK hns)).run callerA [] s₁ H ⟨[.ref a],[]⟩ [.ref a] [.ref a] _ _ hr e0 (hbind s₁ (.ref a)) (.cons rfl .nil) (hsp H hO hS)) fun r s' h => ?_
  cases r with
  | error e=>exact (hCX H e s' h).elim
  | ok fl=>
   cases fl with
   | next=>exact False.elim h
   | brk=>exact False.elim h
   | cont=>exact False.elim h
   | ret u=>
    obtain⟨v,H',os,bare,un,hok',r',q⟩:=h
    have q':v=.bl true:=q
    subst q'
    obtain rfl:u=Value.bool true:=r'
    refine⟨rfl,OldK.of_keep fun b o e => ?_,os,bare⟩
    cases q:H b with
    | none=>exact un.keep b o e q (by intro z;exact absurd (show b ∈([]:List Addr) from z) (by simp)) (by simp)
    | some u=>
     rcases hO b with z | ⟨ob,xs,z⟩
     ·rw[q] at z;cases z
     ·have z2:=un.frzs b ob _ z
      obtain⟨e1,_⟩:=hok b _ z
      obtain⟨e2,_⟩:=hok' b _ z2
      rw[e] at e1;cases e1
      exact e2
 cases hk:K.lookup a with
 | some o=>
  have e:=KX a o hk
  rw[ha] at e
  cases e
  refine core (fun _=>none) (fun _=>.inl rfl) (.inr ⟨vs.toArray,_,hk,by rw[List.size_toArray,lenV];exact hl,by simpa using rv⟩) (fun b u z=>by have z':(none:Option HO)=some u:=z;cases z') (fun b z=>absurd rfl z) fun z=>absurd rfl z
 | none=>
  refine core (fun b=>if b=a then some (.frz { cls:=.type "list",data:=.seq vs.toArray } (.lst (ns.map V.int))) else none) (fun b => ?_) (.inl (.inr ⟨{ cls:=.type "list",data:=.seq vs.toArray },if_pos rfl⟩)) (fun b u z => ?_) (fun b z => ?_) fun _=>hk
  ·by_cases hb:b=a
   ·exact .inr ⟨_,_,if_pos hb⟩
   ·exact .inl (if_neg hb)
  ·by_cases hb:b=a
   ·have z':=(if_pos hb).symm.trans z
    cases z'
    subst hb
    exact⟨ha,by rw[List.length_map];exact hl,vs,_,rv,ha⟩
   ·have z':=(if_neg hb).symm.trans z
    cases z'
  ·by_cases hb:b=a
   ·exact hb
   ·exact absurd (if_neg hb) z
theorem walk_ofL {l:PySem.W.OpenLaw} {n k:Nat} {q:Program} {loose:List Str} {XP:(Str->Option Value)->Heap->Prop} {YP:World->Heap->Prop} {d:DefRec} {K:Params->PySem.W.Frag} {CX:World->CXT} {sp:World->Sp} {x:Str}
  (hn:l.most=some n) (hn2:n<=sizeLine) (hdf:d.params.defaults=[]) (hr:Room k callerA)
  (hY:∀ (w:World) (h:Heap),YP w h->(K w.params).In h)
  (F:∀ (w:World) (mg:Str->Option Value) (fa:Addr) (h:Heap),(K w.params).In h->h.Ns mainGlobals mg->mg d.name=some (.ref fa) →
   ∃ fd:FuncData,(∀ (s:Shared) (u:Value),BindsTo s fd ⟨[u],[]⟩ [(x,u)]) ∧
    ∀ base:Heap,(K w.params).In base->base.Ns mainGlobals mg->FnOk l.prog w (K w.params) mg base (CX w) k fa fd [x] (sp w))
  (hsp:∀ (w:World) (H:Hp) (a:Addr) (ns:List Int),ns.length<=n->Only H->LsK (K w.params) H a (ns.map V.int)->sp w [.ref a] H (fun v _=>v=.bl true) fun _ _ _=>False)
  (hCX:∀ (w:World) (H:Hp) (s:Shared) (e:Value) (s':Shared),CX w [] H s (fun _ _ _=>False) e s'->False):
  PySem.W.WalkO q loose XP YP l.row.toRowW d [] (fun f vs=>PySem.call f vs):=by
 refine Att.attach_call hn hdf fun w s₀ s₁ mg mb fa o pm cd doc a vs ns G Y ho hd hcd hmg hobj hints hlen hg => ?_
 have KX:=hY w _ Y
 obtain⟨fd,hb,hF⟩:=F w mg fa _ KX G.T.g hmg
 exact law_callK KX G.T.g G.T.b G.T.builtins G.T.nolimit hg hobj hints (Nat.le_trans hlen hn2) hr hF hb (fun H hO hS=>hsp w H a ns hlen hO hS) fun H e s'=>hCX w H s₁ e s'
end L4
namespace L4
open PySem PySem.Spec PyProof.Rows L2
structure IterOk (K:PySem.W.Frag) (J:It) (ds:List D) (G:Hp):Prop where
 go:∀ (H:Hp) (i:Nat),Same G H->i<ds.length->J.go i H
 yld:∀ (H:Hp) (i:Nat) (x:V) (H':Hp),Same G H->i<ds.length->J.yld i H x H'->H'=H/\∃ d,ds[i]? = some d/\Rep K G x d
 stop:∀ (H:Hp),Same G H->J.stop ds.length H
noncomputable def PostI (X:Cx) (M:Nat->Option Addr) (G0 H0 G H:Hp) (σ:L2.St) (δ δ':DEnv) (R:It->Hp->Prop):Except XD (List D)->Prop
 | .ok ds=>∀ J G' H',StOk X.K M G0 H0 G' H' σ δ'->Gr G H σ δ G' H' δ'->IterOk X.K J ds G'->R J H'
 | .error _=>True
noncomputable def SndI (X:Cx) (wi:TI) (fs:FL):Prop:=∀ (M:Nat->Option Addr) (G0 H0 G H:Hp) (σ:L2.St) (δ:DEnv) (q:Except XD (List D)) (δ':DEnv) (R:It->Hp->Prop),StOk X.K M G0 H0 G H σ δ->fs δ=some (q,δ') →
 PostI X M G0 H0 G H σ δ δ' R q->wi σ H R
noncomputable def DI (X:Cx) (tg iter:Expr) (fs:FL):Prop:=∃ wi,PI X tg iter wi/\SndI X wi fs
theorem iter_rng {K:PySem.W.Frag} (lo:Int) (n:Nat) (G:Hp):IterOk K (Itr lo n) (rngD lo n) G:=by
 have hl:(rngD lo n).length=n:=by simp [rngD]
 refine⟨fun H i _ hi=>by rw[hl] at hi;exact hi,fun H i x H' _ hi y => ?_,fun H _=>by rw[hl];exact Nat.le_refl _⟩
 obtain⟨e1,e2⟩:=y
 rw[hl] at hi
 exact⟨e1,D.int (lo+(i:Int)),by simp [rngD,hi],by rw[e2];exact .int _⟩
section
variable {X:Cx}
theorem snd_iR1 {ta:TA} {fa:FL} (ha:SndL X ta fa):SndI X (iRng1 ta) (fRng1 fa):=by
 intro M G0 H0 G H σ δ q δ' R S e k
 obtain⟨as,δ2,e2,e⟩:=Rs.inv e
 ·obtain⟨ds,e3,rfl,rfl⟩:=zcz e
  unfold rng1D at e3
  split at e3
  ·rename_i j
   split at e3
   ·rename_i hj
    cases e3
    refine ha M G0 H0 G H σ δ _ _ _ S e2 fun xs G1 H1 S1 g1 r1 => ?_
    cases r1 with
    | cons h t=>
     cases t
     cases zc2 h
     exact⟨j,rfl,hj.1,hj.2,k _ G1 H1 S1 g1 (iter_rng 0 _ G1)⟩
   ·cases e3
  ·cases e3
theorem snd_iR2 {ta:TA} {fa:FL} (ha:SndL X ta fa):SndI X (iRng2 ta) (fRng2 fa):=by
 intro M G0 H0 G H σ δ q δ' R S e k
 obtain⟨as,δ2,e2,e⟩:=Rs.inv e
 ·obtain⟨ds,e3,rfl,rfl⟩:=zcz e
  unfold rng2D at e3
  split at e3
  ·rename_i a b
   split at e3
   ·rename_i hj
    cases e3
    refine ha M G0 H0 G H σ δ _ _ _ S e2 fun xs G1 H1 S1 g1 r1 => ?_
    cases r1 with
    | cons h t=>
     cases t with
     | cons h2 t=>
      cases t
      cases zc2 h
      cases zc2 h2
      exact⟨a,b,rfl,⟨hj.1,hj.2.1,hj.2.2.1,hj.2.2.2⟩,k _ G1 H1 S1 g1 (iter_rng a _ G1)⟩
   ·cases e3
  ·cases e3
end
section
variable {X:Cx} {tg iter a b:Expr} {fe:FE} {fl:FL} {p pos:Pos}
theorem di_rng1 (hg:Gl X "range") (hm:X.mg "range" = none) (ha:DA X [a] fl) (hs:starEach [a] X.env=[(false,eval a X.env)]:=by rfl):DI X tg (.Call (.Name "range" p) [a] [] pos) (fRng1 fl):=let ⟨_,a1,a2⟩:=ha;⟨_,pi_range1 hg hm a1 hs,snd_iR1 a2⟩
theorem di_rng2 (hg:Gl X "range") (hm:X.mg "range" = none) (ha:DA X [a,b] fl) (hs:starEach [a,b] X.env=[(false,eval a X.env),(false,eval b X.env)]:=by rfl) (hs2:starEach [b] X.env=[(false,eval b X.env)]:=by rfl):DI X tg (.Call (.Name "range" p) [a,b] [] pos) (fRng2 fl):=let ⟨_,a1,a2⟩:=ha;⟨_,pi_range2 hg hm a1 hs hs2,snd_iR2 a2⟩
end
noncomputable def clOf (cells:List (Str×Addr)):List (Str×NameKind)->List (Str×Addr)->List (Str×Addr)
 | [],cs=>cs
 | (n,k)::r,cs=>clOf cells r (if k == .free then (match cells.lookup n with | some c=>(n,c)::cs | none=>cs) else cs)
theorem cl_sub {cells:List (Str×Addr)} : ∀ (ns:List (Str×NameKind)) (cs:List (Str×Addr)),(∀ y c,cs.lookup y=some c->cells.lookup y=some c)->∀ y c,(clOf cells ns cs).lookup y=some c->cells.lookup y=some c
 | [],cs,h=>h
 | (n,k)::r,cs,h=>by
  refine cl_sub r _ fun y c e => ?_
  split at e
  ·split at e
   ·rename_i c' hc
    rw[List.lookup_cons] at e
    split at e
    ·rename_i hy
     cases e
     rw[eq_of_beq hy];exact hc
    ·exact h y c e
   ·exact h y c e
  ·exact h y c e
theorem cl_mono {cells:List (Str×Addr)} : ∀ (ns:List (Str×NameKind)) (cs:List (Str×Addr)) (y:Str),(∃ c,cs.lookup y=some c)->∃ c,(clOf cells ns cs).lookup y=some c
 | [],cs,y,h=>h
 | (n,k)::r,cs,y,h=>by
  refine cl_mono r _ y ?_
  split
  ·split
   ·rw[List.lookup_cons]
    split
    ·exact⟨_,rfl⟩
    ·exact h
   ·exact h
  ·exact h
theorem cl_has {cells:List (Str×Addr)} : ∀ (ns:List (Str×NameKind)) (cs:List (Str×Addr)) (y:Str) (c:Addr),(y,NameKind.free) ∈ns->cells.lookup y=some c->∃ c,(clOf cells ns cs).lookup y=some c
 | (n,k)::r,cs,y,c,h,e=>by
  rcases List.mem_cons.mp h with h | h
  ·cases h
   refine cl_mono r _ _ ?_
   rw[if_pos (by rfl),e]
   exact⟨c,by simp⟩
  ·exact cl_has r _ y c h e
theorem closure_eq {scope : Scope} {env : Env} (h : ∀ p ∈ scope.names, p.2 = .free → ∃ c, env.cells.lookup p.1 = some c) : closureFor scope env = pure (clOf env.cells scope.names []) := by
  have key : ∀ (ns : List (Str × NameKind)) (cs : List (Str × Addr)), (∀ p ∈ ns, p.2 = .free → ∃ c, env.cells.lookup p.1 = some c) →
      (forIn ns cs fun (p : Str × NameKind) (r : List (Str × Addr)) => if (p.2 == NameKind.free) = true then (do let a ← cellOf env p.1; pure (ForInStep.yield ((p.1, a) :: r))) else pure (ForInStep.yield r) : Sem (List (Str × Addr))) = pure (clOf env.cells ns cs) := by
    intro ns
    induction ns with
    | nil => intro cs _; rfl
    | cons p r ih =>
      intro cs hc
      obtain ⟨n, k⟩ := p
      rw [List.forIn_cons]
      by_cases hk : (k == NameKind.free) = true
      · obtain ⟨c, e⟩ := hc (n, k) List.mem_cons_self (eq_of_beq hk)
        have ec : cellOf env n = pure c := by unfold cellOf; rw [show env.cells.lookup n = some c from e]
        simp only [hk, if_true, ec]
        have := ih ((n, c) :: cs) fun p hp => hc p (List.mem_cons_of_mem _ hp)
        show (forIn r ((n, c) :: cs) _ : Sem _) = _
        rw [this]
        show pure (clOf env.cells r ((n, c) :: cs)) = pure (clOf env.cells r (if (k == NameKind.free) = true then (match env.cells.lookup n with | some c => (n, c) :: cs | none => cs) else cs))
        rw [if_pos hk, show env.cells.lookup n = some c from e]
      · simp only [hk, if_false]
        have := ih cs fun p hp => hc p (List.mem_cons_of_mem _ hp)
        show (forIn r cs _ : Sem _) = _
        rw [this]
        show pure (clOf env.cells r cs) = pure (clOf env.cells r (if (k == NameKind.free) = true then (match env.cells.lookup n with | some c => (n, c) :: cs | none => cs) else cs))
        rw [if_neg hk]
  have := key scope.names [] h
  unfold closureFor
  first
    | exact this
    | (show ((forIn scope.names [] _ : Sem _) >>= fun r => pure r) = _; rw [this]; rfl)
    | (simp only [bind_pure]; exact this)
end L4
namespace L4
open PySem PySem.Spec PyProof.Rows L2
noncomputable def compCx (X : Cx) (M : List Str) (scope : Scope) (x : Str) (s : Shared) (H : Hp) (fp : List Addr) (pn : List (Addr × Obj)) : Cx :=
  { X with N := x :: M, s₀ := s, H₀ := H, env := compEnvC scope (clOf X.env.cells scope.names []) s.heap.objs.size X.env, outer := X.stack, stack := X.stack, ex := fp, fn := fun _ => false, pn := pn, xe := fun _ _ => False }
structure CompOk (X:Cx) (M:List Str) (scope:Scope) (x:Str):Prop where
 kind:scope.kind=.function
 nocell:∀ p ∈scope.names,p.2 ≠ .cell
 xl:scope.names.lookup x=some .local
 names:∀ p ∈scope.names,p.2=.local->scope.names.lookup p.1=some .local
 loc:∀ p ∈scope.names,p.2=.local->p.1 ∉ M
 free:∀ p ∈scope.names,p.2=.free->X.env.scope.names.lookup p.1=some .cell\/X.env.scope.names.lookup p.1=some .free
 blank:∀ p ∈scope.names,p.1 ≠ ""
 len:M.length=X.N.length
 seen:∀ p ∈M.zip X.N,p.1 = "" ∨ p.1=p.2
 nd:(x::M).Nodup
theorem zd4 {α β:Type} [BEq α] [LawfulBEq α]:∀ {l:List (α×β)} {x:α} {y:β},l.lookup x=some y->(x,y) ∈l
 | (a,b)::r,x,y,h=>by
  rw[List.lookup_cons] at h
  split at h
  ·rename_i hx
   cases h
   rw[eq_of_beq hx]
   exact List.mem_cons_self
  ·exact List.mem_cons_of_mem _ (zd4 h)
theorem zcj {names:List (Str×NameKind)} {env:Env} {x:Str} {k:NameKind} : (names.map fun (n,k)=>if (k == NameKind.free && env.scope.kind == .function && env.kindOf n == some .cell) then (n,NameKind.cell) else (n,k)).lookup x=some k →
  names.lookup x=some k\/(k=.cell/\names.lookup x=some .free):=by
 induction names with
 | nil=>intro h;cases h
 | cons p r ih=>
  obtain⟨n,k'⟩:=p
  intro h
  rw[List.map_cons] at h
  by_cases hc:(k' == NameKind.free && env.scope.kind == .function && env.kindOf n == some .cell)=true
  ·simp only[hc,if_true] at h
   rw[List.lookup_cons] at h ⊢
   split at h
   ·rename_i hx
    cases h
    refine .inr ⟨rfl,?_⟩
    have:k'=.free:=by
     rw[Bool.and_eq_true,Bool.and_eq_true] at hc
     exact eq_of_beq hc.1.1
    rw[this]
   ·exact ih h
  ·have hc':(k' == NameKind.free && env.scope.kind == .function && env.kindOf n == some .cell)=false:=by simpa using hc
   simp only[hc',Bool.false_eq_true,if_false] at h
   rw[List.lookup_cons] at h ⊢
   split at h
   ·rename_i hx
    cases h
    exact .inl rfl
   ·exact ih h
section
variable {X:Cx} {M:List Str} {scope:Scope} {x:Str} {pins:List (Addr×Obj)} {σ:L2.St} {H:Hp} {s:Shared} {fp:List Addr}
theorem CompOk.cells (c:CompOk X M scope x) (ok:X.Ok):∀ p ∈scope.names,p.2=.free->∃ a,X.env.cells.lookup p.1=some a:=fun p hp hf=>ok.has p.1 (c.free p hp hf)
theorem inv_comp {h₁:Heap} {tk:Nat} (c:CompOk X M scope x) (I:Inv X pins σ H s) (hf:∀ b ∈fp,FpOk X pins H b) (hfo:∀ b ∈fp,∃ o,s.heap.get? b=some o)
  (hns:h₁.Ns s.heap.objs.size (fun _=>none)) (keep:∀ b o,s.heap.get? b=some o->h₁.get? b=some o):
  Inv (compCx X M scope x s H fp (X.pn++pins)) [] (none::σ) H { s with heap:=h₁,toks:=tk }:=by
 have sub:∀ y a,(clOf X.env.cells scope.names []).lookup y=some a->X.env.cells.lookup y=some a:=cl_sub scope.names [] fun y a e=>by cases e
 have nstk:∀ b,b ≠ X.env.locals->b ∉ X.fs->b ∉ frs X.stack:=fun b h1 h2 z=>(List.mem_cons.mp (I.stkSub b z)).elim h1 h2
 have lt:∀ b o,s.heap.get? b=some o->b ≠ s.heap.objs.size:=fun b o e=>Nat.ne_of_lt (Heap.lt_size e)
 refine⟨⟨I.ok.mod,?_,I.ok.glob,I.ok.blt,Nat.le_refl _,fun y z a e1 e2=>I.ok.inj y z a (sub y a e1) (sub z a e2),fun y hy => ?_,fun y a e=>(by cases e),I.ok.hd,I.ok.frames,.inl rfl,fun b hb=>⟨?_,fun y a e=>(hf b hb).2.2.2.2.1 y a (sub y a e)⟩,I.bs,
   Nat.le_trans I.ok.bsz I.sz,fun b o e hb => ?_,fun b hb=>nstk b (hf b hb).2.1 (hf b hb).2.2.1,I.stack,I.stkFree⟩,rfl,I.bare,Un.kept keep,⟨_,hns,fun i y v e1 e2 e3 => ?_⟩,fun y a e => ?_,I.fresh,fun y a e=>I.freeC y a (sub y a e),fun p hp => ?_,I.hok.kept keep,?_⟩
 ·show (relabel scope X.env).kind=.function
  exact c.kind
 ·have hy':scope.names.lookup y=some .free:=by
   rcases hy with hy | hy
   ·rcases zcj hy with z | ⟨_,z⟩
    ·exact absurd rfl (c.nocell _ (zd4 z))
    ·exact z
   ·rcases zcj hy with z | ⟨z,_⟩
    ·exact z
    ·cases z
  obtain⟨a,e⟩:=c.cells I.ok _ (zd4 hy') rfl
  exact cl_has scope.names [] y a (zd4 hy') e
 ·obtain⟨o,e⟩:=hfo b hb
  exact lt b o e
 ·rcases (hf b hb).2.2.2.1 with z | z
  ·exact I.ok.noex b o e z
  ·exact absurd (Nat.lt_of_lt_of_le (Heap.lt_size e) (Nat.le_trans I.ok.bsz z)) (Nat.lt_irrefl _)
 ·cases i with
  | zero=>cases e2
  | succ i=>
   have e1':M[i]? = some y:=e1
   have e2':σ[i]? = some (some v):=e2
   have hi:i<M.length:=(List.getElem?_eq_some_iff.mp e1').1
   have hX:∃ z,X.N[i]? = some z/\(y = "" ∨ y=z):=by
    have hi':i<X.N.length:=by rw[←c.len];exact hi
    refine⟨X.N[i],List.getElem?_eq_getElem hi',?_⟩
    refine c.seen (y,X.N[i]) ?_
    have:(M.zip X.N)[i]? = some (y,X.N[i]):=by
     rw[List.getElem?_zip_eq_some]
     exact⟨e1',List.getElem?_eq_getElem hi'⟩
    exact List.mem_of_getElem? this
   obtain⟨z,hz,hyz⟩:=hX
   have hy':scope.names.lookup y=some .free:=by
    rcases e3 with w | w | w
    ·rcases zcj w with z | ⟨z,_⟩
     ·exact absurd (List.mem_of_getElem? e1') (c.loc _ (zd4 z) rfl)
     ·cases z
    ·rcases zcj w with z | ⟨_,z⟩
     ·exact absurd rfl (c.nocell _ (zd4 z))
     ·exact z
    ·rcases zcj w with z | ⟨z,_⟩
     ·exact z
     ·cases z
   have hm:=zd4 hy'
   rcases hyz with rfl | rfl
   ·exact absurd rfl (c.blank _ hm)
   ·have hk:=c.free _ hm rfl
    obtain⟨m,hn,hl⟩:=I.loc
    obtain⟨u,r,l⟩:=hl i y v hz e2' (hk.elim (fun q=>.inr (.inl q)) fun q=>.inr (.inr q))
    refine⟨u,r,?_⟩
    rcases l with ⟨l,_⟩ | ⟨_,a,ea,ia⟩
    ·rcases hk with hk | hk
     ·have l':X.env.scope.names.lookup y=some .local:=l
      rw[hk] at l';cases l'
     ·have l':X.env.scope.names.lookup y=some .local:=l
      rw[hk] at l';cases l'
    ·obtain⟨a',e'⟩:=cl_has scope.names [] y a hm ea
     have:a'=a:=by have:=sub y a' e';rw[ea] at this;exact (Option.some.inj this).symm
     subst this
     refine .inr ⟨?_,a',e',ia.keeps keep⟩
     rcases e3 with w | w | w
     ·rcases zcj w with z | ⟨z,_⟩
      ·rw[hy'] at z;cases z
      ·cases z
     ·exact .inl w
     ·exact .inr w
 ·obtain⟨v,z⟩:=I.cell y a (sub y a e)
  exact⟨v,z.keeps keep⟩
 ·have hp':p ∈X.pn++pins:=by simpa [compCx] using hp
  obtain⟨q1,q2,q3,q4,q5⟩:=I.pin p hp'
  exact⟨keep _ _ q1,q2,lt _ _ q1,nstk _ q3 q4,q5⟩
 ·show (none::σ).length=(x::M).length
  rw[List.length_cons,List.length_cons,I.len,c.len]
theorem inv_back {σ':L2.St} {H':Hp} {s':Shared} {h₂:Heap} (I:Inv X pins σ H s) (hf:∀ b ∈fp,FpOk X pins H b)
  (I':Inv (compCx X M scope x s H fp (X.pn++pins)) [] σ' H' s') (hs:Heap.SameBut s.heap.objs.size s'.heap h₂):Inv X pins σ H' { s' with heap:=h₂ }:=by
 have lt:∀ b o,s.heap.get? b=some o->b ≠ s.heap.objs.size:=fun b o e=>Nat.ne_of_lt (Heap.lt_size e)
 have u:=I'.base
 refine I.call' (s':={ s' with heap:=h₂ }) (ch:=fp) I'.os ⟨fun b o e n hb hx => ?_,fun b o e n hb hx => ?_,u.free,fun b o e hx => ?_,u.tups,u.frzs,u.tbls⟩ (fun b ob e => ?_) I'.bare fun b hb=>⟨(hf b hb).2.2.2.1,(hf b hb).2.1,(hf b hb).2.2.2.2.1,(hf b hb).2.2.2.2.2⟩
 ·exact (hs.2 b (lt b o e)).trans (u.keep b o e n hb hx)
 ·obtain⟨sl,q⟩:=u.slot b o e n hb hx
  exact⟨sl,(hs.2 b (lt b o e)).trans q⟩
 ·obtain⟨o',q⟩:=u.there b o e hx
  exact⟨o',(hs.2 b (lt b o e)).trans q⟩
 ·have hC:H' s.heap.objs.size=none:=I'.free
  refine (I'.hok b ob e).stay (fun d v hd q=>(hs.2 d ?_).trans q) (fun _ q=>q) fun _ _ q=>q
  rintro rfl
  rcases hd with hd | hd
  ·rw[←hd,hC] at e;cases e
  ·rw[hC] at hd;cases hd
end
end L4
namespace L4
open PySem PySem.Spec PyProof.Rows L2
abbrev Well {α:Type} (prog:Program) (w:World) (A:Around) (m:Sem α) (q:α->Shared->Prop) (s:Shared):Prop:=wpAny (model prog w) A m q (fun _ _=>False) s
theorem Well.go {α β:Type} {prog:Program} {w:World} {A:Around} {s:Shared} {E:Value->Shared->Prop} {m:Sem α} {f:α->Sem β} {q:α->Shared->Prop} {r:β->Shared->Prop} (a:Well prog w A m q s) (b:∀ v t,q v t->wpAny (model prog w) A (f v) r E t):wpAny (model prog w) A (m >>= f) r E s:=
 wpAny_bind (wpAny_mono a b fun _ _=>False.elim)
abbrev testsOf (ifs:List Expr) (env:Env):Sem Bool:=forIn ifs true fun c ok=>if ok=true then isTrue c env (eval c env) >>= fun b=>pure (.yield b) else pure (.yield ok)
theorem compLoop_own {prog:Program} {w:World} {A:Around} {R:Result->Shared->Prop} {s:Shared} {elt target iter:Expr} {ifs:List Expr} {scope:Scope} {pos:Pos} {it acc:Value} {env:Env} (I:Nat->Shared->Prop)
  (turn:∀ n s,I n s->Well prog w A (pyNext it) (fun r t=>r.elim (R (.ok .next) t) fun v=>Well prog w A (letOwnedTupleGo target it v) (fun _ t=>Well prog w A (assign target env v) (fun _ t=>Well prog w A (testsOf ifs env) (fun ok t=>
   if ok=true then Well prog w A (eval elt env) (fun x t=>Well prog w A (call (.builtin "list.append") [acc,x]) (fun _ t=>∃ m,m<n/\I m t) t) t else ∃ m,m<n/\I m t) t) t) t) s)
  (n:Nat) (h:I n s):codeAny (model prog w) A (.compLoop (.ListComp elt [⟨target,iter,ifs,0⟩] scope pos) 0 it acc env) R s:=by
 apply codeAny_loop rfl I (n:=n) (h:=h)
 intro n s i
 apply wpAny_noted
 rw[compTurn_list]
 apply wpAny_bind
 apply wpAny_standAt
 apply (turn n s i).go
 rintro (_ | v) t a
 ·exact wpAny_pure a
 ·apply a.go
  intro _ t a
  apply a.go
  intro _ t a
  apply a.go
  rintro (_ | _) t a
  ·wp_walk
   exact⟨rfl,a⟩
  ·apply wpAny_bind
   apply a.go
   intro x t a
   apply a.go
   intro _ t a
   wp_walk
   exact⟨rfl,a⟩
noncomputable def testD (fc:Option FT) (d:D) (δ:DEnv):Rs Bool:=match fc with | none=>some (.ok true,some (Sl.val d)::δ) | some c=>c (some (Sl.val d)::δ)
noncomputable def compD (fc:Option FT) (fe:FE):List D->List D->DEnv->Option (List D×DEnv)
 | [],acc,δ=>some (acc,δ)
 | d::ds,acc,δ=>match testD fc d δ with
  | some (.ok true,δ1)=>(match fe δ1 with
   | some (.ok q,δ2)=>if acc.length<sizeLine then compD fc fe ds (acc++[q.fz]) δ2.tail else none
   | _=>none)
  | some (.ok false,δ1)=>compD fc fe ds acc δ1.tail
  | _=>none
noncomputable def fComp (src:FL) (fc:Option FT) (fe:FE):FE:=fun δ=>(src δ).bind fun ds δ=>match compD fc fe ds [] δ with
 | some (r,δ')=>some (.ok (.own (.lst r)),δ')
 | none=>none
noncomputable def shM (M:Nat->Option Addr):Nat->Option Addr
 | 0=>none
 | i+1=>M i
section
variable {K:PySem.W.Frag} {M:Nat->Option Addr} {G0 H0 G H G' H':Hp} {σ:L2.St} {δ δ':DEnv} {ov:Option V}
theorem ow_cons {d:D} {p:Addr} (h:Ow (ov::σ) (some (.val d)::δ) p):Ow σ δ p:=by
 obtain⟨i,s,z1,os,z2⟩:=h
 cases i with
 | zero=>cases z1;cases os
 | succ i=>exact⟨i,s,z1,os,z2⟩
theorem ow_tail {p:Addr} (h:Ow σ δ'.tail p):Ow (ov::σ) δ' p:=by
 obtain⟨i,s,z1,os,z2⟩:=h
 cases δ' with
 | nil=>cases z1
 | cons o r=>exact⟨i+1,s,z1,os,z2⟩
theorem StOk.cons {v:V} {d:D} (S:StOk K M G0 H0 G H σ δ) (r:Rep K G v d):StOk K (shM M) G0 H0 G H (some v::σ) (some (.val d)::δ):=by
 refine⟨S.gh,⟨by simp [S.env.len],fun i s e => ?_,fun i j p a b z1 z2 oa ob z3 z4 => ?_⟩,S.h0,S.g0,S.fr,fun p z=>S.own0 p (ow_cons z),fun i d e => ?_⟩
 ·cases i with
  | zero=>cases e;exact⟨v,rfl,r⟩
  | succ i=>exact S.env.at' i s e
 ·cases i with
  | zero=>cases z1;cases oa
  | succ i=>
   cases j with
   | zero=>cases z2;cases ob
   | succ j=>exact congrArg (· + 1) (S.env.sep i j p a b z1 z2 oa ob z3 z4)
 ·cases i with
  | zero=>cases e
  | succ i=>exact S.mt i d e
theorem StOk.tail (S:StOk K (shM M) G0 H0 G H (ov::σ) δ'):StOk K M G0 H0 G H σ δ'.tail:=by
 cases δ' with
 | nil=>have:=S.env.len;simp at this
 | cons o r=>
  refine⟨S.gh,⟨by have:=S.env.len;simpa using this,fun i s e=>S.env.at' (i+1) s e,fun i j p a b z1 z2 oa ob z3 z4 => ?_⟩,S.h0,S.g0,S.fr,fun p z=>S.own0 p (ow_tail z),fun i d e=>S.mt (i+1) d e⟩
  have:=S.env.sep (i+1) (j+1) p a b z1 z2 oa ob z3 z4
  lia
theorem Gr.tail {d:D} (g:Gr G H (ov::σ) (some (.val d)::δ) G' H' δ'):Gr G H σ δ G' H' δ'.tail:=
 ⟨fun b o h n=>g.hs b o h fun z=>n (ow_cons z),g.hd,g.gg,fun b h n o=>g.fr b h n fun z=>o (ow_cons z),fun p z=>ow_cons (g.shr p (ow_tail z))⟩
theorem StOk.poke {l:Addr} {o:HO} (S:StOk K M G0 H0 G H σ δ) (hg:G l=none) (hn:¬ Ow σ δ l) (h0:H0 l=none):StOk K M G0 H0 G (upd H l o) σ δ:=by
 have same':∀ (H1:Hp),H1 l=none->Same H1 H->Same H1 (upd H l o):=fun H1 n h b u q=>by rw[za2 (za5 q n)];exact h b u q
 refine⟨same' G hg S.gh,⟨S.env.len,fun i s e => ?_,S.env.sep⟩,same' H0 h0 S.h0,S.g0,S.fr,S.own0,S.mt⟩
 obtain⟨v,e1,r⟩:=S.env.at' i s e
 refine⟨v,e1,?_⟩
 have key:∀ d,s.isO=true->(∃ q,v=.ref q/\G q=none/\OwnAt K G H q d)->∃ q,v=.ref q/\G q=none/\OwnAt K G (upd H l o) q d:=fun d os ⟨q,e2,e4,rr⟩=>by
  subst e2
  have ne:q ≠ l:=fun z=>hn (by rw[←z];exact⟨i,s,e,os,e1⟩)
  exact⟨q,rfl,e4,rr.keep (za2 ne) (Same.refl _)⟩
 cases s with
 | val d=>exact r
 | own d=>exact key d rfl r
 | lnt d=>exact key d rfl r
end
noncomputable def TestsOk (X:Cx) (M:List Str) (scope:Scope) (x:Str) (ifs:List Expr) (fc:Option FT):Prop:=
 (ifs=[]/\fc=none)\/∃ c f,ifs=[c]/\fc=some f/\∀ s H fp pn,DT (compCx X M scope x s H fp pn) c f
section
variable {X:Cx} {M:List Str} {scope:Scope} {x:Str} {elt iter:Expr} {ifs:List Expr} {pos px:Pos} {fs:FL} {fc:Option FT} {fe:FE}
theorem comp_block (c : CompOk X M scope x) (hc : X.calm = true) (ht : TestsOk X M scope x ifs fc) (he : ∀ s H fp pn, DE (compCx X M scope x s H fp pn) elt fe)
    {pins : List (Addr × Obj)} {s2 : Shared} {σ : L2.St} {ML : Nat → Option Addr} {G0 H0 G1 H1 : Hp} {δ1 : DEnv} {it : Addr} {fp : List Addr} {tn : Nat → Heap → Prop} {J : It} {ds res : List D} {δE : DEnv}
    (I : Inv X pins σ H1 s2) (T : Turn X.prog X.w X.K (.Name x px) J fp it tn) (st : tn 0 s2.heap) (hf : ∀ b ∈ fp, FpOk X pins H1 b) (S : StOk X.K ML G0 H0 G1 H1 σ δ1) (io : IterOk X.K J ds G1) (ec : compD fc fe ds [] δ1 = some (res, δE))
    {RR : Value → Addr → Result → Shared → Prop} {E : Value → Shared → Prop}
    (hR : ∀ (l C : Addr) (s' : Shared) (G' H' : Hp) (vs : List V), H1 l = none → s2.heap.objs.size ≤ C → H' C = none → (∃ m, s'.heap.Ns C m) → StOk X.K ML G0 H0 G' H' σ δE → Gr G1 H1 σ δ1 G' H' δE → H' l = some (.lst vs) → G' l = none → RepL X.K G' vs res →
      (∀ h', Heap.SameBut C s'.heap h' → Inv X pins σ H' { s' with heap := h' }) → RR (.ref l) C (.ok .next) s') :
    wpAny (model X.prog X.w) X.A (newList []) (fun acc s₃ => wpAny (model X.prog X.w) X.A (newFunctionEnv scope X.env.globals (clOf X.env.cells scope.names []) [] X.env.qual none .none (some X.env)) (fun cenv s₄ =>
      codeAny (model X.prog X.w) X.A (.compStart (.ListComp elt [⟨.Name x px, iter, ifs, 0⟩] scope pos) 0 (.ref it) acc { cenv with scope := relabel scope X.env }) (RR acc cenv.locals) s₄) E s₃) E s2 := by
  refine wpAny_newObj_type (wpAny_newFunctionEnv c.nocell (by intro y hy; simp at hy) (fun h₁ hns hsb => ?_) c.kind)
  have hl : H1 s2.heap.objs.size = none := I.fresh
  have I3 : Inv X pins σ (upd H1 s2.heap.objs.size (.lst [])) { s2 with heap := s2.heap.push { cls := .type "list", data := .seq ([] : List Value).toArray } } := I.lnew (t' := s2.toks) (ys := []) .nil (Nat.zero_le _)
  generalize hs3 : ({ s2 with heap := s2.heap.push { cls := .type "list", data := .seq ([] : List Value).toArray } } : Shared) = s3 at I3
  have e3 : s3.heap = s2.heap.push { cls := .type "list", data := .seq ([] : List Value).toArray } := by rw [← hs3]
  have hns' : h₁.Ns s3.heap.objs.size (fun _ => none) := by rw [e3]; exact hns
  have keep : ∀ b o, s3.heap.get? b = some o → h₁.get? b = some o := fun b o e => by
    have lt := Heap.lt_size e
    rw [e3] at e lt
    exact hsb.extBut b o (Nat.ne_of_lt lt) (Heap.get?_push_of_some _ e)
  have keep2 : ∀ b o, s2.heap.get? b = some o → s3.heap.get? b = some o := fun b o e => by rw [e3]; exact Heap.get?_push_of_some _ e
  have fo : ∀ b ∈ fp, ∃ o, s2.heap.get? b = some o := fun b hb => let ⟨o, e, _⟩ := T.obj 0 s2.heap st b hb; ⟨o, e⟩
  have nel : ∀ b ∈ fp, b ≠ s2.heap.objs.size := fun b hb => let ⟨o, e⟩ := fo b hb; Nat.ne_of_lt (Heap.lt_size e)
  have hf3 : ∀ b ∈ fp, FpOk X pins (upd H1 s2.heap.objs.size (.lst [])) b := fun b hb => ⟨by rw [za2 (nel b hb)]; exact (hf b hb).1, (hf b hb).2⟩
  have I4 := inv_comp (tk := s2.toks + ([] : List (Str × Value)).length) c I3 hf3 (fun b hb => let ⟨o, e⟩ := fo b hb; ⟨o, keep2 b o e⟩) hns' keep
  have st4 : tn 0 h₁ := T.keep 0 _ _ st fun b hb o e => keep b o (keep2 b o e)
  have stat : ∀ {H' : Hp}, (∀ b ∈ fp, H' b = none) → ∀ b ∈ fp, FpOk (compCx X M scope x s3 (upd H1 s2.heap.objs.size (.lst [])) fp (X.pn ++ pins)) [] H' b := fun {H'} hn b hb => by
    refine ⟨hn b hb, (I4.ok.exf b hb).1, I4.ok.exfs b hb, .inl hb, (I4.ok.exf b hb).2, fun p hp => ?_⟩
    have hp' : p ∈ X.pn ++ pins := by simpa [compCx] using hp
    exact (hf b hb).2.2.2.2.2 p hp'
  obtain ⟨S3, g3, hg3⟩ := S.new (o := .lst []) hl
  have hl0 : H0 s2.heap.objs.size = none := Same.free S.h0 hl
  have noOw1 : ¬ Ow σ δ1 s2.heap.objs.size := S.noOw hl
  have loop : ∀ s4 : Shared, s4 = { s2 with heap := h₁, toks := s2.toks + ([] : List (Str × Value)).length } →
      codeAny (model X.prog X.w) X.A (.compLoop (.ListComp elt [⟨.Name x px, iter, ifs, 0⟩] scope pos) 0 (.ref it) (.ref s2.heap.objs.size) (compEnvC scope (clOf X.env.cells scope.names []) s3.heap.objs.size X.env)) (RR (.ref s2.heap.objs.size) s3.heap.objs.size) s4 := by
    rintro s4 rfl
    refine compLoop_own (fun n s' => ∃ (i : Nat) (ov : Option V) (G' H' : Hp) (δ' : DEnv) (vs : List V) (acc : List D), Inv (compCx X M scope x s3 (upd H1 s2.heap.objs.size (.lst [])) fp (X.pn ++ pins)) [] (ov :: σ) H' s' ∧ tn i s'.heap ∧ (∀ b ∈ fp, H' b = none) ∧ i ≤ ds.length ∧ n = ds.length - i ∧
      StOk X.K ML G1 H0 G' H' σ δ' ∧ Gr G1 H1 σ δ1 G' H' δ' ∧ H' s2.heap.objs.size = some (.lst vs) ∧ G' s2.heap.objs.size = none ∧ RepL X.K G' vs acc ∧ compD fc fe (ds.drop i) acc δ' = some (res, δE)) ?_ ds.length
      ⟨0, none, G1, _, δ1, [], [], by rw [← hs3] at I4; rw [← hs3]; exact I4, st4, fun b hb => by rw [za2 (nel b hb)]; exact (hf b hb).1, Nat.zero_le _, by simp, S3.rebase, g3, za4, hg3, .nil, by simpa using ec⟩
    rintro n s' ⟨i, ov, G', H', δ', vs, acc, I', st', fr', hi, rfl, S', g', hv, hgl, ra, ed⟩
    have noOw : ¬ Ow σ δ' s2.heap.objs.size := fun z => noOw1 (g'.shr _ z)
    by_cases hlt : i < ds.length
    · -- one more
      have hd : ds.drop i = ds[i] :: ds.drop (i + 1) := List.drop_eq_getElem_cons hlt
      rw [hd] at ed
      have go := io.go H' i (S'.g0.trans S'.gh) hlt
      refine thn (T.item (compCx X M scope x s3 (upd H1 s2.heap.objs.size (.lst [])) fp (X.pn ++ pins)) rfl rfl rfl hc i [] s' (ov :: σ) H' _ I' (stat fr') st' go) fun r s5 ⟨u, hr, h5⟩ => ?_
      subst hr
      refine thn h5 fun _ s6 ⟨y, H6, I6, r6, y6, st6, fr6⟩ => ?_
      obtain ⟨rfl, d, ed', rd⟩ := io.yld H' i y H6 (S'.g0.trans S'.gh) hlt y6
      have hde : ds[i] = d := by rw [List.getElem?_eq_getElem hlt] at ed'; exact Option.some.inj ed'
      rw [hde] at ed
      have I6' := I6.pinned (stat fr6) (T.obj _ _ st6)
      refine thn (pg_name (i := 0) (x := x) (pos := px) c.nd rfl (.inl (lookup_relabel_local c.xl)) (.inr (lookup_relabel_local c.xl)) ([] ++ pinsAt fp s6.heap) s6 (ov :: σ) H6 y u (fun σ2 H2 => σ2 = some y :: σ ∧ H2 = H6) I6' r6 ⟨rfl, rfl⟩) fun _ s7 ⟨σ7, H7, I7, q7⟩ => ?_
      obtain ⟨rfl, rfl⟩ := q7
      have back : ∀ {s8 : Shared} {H8 : Hp} {σ8 : L2.St}, Inv (compCx X M scope x s3 (upd H1 s2.heap.objs.size (.lst [])) fp (X.pn ++ pins)) ([] ++ pinsAt fp s6.heap) σ8 H8 s8 → tn (i + 1) s8.heap ∧ ∀ b ∈ fp, H8 b = none := fun {s8 H8 σ8} I8 => by
        refine ⟨T.keep _ _ _ st6 fun b hb o e => (I8.pin (b, o) (List.mem_append_right _ (List.mem_append_right _ (mem_pinsAt hb e)))).1, fun b hb => ?_⟩
        obtain ⟨o, e, d⟩ := T.obj _ _ st6 b hb
        exact (I8.pin (b, o) (List.mem_append_right _ (List.mem_append_right _ (mem_pinsAt hb e)))).2.1
      have S7 : StOk X.K (shM ML) G1 H0 G' H7 (some y :: σ) (some (.val d) :: δ') := S'.cons (Rep.mono S'.g0 rd)
      obtain ⟨b, δt, e1, e2⟩ : ∃ (b : Bool) (δt : DEnv), testD fc d δ' = some (Except.ok b, δt) ∧ (if b = true then (match fe δt with
          | some (.ok q, δ2) => if acc.length < sizeLine then compD fc fe (ds.drop (i + 1)) (acc ++ [q.fz]) δ2.tail else none
          | _ => none) else compD fc fe (ds.drop (i + 1)) acc δt.tail) = some (res, δE) := by
        unfold compD at ed
        split at ed
        · rename_i δ9 e9; exact ⟨true, δ9, e9, by simpa using ed⟩
        · rename_i δ9 e9; exact ⟨false, δ9, e9, by simpa using ed⟩
        · cases ed
      have test : wpAny (model X.prog X.w) X.A (forIn ifs true fun c r => if r = true then do let ok ← isTrue c (compEnvC scope (clOf X.env.cells scope.names []) s3.heap.objs.size X.env) (eval c (compEnvC scope (clOf X.env.cells scope.names []) s3.heap.objs.size X.env)); pure (ForInStep.yield ok) else pure (ForInStep.yield r))
          (fun ok s8 => ok = b ∧ ∃ G8 H8, Inv (compCx X M scope x s3 (upd H1 s2.heap.objs.size (.lst [])) fp (X.pn ++ pins)) ([] ++ pinsAt fp s6.heap) (some y :: σ) H8 s8 ∧ StOk X.K (shM ML) G1 H0 G8 H8 (some y :: σ) δt ∧ Gr G' H7 (some y :: σ) (some (.val d) :: δ') G8 H8 δt) (fun _ _ => False) s7 := by
        rcases ht with ⟨rfl, rfl⟩ | ⟨cn, f, rfl, rfl, hdt⟩
        · cases e1
          exact wpAny_tests_nil ⟨rfl, G', H7, I7, S7, Gr.refl ..⟩
        · obtain ⟨tt, p1, p2⟩ := hdt s3 (upd H1 s2.heap.objs.size (.lst [])) fp (X.pn ++ pins)
          refine wpAny_tests_one (thn (p1 _ s7 _ H7 (fun k H8 => k = b ∧ ∃ G8, StOk X.K (shM ML) G1 H0 G8 H8 (some y :: σ) δt ∧ Gr G' H7 (some y :: σ) (some (.val d) :: δ') G8 H8 δt) I7 (p2 (shM ML) G1 H0 G' H7 _ _ (.ok b) δt _ S7 e1 fun G8 H8 S8 g8 => ⟨rfl, G8, S8, g8⟩)) fun k s8 ⟨H8, I8, hk, G8, S8, g8⟩ => ?_)
          exact ⟨hk, G8, H8, I8, S8, g8⟩
      refine thn test fun ok s8 ⟨hok, G8, H8, I8, S8, g8⟩ => ?_
      subst hok
      have gt8 := g8.tail
      cases ok with
      | false =>
        simp only [Bool.false_eq_true, if_false] at e2 ⊢
        obtain ⟨st8, fr8⟩ := back I8
        refine ⟨ds.length - (i + 1), by omega, i + 1, some y, G8, H8, δt.tail, vs, acc, I8.unpinned, st8, fr8, hlt, rfl, S8.tail, g'.trans gt8, gt8.hs _ _ hv noOw, (gt8.fr _ (by rw [hv]; simp) hgl noOw).none S8.gh (gt8.hs _ _ hv noOw) (fun _ z => nomatch z), RepL.mono g8.gg ra, e2⟩
      | true =>
        simp only [if_true] at e2 ⊢
        obtain ⟨sq, δq, e4, e5⟩ : ∃ (sq : Sl) (δq : DEnv), fe δt = some (.ok sq, δq) ∧ (if acc.length < sizeLine then compD fc fe (ds.drop (i + 1)) (acc ++ [sq.fz]) δq.tail else none) = some (res, δE) := by
          split at e2
          · rename_i q9 δ9 e9; exact ⟨q9, δ9, e9, e2⟩
          · cases e2
        split at e5
        · rename_i hsz
          obtain ⟨te, p1, p2⟩ := he s3 (upd H1 s2.heap.objs.size (.lst [])) fp (X.pn ++ pins)
          refine thn (p1 _ s8 _ H8 (fun v H9 => ∃ G9, StOk X.K (shM ML) G1 H0 G9 H9 (some y :: σ) δq ∧ Gr G8 H8 (some y :: σ) δt G9 H9 δq ∧ Rep X.K G9 v sq.fz) I8 (p2.toV (shM ML) G1 H0 G8 H8 _ _ sq δq _ S8 e4 fun v G9 H9 S9 g9 r9 => ⟨G9, S9, g9, r9⟩)) fun xv s9 ⟨v, H9, I9, r9, G9, S9, g9, rd9⟩ => ?_
          have g79 := (g8.trans g9).tail
          have hv9 : H9 s2.heap.objs.size = some (.lst vs) := g79.hs _ _ hv noOw
          have hgl9 : G9 s2.heap.objs.size = none := (g79.fr _ (by rw [hv]; simp) hgl noOw).none S9.gh hv9 (fun _ z => nomatch z)
          have lenA : vs.length = acc.length := ra.len
          refine thn (mt_append _ s9 _ H9 (.ref s2.heap.objs.size) [v] (.ref s2.heap.objs.size) [xv] (fun _ H10 => H10 = upd H9 s2.heap.objs.size (.lst (vs ++ [v]))) I9 rfl (.cons r9 .nil) ⟨_, vs, v, rfl, rfl, hv9, by rw [lenA]; exact hsz, rfl⟩) fun _ s10 ⟨_, H10, I10, _, q10⟩ => ?_
          subst q10
          obtain ⟨st10, fr10⟩ := back I10
          have gA : Gr G1 H1 σ δ1 G9 (upd H9 s2.heap.objs.size (.lst (vs ++ [v]))) δq.tail := by
            have g := g'.trans g79
            refine ⟨fun b o q n => ?_, fun b n => ?_, g.gg, g.fr, g.shr⟩
            · rw [za2 (za5 q hl)]
              exact g.hs b o q n
            · by_cases hb : b = s2.heap.objs.size
              · subst hb; exact absurd hl n
              · rw [za2 hb]; exact g.hd b n
          refine ⟨ds.length - (i + 1), by omega, i + 1, some y, G9, _, δq.tail, vs ++ [v], acc ++ [sq.fz], I10.unpinned, st10, fr10, hlt, rfl,
            S9.tail.poke hgl9 (fun z => noOw1 (gA.shr _ z)) hl0, gA, za4, hgl9, (RepL.mono (g8.gg.trans g9.gg) ra).app (.cons rd9 .nil), e5⟩
        · cases e5
    · -- the end
      have he' : i = ds.length := by omega
      subst he'
      rw [List.drop_length] at ed
      cases ed
      refine thn (T.done (compCx X M scope x s3 (upd H1 s2.heap.objs.size (.lst [])) fp (X.pn ++ pins)) rfl rfl rfl hc ds.length [] s' (ov :: σ) H' _ I' (stat fr') st' (io.stop H' (S'.g0.trans S'.gh))) fun r s5 ⟨hr, I5⟩ => ?_
      subst hr
      have up : StOk X.K ML G0 H0 G' H' σ δE := S.unbase S'
      refine hR _ _ s5 G' H' vs hl (by rw [e3, Heap.size_push]; exact Nat.le_succ _) I5.free ?_ up g' hv hgl ra fun h' hsb' => inv_back I3 hf3 I5 hsb'
      obtain ⟨m, hn, _⟩ := I5.loc
      exact ⟨m, hn⟩
  show codeAny (model X.prog X.w) X.A (.compStart (.ListComp elt [⟨.Name x px, iter, ifs, 0⟩] scope pos) 0 (.ref it) (.ref s2.heap.objs.size) (compEnvC scope (clOf X.env.cells scope.names []) s3.heap.objs.size X.env)) (RR (.ref s2.heap.objs.size) s3.heap.objs.size) _
  exact codeAny_compStart_list (loop _ (by rw [← hs3])) (T.self _ 0 _ _ _ st4 (loop _ (by rw [← hs3])))
end
end L4
namespace L4
open PySem PySem.Spec PyProof.Rows L2
section
variable {X:Cx} {M:List Str} {scope:Scope} {x:Str} {elt iter:Expr} {ifs:List Expr} {pos px:Pos} {fs:FL} {fc:Option FT} {fe:FE}
theorem de_comp (c:CompOk X M scope x) (hc:X.calm=true) (src:DI X (.Name x px) iter fs) (ht:TestsOk X M scope x ifs fc) (he:∀ s H fp pn,DE (compCx X M scope x s H fp pn) elt fe) (hs:∀ y,foldedSetIterable iter X.env y=pure y:=by intro _;rfl):
  DE X (.ListComp elt [⟨.Name x px,iter,ifs,0⟩] scope pos) (fComp fs fc fe):=by
 refine⟨fun σ H Q=>∀ pins s,Inv X pins σ H s->wpAny (model X.prog X.w) X.A (eval (.ListComp elt [⟨.Name x px,iter,ifs,0⟩] scope pos) X.env) (EP X pins σ Q) X.xe s,fun pins s σ H Q I h=>h pins s I,?_⟩
 intro ML G0 H0 G H σ δ sl δ' Q S e k pins s I
 obtain⟨wi,hi,si⟩:=src
 obtain⟨ds,δ1,e1,e⟩:=Rs.inv e
 obtain⟨res,δ2,e2,e⟩:∃ (res:List D) (δ2:DEnv),compD fc fe ds [] δ1=some (res,δ2)/\some (Except.ok (Sl.own (.lst res)),δ2)=some (sl,δ'):=by
  split at e
  ·rename_i r9 δ9 e9;exact⟨r9,δ9,e9,e⟩
  ·cases e
 cases e
 rw[eval_ListComp]
 refine wpAny_comprehension_free (use:=none) rfl hs (closure_eq (c.cells I.ok)) c.kind c.names
  (thn (hi pins s σ H (fun J H1=>∃ G1,StOk X.K ML G0 H0 G1 H1 σ δ1/\Gr G H σ δ G1 H1 δ1/\IterOk X.K J ds G1) I (si ML G0 H0 G H σ δ (.ok ds) δ1 _ S e1 fun J G1 H1 S1 g1 io=>⟨G1,S1,g1,io⟩)) fun v s1 h1=>thn h1 fun itv s2 h2 => ?_)
 obtain⟨it,fp,tn,J,H1,rfl,I2,T,st2,f2,G1,S1,g1,io⟩:=h2
 refine comp_block (RR:=fun acc C=>compPost (model X.prog X.w) X.A X.xe none (EP X pins σ Q) acc C) c hc ht he I2 T st2 f2 S1 io e2 ?_
 intro l C s' G' H' vs hl _ _ hm S' g' hv hgl ra back
 obtain⟨m,hn⟩:=hm
 refine⟨m,hn,fun h' hsb=>⟨.ref l,H',back h' hsb,rfl,k _ G' H' S' (g1.trans g') ⟨⟨l,rfl,hgl,vs,hv,ra⟩,fun _=>⟨⟨_,rfl⟩,l,rfl,g1.free hl⟩⟩⟩⟩
theorem ds_setcomp {i : Nat} {y : Str} {py spos : Pos} (hN : X.N.Nodup) (hi : X.N[i]? = some y) (hy : Loc X.env.scope y) (c : CompOk X M scope x) (hc : X.calm = true) (src : DI X (.Name x px) iter fs) (ht : TestsOk X M scope x ifs fc) (he : ∀ s H fp pn, DE (compCx X M scope x s H fp pn) elt fe)
    (hsw : swapsWith (.ListComp elt [⟨.Name x px, iter, ifs, 0⟩] scope pos) (some (.Name y py)) spos.line X.env = pure true := by rfl) (hs : ∀ y, foldedSetIterable iter X.env y = pure y := by intro _; rfl)
    (hf : X.fn y = true ∨ X.env.scope.names.lookup y = some .local := by first | exact .inl rfl | exact .inr rfl | assumption) :
    DS X (.Assign [.Name y py] (.ListComp elt [⟨.Name x px, iter, ifs, 0⟩] scope pos) spos) (fAsg i (fComp fs fc fe)) := by
  refine ⟨fun E σ H => ∀ pins s, Inv X pins σ H s → wpAny (model X.prog X.w) X.A (exec (.Assign [.Name y py] (.ListComp elt [⟨.Name x px, iter, ifs, 0⟩] scope pos) spos) X.env) (SP X pins E) X.xe s, fun pins s σ H E I h => h pins s I, ?_⟩
  intro ML G0 H0 G H σ δ o E S e k pins s I
  obtain ⟨wi, hw, si⟩ := src
  rw [exec_Assign_Name_used _ _ _ _ hsw]
  obtain ⟨sl, δ', ez, e⟩ := zb8 e
  cases e
  obtain ⟨ds, δ1, e1, ey⟩ := Rs.inv ez
  obtain ⟨res, δ2, e2, ex⟩ : ∃ (res : List D) (δ2 : DEnv), compD fc fe ds [] δ1 = some (res, δ2) ∧ some (Except.ok (ε := XD) (Sl.own (.lst res)), δ2) = some (Except.ok sl, δ') := by
    split at ey
    · rename_i r9 δ9 e9; exact ⟨r9, δ9, e9, ey⟩
    · cases ey
  cases ex
  refine wpAny_bind (wpAny_standAt (wpAny_bind ?_))
  show wpAny _ X.A (do let _ ← comprehension (.ListComp elt [⟨.Name x px, iter, ifs, 0⟩] scope pos) scope X.env _ (newList []) false (eval iter X.env) (some (assign (.Name y py) X.env))) _ _ s
  refine wpAny_bind (wpAny_mono (wpAny_comprehension_free (use := some (assign (.Name y py) X.env)) (Q := fun _ s' => SP X pins E .next s') rfl hs (closure_eq (c.cells I.ok)) c.kind c.names
    (thn (hw pins s σ H (fun J H1 => ∃ G1, StOk X.K ML G0 H0 G1 H1 σ δ1 ∧ Gr G H σ δ G1 H1 δ1 ∧ IterOk X.K J ds G1) I (si ML G0 H0 G H σ δ (.ok ds) δ1 _ S e1 fun J G1 H1 S1 g1 io => ⟨G1, S1, g1, io⟩)) fun v s1 h1 => thn h1 fun itv s2 h2 => ?_)) (fun _ s' hq => wpAny_pure (wpAny_pure hq)) fun _ _ e => e)
  obtain ⟨it, fp, tn, J, H1, rfl, I2, T, st2, f2, G1, S1, g1, io⟩ := h2
  refine comp_block (RR := fun acc C => compPost (model X.prog X.w) X.A X.xe (some (assign (.Name y py) X.env)) (fun _ s' => SP X pins E .next s') acc C) c hc ht he I2 T st2 f2 S1 io e2 ?_
  intro l C s' G' H' vs hl hC hHC hm S' g' hv hgl ra back
  obtain ⟨m, hn⟩ := hm
  have I' : Inv X pins σ H' s' := by
    have := back s'.heap ⟨rfl, fun _ _ => rfl⟩
    exact this
  show wpAny _ X.A (assign (.Name y py) X.env (.ref l)) _ _ _
  have neL : C ≠ X.env.locals := Nat.ne_of_gt (Nat.lt_of_lt_of_le I2.lt hC)
  have neC : ∀ z a, X.env.cells.lookup z = some a → a ≠ C := fun z a e w => by
    obtain ⟨v, q⟩ := I2.cell z a e
    exact absurd (Nat.lt_of_lt_of_le q.lt (by rw [w]; exact hC)) (Nat.lt_irrefl _)
  refine wpAny_assign_Name (store_ok2 I' hN hi hy (v := .ref l) rfl (fun s'' I'' hsame => ?_) hf)
  obtain ⟨a, hsa, ha⟩ := hsame
  have neA : C ≠ a := by
    rcases ha with rfl | ha
    · exact neL
    · exact fun z => neC _ _ ha z.symm
  refine ⟨m, hn.sameBut hsa neA, fun h' hsb => ?_⟩
  have I3 : Inv X pins (σ.set i (some (.ref l))) H' { s'' with heap := h', toks := s''.toks } := I''.turned (t' := s''.toks) (it := C) (fun b o hb e => (hsb.2 b hb).trans e) hHC neL (.inr (Nat.le_trans I2.sz hC)) neC fun p hp => by
    have := (I2.pin p hp).1
    exact Nat.ne_of_lt (Nat.lt_of_lt_of_le (Heap.lt_size this) hC)
  have gA := g1.trans g'
  have hl' : H l = none := g1.free hl
  exact ⟨_, H', I3, k _ G' H' (S'.set i (s := .own (.lst res)) ⟨l, rfl, hgl, vs, hv, ra⟩ fun _ => ⟨⟨_, rfl⟩, l, rfl, Same.free S.h0 hl', fun z => S.noOw hl' (gA.shr _ z)⟩)⟩
theorem zf0:TestsOk X M scope x [] none:=.inl ⟨rfl,rfl⟩
theorem tests_one {cn:Expr} {f:FT} (h:∀ s H fp pn,DT (compCx X M scope x s H fp pn) cn f):TestsOk X M scope x [cn] (some f):=.inr ⟨cn,f,rfl,rfl,h⟩
end
end L4
namespace L4
open PySem PySem.Spec PyProof.Rows L2
noncomputable def Its (z:Str):It:=⟨fun i _=>i<z.cps.size,fun i H x H'=>H'=H/\∃ c,z.cps[i]? = some c/\x=.str ⟨#[c]⟩,fun i _=>z.cps.size<=i⟩
theorem str_walks {prog:Program} {w:World} {A:Around} {ty:String} (hty:ty = "str_ascii_iterator" ∨ ty = "str_iterator") (hh:A.handled=none) (I:Addr) (x:Str) (t:Tok):
  Walks prog w A I [I] [I] x.cps.size (SignAt x) (fun i h=>h.IsStrIter I ty x t i):=by
 rcases hty with rfl | rfl
 ·exact Walks.strAscii hh I x t
 ·exact Walks.strWide hh I x t
theorem turn_str {P:Program} {w:World} {K:PySem.W.Frag} {tg:Expr} {ty:String} (hty:ty = "str_ascii_iterator" ∨ ty = "str_iterator") (z:Str) (t:Tok) (it:Addr):Turn P w K tg (Its z) [it] it (fun i h=>h.IsStrIter it ty z t i) where
 mem:=by simp
 obj:=fun i h st b hb=>by
  have e:b=it:=by simpa using hb
  subst e
  obtain⟨o,e,c,d⟩:=st
  exact⟨o,e,fun v z=>by rw[d] at z;cases z⟩
 keep:=fun i h h' st k=>let ⟨o,ho,r⟩:=st;⟨o,k it (by simp) o ho,r⟩
 item:=by
  intro X hP hw hK hc i pins s σ H E I hf st hg
  subst hP hw hK
  obtain⟨f0,f1,f2,f3,f4,f5⟩:=hf it (by simp)
  refine (str_walks hty (I.ok.hd hc) it z t).item i s _ E hg st fun v h' tk hP st' hk => ?_
  obtain⟨c,u,hc',rfl⟩:=hP
  have I1:Inv X pins σ H { s with heap:=h',toks:=tk }:=I.turned (t':=tk) (fun b o hb e=>hk b o (by simpa using hb) e) f0 f1 f3 f4 f5
  obtain⟨o,e,c2,d⟩:=id st'
  refine⟨_,rfl,go_of (s:={ s with heap:=h',toks:=tk }) e c2 d (by rcases hty with rfl | rfl<;>decide) ⟨.str ⟨#[c]⟩,H,I1,⟨u,rfl⟩,⟨rfl,c,hc',rfl⟩,st',fun b hb=>(hf b hb).1⟩⟩
 done:=by
  intro X hP hw hK hc i pins s σ H E I hf st hg
  subst hP hw hK
  obtain⟨f0,f1,f2,f3,f4,f5⟩:=hf it (by simp)
  have hg':z.cps.size<=i:=hg
  rcases hty with rfl | rfl
  ·exact wpAny_pyNext_ascii_end (I.ok.hd hc) st (by simp;exact hg') fun h' he'=>⟨rfl,I.turned (t':=s.toks) (fun b o hb e=>he' b o hb e) f0 f1 f3 f4 f5⟩
  ·exact wpAny_pyNext_wide_end (I.ok.hd hc) st (by simp;exact hg') fun h' he'=>⟨rfl,I.turned (t':=s.toks) (fun b o hb e=>he' b o hb e) f0 f1 f3 f4 f5⟩
 self:=fun A i s Q E st h=>by
  rcases hty with rfl | rfl
  ·exact wpAny_pyIter_striter_ascii st h
  ·exact wpAny_pyIter_striter_wide st h
noncomputable def iAny (K:PySem.W.Frag) (tl:TE):TI:=fun σ H R=>tl σ H fun x H1=>(∃ a,x=.ref a/\(∃ xs,SqL K H1 a xs)/\R (Itl K a) H1)\/(∃ a,x=.ref a/\(∃ xs,SqT K H1 a xs)/\R (Itt K a) H1)\/∃ z,x=.str z/\R (Its z) H1
section
variable {X:Cx} {tg:Expr}
theorem pi_any {l:Expr} {tl:TE} (hl:PE X l tl):PI X tg l (iAny X.K tl):=by
 intro pins s σ H R I h
 refine thn (hl pins s σ H _ I h) fun v s1 ⟨x,H1,I1,r1,q1⟩ => ?_
 have fin:∀ b ∈[s1.heap.objs.size],FpOk X pins H1 b:=fun b hb=>by
  have e:b=s1.heap.objs.size:=by simpa using hb
  subst e
  exact I1.fpOk (Nat.le_refl _) (I1.hok.fresh (Nat.le_refl _))
 rcases q1 with ⟨a,e,⟨xs,hq⟩,q⟩ | ⟨a,e,⟨xs,hq⟩,q⟩ | ⟨z,e,q⟩
 ·subst e
  cases r1
  obtain⟨its,rv,p,hz⟩:=I1.list hq
  refine wpAny_pyIter_list p.isList ?_
  exact⟨s1.heap.objs.size,[s1.heap.objs.size],_,_,H1,rfl,I1.kept (t':=s1.toks) fun b o e=>Heap.get?_push_of_some _ e,turn_list a _,⟨_,Heap.get?_push_size _ rfl,rfl,rfl⟩,fin,q⟩
 ·subst e
  cases r1
  obtain⟨its,rv,p,hz⟩:=I1.tuple hq
  refine wpAny_pyIter_tuple (show s1.heap.IsTuple a its.toArray from p) ?_
  exact⟨s1.heap.objs.size,[s1.heap.objs.size],_,_,H1,rfl,I1.kept (t':=s1.toks) fun b o e=>Heap.get?_push_of_some _ e,turn_tuple a _,⟨_,Heap.get?_push_size _ rfl,rfl,rfl⟩,fin,q⟩
 ·subst e
  obtain⟨t,rfl⟩:=r1
  cases ha:z.cps.all (· < 128)
  ·exact wpAny_pyIter_wide ha ⟨s1.heap.objs.size,[s1.heap.objs.size],_,_,H1,rfl,I1.kept (t':=s1.toks) fun b o e=>Heap.get?_push_of_some _ e,turn_str (.inr rfl) z t _,⟨_,Heap.get?_push_size _ rfl,rfl,rfl⟩,fin,q⟩
  ·exact wpAny_pyIter_ascii ha ⟨s1.heap.objs.size,[s1.heap.objs.size],_,_,H1,rfl,I1.kept (t':=s1.toks) fun b o e=>Heap.get?_push_of_some _ e,turn_str (.inl rfl) z t _,⟨_,Heap.get?_push_size _ rfl,rfl,rfl⟩,fin,q⟩
end
noncomputable def signsD (z:Str):List D:=z.cps.toList.map fun c=>D.str ⟨#[c]⟩
noncomputable def itemsD:D->Option (List D)
 | .lst ds=>some ds
 | .tup ds=>some ds
 | .str z=>some (signsD z)
 | _=>none
noncomputable def fItA (f:FE):FL:=fun δ=>(f δ).bind fun p δ=>lift (itemsD p.fz) δ
theorem snd_iAny {X:Cx} {te:TE} {fe:FE} (he:SndE X te fe):SndI X (iAny X.K te) (fItA fe):=by
 intro M G0 H0 G H σ δ q δ' R S e k
 obtain⟨s,δ1,e1,e⟩:=Rs.inv e
 obtain⟨ds,e2,rfl,rfl⟩:=zcz e
 refine he.toV M G0 H0 G H σ δ s _ _ S e1 fun x G1 H1 S1 g1 r1 => ?_
 cases hd:s.fz with
 | lst es=>
  rw[hd] at e2 r1;cases e2
  obtain⟨a,vs,rfl,hq,r⟩:=zd9 r1
  refine .inl ⟨a,rfl,⟨vs,(zc3 S1.gh hq).sq⟩,k _ G1 H1 S1 g1 ⟨fun H' i hh hi => ?_,fun H' i x H'' hh hi y => ?_,fun H' hh=>⟨vs,(zc3 hh hq).sq,by rw[r.len];exact Nat.le_refl _⟩⟩⟩
  ·have hv:i<vs.length:=by rw[r.len];exact hi
   exact⟨vs,vs[i],(zc3 hh hq).sq,List.getElem?_eq_getElem hv⟩
  ·obtain⟨e,y⟩:=y
   obtain⟨d,e1,e2⟩:=r.atV (y vs (zc3 hh hq).sq)
   exact⟨e,d,e1,e2⟩
 | tup es=>
  rw[hd] at e2 r1;cases e2
  obtain⟨a,vs,rfl,hq,r⟩:=rep_tup r1
  refine .inr (.inl ⟨a,rfl,⟨vs,zc8 S1.gh hq⟩,k _ G1 H1 S1 g1 ⟨fun H' i hh hi => ?_,fun H' i x H'' hh hi y => ?_,fun H' hh=>⟨vs,zc8 hh hq,by rw[r.len];exact Nat.le_refl _⟩⟩⟩)
  ·have hv:i<vs.length:=by rw[r.len];exact hi
   exact⟨vs,vs[i],zc8 hh hq,List.getElem?_eq_getElem hv⟩
  ·obtain⟨e,y⟩:=y
   obtain⟨d,e1,e2⟩:=r.atV (y vs (zc8 hh hq))
   exact⟨e,d,e1,e2⟩
 | str z=>
  rw[hd] at e2 r1;cases e2
  cases zf3 r1
  have hl:(signsD z).length=z.cps.size:=by simp [signsD]
  refine .inr (.inr ⟨z,rfl,k _ G1 H1 S1 g1 ⟨fun H' i hh hi=>by rw[hl] at hi;exact hi,fun H' i x H'' hh hi y => ?_,fun H' hh=>by rw[hl];exact Nat.le_refl _⟩⟩)
  obtain⟨e,c,hc,rfl⟩:=y
  refine⟨e,D.str ⟨#[c]⟩,?_,.str _⟩
  unfold signsD
  rw[List.getElem?_map]
  have:z.cps.toList[i]? = some c:=by simpa using hc
  rw[this];rfl
 | non=>rw[hd] at e2;cases e2
 | bl _=>rw[hd] at e2;cases e2
 | int _=>rw[hd] at e2;cases e2
 | ty _=>rw[hd] at e2;cases e2
 | dct _ _=>rw[hd] at e2;cases e2
 | dcf _ _=>rw[hd] at e2;cases e2
 | tg _ _=>rw[hd] at e2;cases e2
theorem di_any {X:Cx} {tg iter:Expr} {fe:FE} (h:DE X iter fe):DI X tg iter (fItA fe):=let ⟨_,a1,a2⟩:=h;⟨_,pi_any a1,snd_iAny a2⟩
theorem part_of {v:Value} {o:Option Int} (h:IsPart v o):∃ l:Option (Int×Tok),v=partValue l/\l.map (·.1)=o:=by
 cases h with
 | none=>exact⟨none,rfl,rfl⟩
 | int i t=>exact⟨some (i,t),rfl,rfl⟩
noncomputable def cutS (z:Str) (lo hi:Option Int):Str:=if (Builtin.Str.strSliceIndices lo hi 1 z.length).length=z.length then z else ⟨((Builtin.Str.strSliceIndices lo hi 1 z.length).filterMap (z.cps[·]?)).toArray⟩
theorem sl_str {X:Cx} : SlR X (fun x lo hi H Q=>∃ z,x=.str z/\(cutS z lo hi).length<=sizeLine/\Q (.str (cutS z lo hi)) H):=by
 intro pins s σ H x v vl vu lo hi sl Q I rx hs pl pu h
 obtain⟨z,rfl,hz,q⟩:=h
 obtain⟨t,rfl⟩:=rx
 obtain⟨l,rfl,rfl⟩:=part_of pl
 obtain⟨u,rfl,rfl⟩:=part_of pu
 refine⟨"str",_,F.slot_str_getitem.lookup,typeIs_str _ z t,wpAny_getItem_str_slice (l:=l) (u:=u) (st:=none) ?_ rfl ?_⟩
 ·obtain⟨o,h1,h2,h3⟩:=hs
  exact⟨o,h1,h2,h3⟩
 ·unfold sliceMade slicePicked
  have e1:((Option.map (fun x=>x.1) (none:Option (Int×Tok))).getD 1)=1:=rfl
  rw[e1]
  by_cases hw:(Builtin.Str.strSliceIndices (l.map (·.1)) (u.map (·.1)) 1 z.length).length=z.length
  ·rw[if_pos (by simp [hw])]
   refine⟨.str z,H,I,⟨t,rfl⟩,?_⟩
   unfold cutS at q
   rw[if_pos hw] at q
   exact q
  ·rw[if_neg (by simp [hw])]
   unfold cutS at q hz
   rw[if_neg hw] at q hz
   exact⟨hz,.str _,H,I.tok _,⟨_,rfl⟩,q⟩
noncomputable def slSD (d:D) (lo hi:Option Int):Option Sl:=match d with
 | .lst ds=>some (.own (.lst (cutD ds lo hi)))
 | .str z=>if (cutS z lo hi).length<=sizeLine then some (.val (.str (cutS z lo hi))) else none
 | .tup ds=>if ¬ (HT.sIx ds.length 0 lo=0/\HT.sIx ds.length ds.length hi=ds.length) then some (.val (.tup (cutD ds lo hi))) else none
 | _=>none
theorem s_any {K:PySem.W.Frag} : SndSl K (fun x lo hi H Q=>rSlL K x lo hi H Q\/rSlT K x lo hi H Q\/∃ z,x=.str z/\(cutS z lo hi).length<=sizeLine/\Q (.str (cutS z lo hi)) H) slSD:=by
 intro M G0 H0 G H σ δ x d lo hi s Q S r e k
 unfold slSD at e
 split at e
 ·cases e
  obtain⟨l,xs,rfl,q1,l1⟩:=zd9 r
  refine .inl ⟨l,xs,rfl,(zc3 S.gh q1).sq,fun p hp => ?_⟩
  obtain⟨S2,g2,r⟩:=S.newLst hp (l1.cut lo hi)
  exact k _ _ _ S2 g2 r
 ·split at e
  ·rename_i hz
   cases e
   cases zf3 r
   exact .inr (.inr ⟨_,rfl,hz,k _ G H S (Gr.refl ..) (.val (.str _))⟩)
  ·cases e
 ·split at e
  ·rename_i hw
   cases e
   obtain⟨l,xs,rfl,q1,l1⟩:=rep_tup r
   refine .inr (.inl ⟨l,xs,rfl,zc8 S.gh q1,by rw[l1.len];exact hw,fun p hp => ?_⟩)
   obtain⟨S2,g2,r⟩:=S.newTup hp (l1.cut lo hi)
   exact k _ _ _ S2 g2 r
  ·cases e
 ·cases e
section
variable {X:Cx} {e:Expr} {es:List Expr} {f1:FE} {fl:FL} {pos p:Pos}
theorem de_slS {lo hi:Option Expr} {fl fh:FO} {p2:Pos} (ha:DE X e f1) (hl:DP X lo fl) (hh:DP X hi fh):DE X (.Subscript e (.Slice lo hi none p2) pos) (fSl slSD f1 fl fh):=
 let ⟨_,a1,a2⟩:=ha;let ⟨_,b1,b2⟩:=hl;let ⟨_,y1,y2⟩:=hh;⟨_,pe_slice (sl_list.or (sl_tup.or sl_str)) a1 b1 y1,snd_sl s_any a2 b2 y2⟩
end
end L4
namespace L4
open PySem PySem.Spec PyProof.Rows L2
noncomputable def fMethS (g:Str->List D->Option Sl) (f:FE) (fl:FL):FE:=fun δ=>(f δ).bind fun p δ=>match p.fz with
 | .str z=>(fl δ).bind fun q δ=>lift (g z q) δ
 | _=>none
noncomputable def intSD (d:D):Option Sl:=match d with
 | .str z=>if z.length<=640 then (intText? z).map fun n=>.val (.int n) else none
 | d=>intD d
section
variable {X:Cx} {e o:Expr} {es:List Expr} {f1 fo:FE} {fl:FL} {pos p:Pos}
theorem snd_forI {X:Cx} {wi:TI} {fs:FL} {i:Nat} {tb:TS} {F:FS} (hi:SndI X wi fs) (hb:SndS X tb F):SndS X (tFor wi (gName i) tb) (fFor fs i F):=by
 intro M G0 H0 G H σ δ o E S e k
 obtain⟨ds,δ1,e1,e⟩:=zb8 e
 refine hi M G0 H0 G H σ δ (.ok ds) δ1 _ S e1 fun J G1 H1 S1 g1 io => ?_
 have k1:=PostS.rebase S1 k
 refine⟨fun n m σ' H'=>m=ds.length - n/\n<=ds.length/\∃ G' δ',StOk X.K M G1 H0 G' H' σ' δ'/\forD i F (ds.drop n) δ'=some o,⟨ds.length,by simp,Nat.zero_le _,G1,δ1,S1.rebase,by simpa using e⟩,?_⟩
 rintro n m σ' H' ⟨rfl,hn,G',δ',S',ef⟩
 by_cases hlt:n<ds.length
 ·refine .inr ⟨io.go H' n (S'.g0.trans S'.gh) hlt,fun σ2 H2=>∃ G2 δ2,StOk X.K M G1 H0 G2 H2 σ2 δ2/\forD i F (ds.drop (n+1)) δ2=some o,fun σ2 H2 h=>⟨ds.length - (n+1),by omega,rfl,hlt,h⟩,fun x H2 y => ?_⟩
  obtain⟨rfl,d,hd,rd⟩:=io.yld H' n x H2 (S'.g0.trans S'.gh) hlt y
  have hde:ds[n]=d:=by rw[List.getElem?_eq_getElem hlt] at hd;exact Option.some.inj hd
  rw[List.drop_eq_getElem_cons hlt,hde] at ef
  exact forD_turn hb S' (Rep.mono S'.g0 rd) ef k1 fun σ2 G2 H2 δ2 S2 e2=>⟨G2,δ2,S2,e2⟩
 ·have he:n=ds.length:=by omega
  subst he
  rw[List.drop_length] at ef
  cases ef
  exact .inl ⟨io.stop H' (S'.g0.trans S'.gh),k1 σ' G' H' S'⟩
theorem ds_for {i:Nat} {x:Str} {iter:Expr} {body:List Stmt} {tp:Pos} {fs:FL} {F1:FS} (hN:X.N.Nodup) (hi:X.N[i]? = some x) (hx:Loc X.env.scope x) (hc:X.calm=true) (h:DI X (.Name x tp) iter fs) (hb:DB X body F1) (hp:PassesOwn (model X.prog X.w) X.A X.env X.xe:=by first | exact PassesOwn.never | exact PassesOwn.leaving | exact PassesOwn.looking) (hf:X.fn x=true\/X.env.scope.names.lookup x=some .local:=by first | exact .inl rfl | exact .inr rfl | assumption)
  (hs:∀ x,foldedSetIterable iter X.env x=pure x:=by intro _;rfl):DS X (.For (.Name x tp) iter body [] pos) (fFor fs i F1):=
 let ⟨_,a1,a2⟩:=h;let ⟨_,b1,b2⟩:=hb;⟨_,ps_for hp hc a1 (pg_name hN hi hx hf) b1 hs,snd_forI a2 b2⟩
end
end L4
namespace L4
open PySem PySem.Spec PyProof.Rows L2
noncomputable def compChk (scope sc:Scope) (M N:List Str) (x:Str):Bool:=
 (scope.kind == .function) && scope.names.all (fun p=>p.2 != .cell) && (scope.names.lookup x == some .local) && scope.names.all (fun p=>p.2 != .local || (scope.names.lookup p.1 == some .local && !M.contains p.1)) &&
  scope.names.all (fun p=>p.2 != .free || (sc.names.lookup p.1 == some .cell || sc.names.lookup p.1 == some .free)) && scope.names.all (fun p=>p.1 != "") && (M.length == N.length) && (M.zip N).all (fun p=>p.1 == "" || p.1 == p.2) && decide ((x::M).Nodup)
theorem comp_ok {X:Cx} {M:List Str} {scope:Scope} {x:Str} {sc:Scope} {N:List Str} (hsc:X.env.scope=sc) (hN:X.N=N) (chk:compChk scope sc M N x=true):CompOk X M scope x:=by
 subst hsc hN
 unfold compChk at chk
 simp only[Bool.and_eq_true] at chk
 obtain⟨⟨⟨⟨⟨⟨⟨⟨h1,h2⟩,h3⟩,h4⟩,h5⟩,h6⟩,h7⟩,h8⟩,h9⟩:=chk
 have a4:∀ p ∈scope.names,p.2=.local->scope.names.lookup p.1=some .local/\p.1 ∉ M:=fun p hp hl=>by
  have:=List.all_eq_true.mp h4 p hp
  rw[Bool.or_eq_true] at this
  rcases this with z | z
  ·rw[hl] at z;simp at z
  ·rw[Bool.and_eq_true] at z
   exact⟨eq_of_beq z.1,fun hm=>by simp [hm] at z⟩
 refine⟨eq_of_beq h1,fun p hp e => ?_,eq_of_beq h3,fun p hp hl=>(a4 p hp hl).1,fun p hp hl=>(a4 p hp hl).2,fun p hp hf => ?_,fun p hp e => ?_,eq_of_beq h7,fun p hp => ?_,of_decide_eq_true h9⟩
 ·have:=List.all_eq_true.mp h2 p hp
  rw[e] at this;simp at this
 ·have:=List.all_eq_true.mp h5 p hp
  rw[Bool.or_eq_true] at this
  rcases this with z | z
  ·rw[hf] at z;simp at z
  ·rw[Bool.or_eq_true] at z
   exact z.imp eq_of_beq eq_of_beq
 ·have:=List.all_eq_true.mp h6 p hp
  rw[e] at this;simp at this
 ·have:=List.all_eq_true.mp h8 p hp
  rw[Bool.or_eq_true] at this
  exact this.imp eq_of_beq eq_of_beq
theorem GlD.texts {K:PySem.W.Frag} {mg:Str->Option Value} {x:Str} {a:Addr} {ys:List Str} {od:Option Addr} {its:Array Value} {n:Nat} {sl:Array (Option Value)} (h:mg x=some (.ref a)) (hk:K.lookup a=some ⟨.type "tuple",od,.seq its n,sl⟩)
  (hs:its.size<=sizeLine) (hv:Vals (ys.map V.str) its.toList):GlD K mg x (.tup (ys.map D.str)):=
 ⟨.ref a,_,h,rfl,fun G=>.tup (.inr ⟨_,its,n,hk,rfl,rfl,hs,hv⟩) (fun z=>by cases ys<;>simp [allI,isI] at z) (RepL.map (fun y=>.str y) ys)⟩
end L4
namespace L4
open PySem PySem.Spec PyProof.Rows L2
noncomputable def intsOf:List D->Option (List Int)
 | []=>some []
 | .int i::r=>(intsOf r).map (i :: ·)
 | _=>none
theorem rep_ints {K:PySem.W.Frag} {G:Hp} : ∀ {vs:List V} {ds:List D} {ns:List Int},RepL K G vs ds->intsOf ds=some ns->vs=ns.map V.int
 | _,_,_,.nil,e=>by cases e;rfl
 | _,_,_,.cons h r,e=>by
  rename_i v vs d ds
  cases d with
  | int b=>
   obtain⟨bs,e1,e2⟩:=Option.map_eq_some_iff.mp (show (intsOf ds).map (b :: ·)=some _ from e)
   subst e2
   rw[zc2 h,rep_ints r e1]
   rfl
  | _=>cases e
section
variable {X:Cx} {e:Expr} {es:List Expr} {fl:FL} {pos p:Pos}
end
section
variable {X:Cx} {e o:Expr} {es:List Expr} {fe:FE} {fl:FL} {pos p:Pos}
end
end L4
namespace L4
open PySem L2
end L4
namespace L4
open PySem L2 PySem.Spec PyProof.Rows
section
variable {X:Cx} {a b e:Expr} {es:List Expr} {f1 f2 fe fk:FE} {fl:FL} {p pos:Pos}
noncomputable def absD (d:D):Option Sl:=match d with | .int i=>some (.val (.int (if i<0 then -i else i))) | _=>none
noncomputable def tupleD (d:D):Option Sl:=match d with | .lst ds=>some (.val (.tup ds)) | .tup ds=>some (.val (.tup ds)) | _=>none
noncomputable def augD (i:Nat) (g:Int->Int->Int) (δ:DEnv):Option Sl->D->DEnv->Option Out
 | some (.val (.int n)),.int m,δ'=>some (.next (δ'.set i (some (.val (.int (g n m))))))
 | _,_,_=>none
noncomputable def setD (j:Nat) (p:D) (k:D) (δ:DEnv):Option Out:=match δ[j]? with
 | some (some s)=>if s.isO=true then (match s.fz,k with
  | .lst ds,.int k=>(match ixN ds.length k with | some n=>some (.next (δ.set j (some (s.now (.lst (ds.set n p)))))) | none=>none)
  | _,_=>none) else none
 | _=>none
noncomputable def fSetI (j:Nat) (fk fe:FE):FS:=fun δ=>thenS (fe δ) fun p δ=>match δ[j]? with
 | some (some _)=>thenS (fk δ) fun q δ=>setD j p.fz q.fz δ
 | _=>none
noncomputable def fSlO (i:Nat) (l h:FO):FE:=fun δ=>match δ[i]? with
 | some (some _)=>(l δ).bind fun q δ=>(h δ).bind fun r δ=>(match δ[i]? with
  | some (some s)=>if s.isO=true then (match s.fz with | .lst ds=>some (.ok (.own (.lst (cutD ds q r))),δ) | _=>none) else none
  | _=>none)
 | _=>none
end
end L4
namespace L4
open PySem L2 PySem.Spec PyProof.Rows
section
variable {X:Cx} {a b:Expr} {fl:FL} {p p2 pos pos2:Pos}
theorem vals_of {xs:List V} : ∀ {us:List Value},xs.length=us.length->(∀ (k:Nat) (x:V) (u:Value),xs[k]? = some x->us[k]? = some u->RelV x u)->Vals xs us:=by
 induction xs with
 | nil=>intro us hl _;cases us with | nil=>exact .nil | cons _ _=>simp at hl
 | cons x xs ih=>
  intro us hl h
  cases us with
  | nil=>simp at hl
  | cons u us=>exact .cons (h 0 x u rfl rfl) (ih (by simpa using hl) fun k y w h1 h2=>h (k+1) y w (by simpa using h1) (by simpa using h2))
end
end L4
namespace L4
open PySem L2 PySem.Spec PyProof.Rows
section
variable {prog:Program} {w:World} {A:Around} {R:Result->Shared->Prop} {it best:Addr} {foot out:List Addr} {len:Nat} {Is:Nat->Value->Prop} {At:Nat->Heap->Prop} {kws:List (Str×Value)}
end
section
variable {prog:Program} {w:World} {A:Around} {E:Value->Shared->Prop} {s:Shared} {l:Addr} {xs:Array (Int×Tok)}
end
section
variable {X:Cx} {e dv:Expr} {f1 f2:FE} {p pos kp:Pos}
end
end L4
namespace L2
open PySem PySem.Spec PyProof.Rows
end L2
namespace L2
open PySem PySem.Spec PyProof.Rows
section
variable (P:Program) (w:World)
end
section
variable {P:Program} {w:World} {H H':Hp} {h h':Heap} {a:Addr} {o:HO}
end
section
variable {P:Program} {w:World} {H:Hp} {h h':Heap} {x e:Addr} {o':HO}
end
section
variable {fs fs' ex ex':List Addr} {H H1 H2:Hp} {h h1 h2 h':Heap} {a x e:Addr} {o:HO}
end
end L2
namespace L2
open PySem PySem.Spec PyProof.Rows
section
variable {X:Cx} {pins:List (Addr×Obj)} {σ:List (Option V)} {H H':Hp} {s:Shared} {h':Heap}
end
end L2
namespace L2
open PySem PySem.Spec PyProof.Rows
section
variable {X:Cx}
variable {a b:Expr} {ta tb:TE} {pos:Pos}
variable {tA tB':TT} {rest:List Expr}
end
end L2
namespace L2
open PySem PySem.Spec PyProof.Rows
section
variable {X:Cx} {pins:List (Addr×Obj)} {σ:St} {H:Hp} {s:Shared} {a:Addr} {xs ys:List V}
end
section
variable {X:Cx} {pins:List (Addr×Obj)} {σ:St} {H:Hp} {s:Shared} {E:Value->Shared->Prop}
end
section
variable {X:Cx} {st:Stmt} {rest:List Stmt} {t u:TS} {e:Expr} {te:TE} {pos:Pos}
end
section
variable {X:Cx} {pos:Pos}
end
section
variable {X:Cx} {pos:Pos}
end
end L2
namespace L2
open PySem PySem.Spec PyProof.Rows
section
variable {X:Cx} {tg:Expr}
end
end L2
namespace L2
open PySem PySem.Spec PyProof.Rows
section
variable {X:Cx} {a b c:Expr} {ta tb tc:TE} {pos:Pos}
end
section
variable {X:Cx} {a b c:Expr} {ta tb tc:TE} {pos:Pos}
end
end L2
namespace L2
open PySem PySem.Spec PyProof.Rows
section
variable {prog:Program} {w:World} {A:Around} {E:Value->Shared->Prop} {s:Shared} {K:PySem.W.Frag} {x dx C f:Addr} {mA:Str->Option Value} {name:Str} {v:Value}
end
section
variable {P:Program} {w:World} {H H':Hp} {h h':Heap} {a C dx:Addr} {fs fs':List (Str×V)}
end
section
variable {X:Cx} {pins:List (Addr×Obj)} {σ:St} {H:Hp} {s:Shared} {a C dx:Addr} {fs:List (Str×V)} {f:Str} {v:V} {A:Around} {E:Value->Shared->Prop}
end
section
variable {X:Cx} {o e value:Expr} {f:Str} {pos pos' tpos:Pos} {ta tv:TE}
end
section
variable {X:Cx} {pins:List (Addr×Obj)} {σ:St} {H:Hp} {s:Shared} {A:Around} {E:Value->Shared->Prop} {Q:Value->Shared->Prop} {c:Value} {b:Bool}
end
end L2
namespace L2
open PySem PySem.Spec PyProof.Rows
section
variable {X:Cx} {e:Expr} {es:List Expr} {te:TE} {t:TA} {pos:Pos}
end
section
variable {X:Cx} {pins:List (Addr×Obj)} {σ:St} {H:Hp} {s s':Shared}
end
section
variable {X:Cx} {CX:CXT} {k:Nat} {f C:Addr} {fd:FuncData} {ps:List Str} {sp:Sp} {dvs:List V} {ds:List Value} {E:XK} {x m:Str} {p pos apos:Pos} {e o:Expr} {es:List Expr} {ta:TE} {t:TA}
end
section
variable {X:Cx} {CX:CXT} {k:Nat} {f C:Addr} {fd:FuncData} {ps ks:List Str} {sp:Sp} {E:XK} {x m:Str} {p pos apos kpos:Pos} {e o:Expr} {es:List Expr} {kws:List Keyword} {te ta:TE} {t tk:TA} {nm:Option Str}
variable {g:List Value->List Value->List Value} {gV:List V->List V->List V}
end
end L2
namespace L2
open PySem PySem.Spec PyProof.Rows
section
variable {X:Cx} {x:Str} {p pos:Pos} {e:Expr} {es:List Expr} {t:TA} {id T:String} {r:List V->Hp->VK->Prop}
end
end L2
namespace L2
open PySem PySem.Spec PyProof.Rows
section
variable {κ:Type} [DecidableEq κ]
noncomputable def valV (kvs:List (κ×V)) (k:κ):Option V:=(kvs.find? fun kv=>decide (kv.1=k)).map (·.2)
noncomputable def putK (kvs:List (κ×V)) (k:κ) (v:V):List (κ×V):=
 if (kvs.any fun kv=>decide (kv.1=k))=true then kvs.map (fun kv=>if kv.1=k then (kv.1,v) else kv) else kvs++[(k,v)]
theorem valV_pos {p:κ×V} {r:List (κ×V)} {k:κ} (e:p.1=k):valV (p::r) k=some p.2:=by simp [valV,List.find?_cons,e]
theorem valV_neg {p:κ×V} {r:List (κ×V)} {k:κ} (e:¬ p.1=k):valV (p::r) k=valV r k:=by simp [valV,List.find?_cons,e]
theorem valV_any (k:κ):∀ kvs:List (κ×V),(kvs.any fun kv=>decide (kv.1=k))=(valV kvs k).isSome
 | []=>rfl
 | p::r=>by
  rw[List.any_cons]
  by_cases e:p.1=k
  ·simp only[valV_pos e,decide_eq_true e,Bool.true_or,Option.isSome_some]
  ·rw[valV_neg e,decide_eq_false e,Bool.false_or];exact valV_any k r
theorem length_putK (kvs:List (κ×V)) (k:κ) (v:V):(putK kvs k v).length<=kvs.length+1:=by
 unfold putK
 split
 ·rw[List.length_map];lia
 ·rw[List.length_append,List.length_cons,List.length_nil];lia
theorem RelO.isSome_eq {o:Option V} {u:Option Value} (r:RelO o u):o.isSome=u.isSome:=by
 cases o with
 | none=>cases u with
  | none=>rfl
  | some _=>exact (show False from r).elim
 | some _=>cases u with
  | none=>exact (show False from r).elim
  | some _=>rfl
theorem KV.val {kvs:List (κ×V)} {vs:List (κ×Value)} (r:KV kvs vs) (k:κ):RelO (valV kvs k) (valueAt vs k):=by
 unfold KV at r
 induction r with
 | nil=>exact True.intro
 | @cons p q ps qs h t ih=>
  obtain⟨h1,h2⟩:=h
  by_cases e:p.1=k
  ·have e':q.1=k:=h1.symm.trans e
   have b:valueAt (q::qs) k=some q.2:=by simp [valueAt,List.find?_cons,e']
   rw[valV_pos e,b];exact h2
  ·have e':¬ q.1=k:=fun z=>e (h1.trans z)
   have b:valueAt (q::qs) k=valueAt qs k:=by simp [valueAt,List.find?_cons,e']
   rw[valV_neg e,b];exact ih
theorem KV.any {kvs:List (κ×V)} {vs:List (κ×Value)} (r:KV kvs vs) (k:κ):(kvs.any fun kv=>decide (kv.1=k))=vs.any fun kv=>decide (kv.1=k):=by
 unfold KV at r
 induction r with
 | nil=>rfl
 | cons h t ih=>rw[List.any_cons,List.any_cons,ih,h.1]
theorem KV.repl {kvs:List (κ×V)} {vs:List (κ×Value)} (r:KV kvs vs) (k:κ) {y:V} {u:Value} (ry:RelV y u):
  KV (kvs.map fun kv=>if kv.1=k then (kv.1,y) else kv) (vs.map fun kv=>if kv.1=k then (kv.1,u) else kv):=by
 unfold KV at r ⊢
 induction r with
 | nil=>exact .nil
 | @cons p q ps qs h t ih=>
  rw[List.map_cons,List.map_cons]
  refine .cons ?_ ih
  obtain⟨h1,h2⟩:=h
  by_cases e:p.1=k
  ·rw[if_pos e,if_pos (h1.symm.trans e)];exact⟨h1,ry⟩
  ·rw[if_neg e,if_neg (fun z=>e (h1.trans z))];exact⟨h1,h2⟩
theorem KV.put {kvs:List (κ×V)} {vs:List (κ×Value)} (r:KV kvs vs) (k:κ) {y:V} {u:Value} (ry:RelV y u):KV (putK kvs k y) (stored vs k u):=by
 unfold putK stored
 rw[r.any k]
 by_cases e:(vs.any fun kv=>decide (kv.1=k))=true
 ·rw[if_pos e,if_pos e];exact r.repl k ry
 ·rw[if_neg e,if_neg e];exact Paired.snoc r ⟨rfl,ry⟩
theorem KV.length {kvs:List (κ×V)} {vs:List (κ×Value)} (r:KV kvs vs):kvs.length=vs.length:=Paired.length r
end
theorem kV_is {P:Program} {w:World} {k:Key} {u:Value} (r:RelV (kV k) u):(mixKind P w).is k u=true:=by
 cases k with
 | inl i=>obtain⟨t,e⟩:=(show ∃ t,u=Value.int i t from r);subst e;exact mixKind_int P w i t
 | inr x=>obtain⟨t,e⟩:=(show ∃ t,u=Value.str x t from r);subst e;exact mixKind_str P w x t
theorem items_are {P:Program} {w:World} : ∀ {ks:List Key} {us:List Value},Vals (ks.map kV) us->ItemsAre (mixKind P w) ks us
 | [],_,r=>by rw[List.map_nil] at r;cases r;exact .nil
 | k::ks,_,r=>by
  rw[List.map_cons] at r
  cases r with
  | cons h t=>exact .cons (kV_is h) (items_are t)
abbrev KT (H:Hp):List (List Key×V)->List (List Key×Addr×Value)->Prop:=Paired fun p q=>p.1=q.1/\H q.2.1=some (.tup (p.1.map kV))/\RelV p.2 q.2.2
theorem KT.val {H:Hp} {kvs:List (List Key×V)} {xs:List (List Key×Addr×Value)} (r:KT H kvs xs) (k:List Key):RelO (valV kvs k) ((atKey xs k).map (·.2)):=by
 induction r with
 | nil=>exact True.intro
 | @cons p q ps qs h t ih=>
  obtain⟨h1,_,h2⟩:=h
  by_cases e:p.1=k
  ·have e':q.1=k:=h1.symm.trans e
   have b:atKey (q::qs) k=some q.2:=by simp [atKey,List.find?_cons,e']
   rw[valV_pos e,b];exact h2
  ·have e':¬ q.1=k:=fun z=>e (h1.trans z)
   have b:atKey (q::qs) k=atKey qs k:=by simp [atKey,List.find?_cons,e']
   rw[valV_neg e,b];exact ih
theorem KT.repl {H:Hp} {kvs:List (List Key×V)} {xs:List (List Key×Addr×Value)} (r:KT H kvs xs) (k:List Key) {y:V} {u:Value} (ry:RelV y u):
  KT H (kvs.map fun kv=>if kv.1=k then (kv.1,y) else kv) (xs.map (putAt k u)):=by
 induction r with
 | nil=>exact .nil
 | @cons p q ps qs h t ih=>
  rw[List.map_cons,List.map_cons]
  refine .cons ?_ ih
  obtain⟨h1,h2,h3⟩:=h
  unfold putAt
  by_cases e:p.1=k
  ·rw[if_pos e,if_pos (h1.symm.trans e)];exact⟨h1,h2,ry⟩
  ·rw[if_neg e,if_neg (fun z=>e (h1.trans z))];exact⟨h1,h2,h3⟩
theorem KT.put {H:Hp} {kvs:List (List Key×V)} {xs:List (List Key×Addr×Value)} (r:KT H kvs xs) (k:List Key) {b:Addr} {y:V} {u:Value} (hb:H b=some (.tup (k.map kV))) (ry:RelV y u):
  KT H (putK kvs k y) (storedH xs k b u):=by
 have e:(kvs.any fun kv=>decide (kv.1=k))=(atKey xs k).isSome:=by
  rw[valV_any,(r.val k).isSome_eq,Option.isSome_map]
 unfold putK storedH
 rw[e]
 by_cases q:(atKey xs k).isSome=true
 ·rw[if_pos q,if_pos q];exact r.repl k ry
 ·rw[if_neg q,if_neg q];exact Paired.snoc r ⟨rfl,hb,ry⟩
theorem KT.keeps {H H':Hp} {kvs:List (List Key×V)} {xs:List (List Key×Addr×Value)} (r:KT H kvs xs) (ht:∀ b ys,H b=some (.tup ys)->H' b=some (.tup ys)):KT H' kvs xs:=
 Paired.mapP r fun _ _ z=>⟨z.1,ht _ _ z.2.1,z.2.2⟩
section
variable {P:Program} {w:World} {H:Hp} {h:Heap} {a:Addr}
theorem rd_of {u:HO} (ok:HOk P w H h) (e:Rd H a u):ObjOk P w H h a u:=e.ok ok
theorem dk_rd {kvs:List (Key×V)} (ok:HOk P w H h) (e:Rd H a (.dK kvs)):kvs.length<=sizeLine/\(a == sysModules)=false/\∃ vs,KV kvs vs/\h.DictOf (mixKind P w) a vs:=
 show ObjOk P w H h a (.dK kvs) from rd_of ok e
theorem dk_of {kvs:List (Key×V)} (ok:HOk P w H h) (e:H a=some (.dK kvs)):kvs.length<=sizeLine/\(a == sysModules)=false/\∃ vs,KV kvs vs/\h.DictOf (mixKind P w) a vs:=dk_rd ok (.inl e)
theorem key_of {ks:List Key} (ok:HOk P w H h) (e:H a=some (.tup (ks.map kV))):(tupleKind (mixKind P w)).is h ks a:=by
 obtain⟨_,its,r,o,h1,h2,n,h3⟩:=(show ObjOk P w H h a (.tup (ks.map kV)) from ok a _ e)
 exact⟨o,its.toArray,n,h1,h2,h3,by simpa using items_are r⟩
theorem dt_rd {kvs:List (List Key×V)} (ok:HOk P w H h) (e:Rd H a (.dT kvs)):kvs.length<=sizeLine/\(a == sysModules)=false ∧
  ∃ xs,KT H kvs xs/\h.DictOfH (tupleKind (mixKind P w)) a xs:=by
 obtain⟨z,y,xs,r,o,es,ep,h1,h2,h3,h4,h5⟩:=(show ObjOk P w H h a (.dT kvs) from rd_of ok e)
 refine⟨z,y,xs,r,o,es,ep,h1,h2,h3,h4,fun x hx => ?_,h5⟩
 have all:∀ {l:List (List Key×V)} {m:List (List Key×Addr×Value)},KT H l m->∀ x ∈m,(tupleKind (mixKind P w)).is h x.1 x.2.1:=by
  intro l m q
  induction q with
  | nil=>intro x hx;exact nomatch hx
  | @cons p q ps qs hq t ih=>
   intro x hx
   rcases List.mem_cons.mp hx with e | hx
   ·subst e
    exact key_of ok (by rw[←hq.1];exact hq.2.1)
   ·exact ih x hx
 exact all r x hx
theorem dt_of {kvs:List (List Key×V)} (ok:HOk P w H h) (e:H a=some (.dT kvs)):kvs.length<=sizeLine/\(a == sysModules)=false ∧
  ∃ xs,KT H kvs xs/\h.DictOfH (tupleKind (mixKind P w)) a xs:=dt_rd ok (.inl e)
end
noncomputable def DGet (H:Hp) (a:Addr) (y:V) (r:Option V):Prop:=
 (∃ kvs k,Rd H a (.dK kvs)/\y=kV k/\r=valV kvs k)\/∃ kvs k b,Rd H a (.dT kvs)/\y=.ref b/\H b=some (.tup (k.map kV))/\r=valV kvs k
noncomputable def DPut (H:Hp) (a:Addr) (y v:V) (H':Hp):Prop:=
 (∃ kvs k,H a=some (.dK kvs)/\y=kV k/\kvs.length<sizeLine/\H'=upd H a (.dK (putK kvs k v))) ∨
 ∃ kvs k b,H a=some (.dT kvs)/\y=.ref b/\H b=some (.tup (k.map kV))/\kvs.length<sizeLine/\H'=upd H a (.dT (putK kvs k v))
section
variable {X:Cx} {pins:List (Addr×Obj)} {σ:St} {H:Hp} {s:Shared} {a:Addr} {y v:V} {u r:Value} {o:Option V} {A:Around} {E:Value->Shared->Prop}
theorem Inv.big (I:Inv X pins σ H s):sysModules<s.heap.objs.size:=by
 have h:mainGlobals<s.heap.objs.size:=(I.mod.glob.keeps I.bk).lt
 exact Nat.lt_trans (by decide) h
theorem d_getItem {Q:Value->Shared->Prop} (hu:A.units+1<cLine) (I:Inv X pins σ H s) (g:DGet H a y (some v)) (ry:RelV y u) (h:∀ w' s',Inv X pins σ H s'->RelV v w'->Q w' s'):
  wpAny (model X.prog X.w) A (getItem (.ref a) u) Q E s:=by
 rcases g with ⟨kvs,k,e,ey,l⟩ | ⟨kvs,k,b,e,ey,eb,l⟩
 ·subst ey
  obtain⟨z,hd,vs,rel,dd⟩:=dk_rd I.hok e
  obtain⟨w',hw,rw'⟩:=RelO.some_of (v:=v) (o:=valueAt vs k) (by rw[l];exact rel.val k)
  exact wpAny_getItem_of (kV_is ry) dd.mapOf hw (h w' _ (I.tok _) rw')
 ·subst ey
  cases (show u=Value.ref b from ry)
  obtain⟨z,hd,xs,rel,dd⟩:=dt_rd I.hok e
  obtain⟨w',hw,rw'⟩:=RelO.some_of (v:=v) (o:=(atKey xs k).map (·.2)) (by rw[l];exact rel.val k)
  obtain⟨p,hp,hp2⟩:=Option.map_eq_some_iff.mp hw
  refine wpAny_getItem_heap (tupleKind_room_in1 hu) (key_of I.hok eb) dd hp ?_
  rw[hp2]
  exact h w' _ (I.tok _) rw'
theorem d_write {h':Heap} {t':Nat} {ob:HO} (I:Inv X pins σ H s) (mu:Mut (H a)) (hs:Heap.SameBut a s.heap h') (he:∃ q,h'.get? a=some q) (new:ObjOk X.prog X.w (upd H a ob) h' a ob):
  Inv X pins σ (upd H a ob) { s with heap:=h',toks:=t' }:=
 I.write (x:=a) (e:=a) mu (.inl rfl) (fun b q hb z=>(hs.2 b hb).trans z) he new
theorem dk_new {P:Program} {w:World} {H':Hp} {h':Heap} {kvs:List (Key×V)} {vs:List (Key×Value)} (z:kvs.length<=sizeLine) (hd:(a == sysModules)=false) (rel:KV kvs vs) (dd:h'.DictOf (mixKind P w) a vs):
  ObjOk P w H' h' a (.dK kvs):=⟨z,hd,vs,rel,dd⟩
theorem d_setItem {H':Hp} {Q:Unit->Shared->Prop} (hu:A.units+1<cLine) (I:Inv X pins σ H s) (g:DPut H a y v H') (ry:RelV y u) (rv:RelV v r) (h:∀ s',Inv X pins σ H' s'->Q () s'):
  wpAny (model X.prog X.w) A (setItem (.ref a) u r) Q E s:=by
 rcases g with ⟨kvs,k,e,ey,l,eH⟩ | ⟨kvs,k,b,e,ey,eb,l,eH⟩
 ·subst ey eH
  obtain⟨z,hd,vs,rel,dd⟩:=dk_of I.hok e
  have hz:vs.length<=sizeLine:=by rw[←rel.length];exact z
  have hl:(putK kvs k v).length<=sizeLine:=by have:=length_putK kvs k v;lia
  refine wpAny_setItem_pairs (hsz:=hz) (kV_is ry) dd fun h' dd' hs=>h _ ?_
  have he:∃ q,h'.get? a=some q:=let ⟨q,_,_,hq,_⟩:=dd';⟨q,hq⟩
  exact d_write I (by rw[e];exact True.intro) hs he (dk_new hl hd (rel.put k rv) dd')
 ·subst ey eH
  cases (show u=Value.ref b from ry)
  obtain⟨z,hd,xs,rel,dd⟩:=dt_of I.hok e
  have hz:xs.length<=sizeLine:=by rw[←Paired.length rel];exact z
  have hl:(putK kvs k v).length<=sizeLine:=by have:=length_putK kvs k v;lia
  refine wpAny_setItem_heap (hsz:=hz) (tupleKind_room_in1 hu) (key_of I.hok eb) dd fun h' dd' hs=>h _ ?_
  obtain⟨q,es,ep,hq,h2,h3,h4,_,h5⟩:=dd'
  refine d_write I (by rw[e];exact True.intro) hs ⟨q,hq⟩ ⟨hl,hd,_,(rel.put k eb rv).keeps fun c ys ec => ?_,q,es,ep,hq,h2,h3,h4,h5⟩
  rw[za2 (ne_of ec e (fun z=>nomatch z))]
  exact ec
end
section
variable {X:Cx} {pins:List (Addr×Obj)} {σ:St} {H:Hp} {s:Shared} {a:Addr} {kvs:List (Key×V)} {k:Key} {u:Value} {A:Around} {E:Value->Shared->Prop}
end
noncomputable def NoSl (i:Expr):Prop:=∀ ov iv,subscripted i false ov iv=operate [ov,iv] (getItem ov iv)
theorem subD_of {prog:Program} {w:World} {A:Around} {E:Value->Shared->Prop} {s:Shared} {env:Env} {value slice:Expr} {pos:Pos} {T id:String} {Q:Value->Shared->Prop}
  (hl:typeLookup (.type T) "__getitem__" = pure (some (.builtin id))) (hs:NoSl slice)
  (h:wpAny (model prog w) A (eval value env) (fun o s₁=>wpAny (model prog w) A (eval slice env) (fun i s₂=>s₂.TypeIs o T/\wpAny (model prog w) A (getItem o i) Q E s₂) E s₁) E s):
  wpAny (model prog w) A (eval (.Subscript value slice pos) env) Q E s:=by
 refine Subscript_ (wpAny_mono h (fun o s₁ h₁=>wpAny_mono h₁ (fun i s₂ h₂ => ?_) fun _ _ x=>x) fun _ _ x=>x)
 obtain⟨hT,h₂⟩:=h₂
 unfold subscriptTail
 refine wpAny_bind ?_
 rw[getitemInPython_of_ne hT.not_modules]
 refine wpAny_bind (wpAny_specialOf hT hl ?_)
 have fin:wpAny (model prog w) A (subscripted slice false o i) (fun r s₃ => wpAny (model prog w) A (letTemporaryGo value o r >>= fun _=>pure r) Q E s₃) E s₂:=by
  rw[hs o i]
  exact wpAny_operating (wpAny_mono h₂ (fun r s₃ h₃ => wpAny_bind (wpAny_letTemporaryGo (wpAny_pure h₃))) fun _ _ x=>x)
 first
  | exact wpAny_pure (wpAny_bind fin)
  | exact wpAny_bind (wpAny_pure (wpAny_bind fin))
  | exact wpAny_bind fin
theorem dict_typeIs {X:Cx} {pins:List (Addr×Obj)} {σ:St} {H:Hp} {s:Shared} {a:Addr} {y:V} {o:Option V} (I:Inv X pins σ H s) (g:DGet H a y o):s.TypeIs (.ref a) "dict":=by
 rcases g with ⟨kvs,k,e,_,_⟩ | ⟨kvs,k,b,e,_,_,_⟩
 ·obtain⟨_,_,vs,_,dd⟩:=dk_rd I.hok e
  exact dd.typeIs
 ·obtain⟨_,_,xs,_,dd⟩:=dt_rd I.hok e
  exact dd.typeIs
noncomputable def tDGet (td ty:TE):TE:=fun σ H Q=>td σ H fun x H1=>ty σ H1 fun y H2=>∃ a v,x=.ref a/\DGet H2 a y (some v)/\Q v H2
noncomputable def sDPut (td ty tv:TE):TS:=fun D σ H=>tv σ H fun v H1=>td σ H1 fun x H2=>ty σ H2 fun y H3=>∃ a H4,x=.ref a/\DPut H3 a y v H4/\D.nx σ H4
section
variable {X:Cx} {o i e value:Expr} {pos pos' tpos:Pos} {td ty tv:TE}
theorem pe_dget (hu:X.A.units+1<cLine) (ho:PE X o td) (hi:PE X i ty) (hs:NoSl i):PE X (.Subscript o i pos) (tDGet td ty):=by
 intro pins s σ H Q I h
 refine subD_of PySem.F.slot_dict_getitem.lookup hs (thn (ho pins s σ H _ I h) fun u s1 ⟨x,H1,I1,rx,q1⟩=>thn (hi pins s1 σ H1 _ I1 q1) fun iv s2 ⟨y,H2,I2,ry,a,v,ex,g,q2⟩ => ?_)
 subst ex
 obtain rfl:u=Value.ref a:=rx
 exact⟨dict_typeIs I2 g,d_getItem hu I2 g ry fun w' s3 I3 rw'=>⟨v,H2,I3,rw',q2⟩⟩
theorem ps_dput (hu:X.A.units+1<cLine) (ho:PE X o td) (hi:PE X i ty) (hv:PE X value tv) (hs:swapsWith value (some (.Subscript o i pos')) pos.line X.env=pure false):
  PS X (.Assign [.Subscript o i pos'] value pos) (sDPut td ty tv):=by
 intro pins s σ H D I h
 refine wpAny_Assign_Subscript (thn (hv pins s σ H _ I h) fun r s1 ⟨v,H1,I1,rv,q1⟩=>thn (ho pins s1 σ H1 _ I1 q1) fun u s2 ⟨x,H2,I2,rx,q2⟩=>thn (hi pins s2 σ H2 _ I2 q2) fun iv s3 ⟨y,H3,I3,ry,a,H4,ex,g,q3⟩ => ?_) hs
 subst ex
 obtain rfl:u=Value.ref a:=rx
 exact d_setItem hu I3 g ry rv fun s4 I4=>⟨σ,H4,I4,q3⟩
end
theorem dt_empty {P:Program} {w:World} {H:Hp} (h:Heap) (hb:sysModules<h.objs.size):ObjOk P w H (h.push { cls:=.type "dict",data:=.dict #[] }) h.objs.size (.dT []):=
 ⟨Nat.zero_le _,beq_eq_false_iff_ne.mpr (Ne.symm (Nat.ne_of_lt hb)),[],.nil,_,#[],0,Heap.get?_push_size _ rfl,⟨rfl,rfl,rfl⟩,rfl,rfl,List.nodup_nil⟩
noncomputable def tDNewT:TE:=fun _ H Q=>∀ p,H p=none->Q (.ref p) (upd H p (.dT []))
section
variable {X:Cx} {pos:Pos}
theorem pe_dnewT:PE X (.Dict [] [] pos) tDNewT:=fun pins s σ H Q I h=>
 wpAny_Dict_empty ⟨.ref s.heap.objs.size,_,I.laid (a:=s.heap.objs.size) (o:=.dT []) (t':=s.toks) (fun _ _ q=>Heap.get?_push_of_some _ q) (Nat.le_refl _) (dt_empty s.heap I.big),rfl,h _ (I.hok.fresh (Nat.le_refl _))⟩
end
noncomputable def IsD (H:Hp) (a:Addr):Prop:=(∃ kvs,Rd H a (.dK kvs))\/∃ kvs,Rd H a (.dT kvs)
section
variable {X:Cx} {pins:List (Addr×Obj)} {σ:St} {H:Hp} {s:Shared} {a:Addr} {y d:V} {u r:Value} {o:Option V} {A:Around} {E:Value->Shared->Prop}
end
section
variable {X:Cx} {o e f:Expr} {apos cpos:Pos} {td ty tx:TE}
end
section
variable {X:Cx} {pins:List (Addr×Obj)} {σ:St} {H:Hp} {s:Shared} {a:Addr} {kvs:List (Key×V)} {A:Around} {E:Value->Shared->Prop}
end
section
variable {X:Cx} {pins:List (Addr×Obj)} {σ:St} {H:Hp} {s:Shared} {a:Addr} {y:V} {u:Value} {A:Around} {E:Value->Shared->Prop}
end
end L2
namespace Att
open PySem PySem.W PySem.Calls PyProof.Rows
section
variable {prog:Program} {w:World} {A:Around} {E:Value->Shared->Prop} {s:Shared} {K:Frag}
end
end Att
namespace L2
open PySem PySem.Spec PyProof.Rows
end L2
namespace L2
open PySem PySem.Spec PyProof.Rows
end L2
namespace L2
open PySem PySem.Spec PyProof.Rows
section
variable {P:Program} {w:World} {K:PySem.W.Frag} {mg:Str->Option Value} {base:Heap}
end
section
variable {X:Cx}
end
section
variable {κ:Type} [DecidableEq κ]
end
end L2
namespace L4
open PySem L2 PySem.Spec PyProof.Rows
theorem ze9 {A:Around} {k:Nat} (hr:Room k A):A.units+1<cLine:=by have:=hr.un;lia
noncomputable def isKey (k:List Int) (d:D):Bool:=match d with
 | .tup ds=>(match intsOf ds with | some ns=>decide (ns=k) | none=>false)
 | _=>false
noncomputable def lookD:List D->List D->List Int->Option D
 | k::ks,v::vs,n=>if isKey n k=true then some v else lookD ks vs n
 | _,_,_=>none
noncomputable def replD:List D->List D->List Int->D->List D
 | k::ks,v::vs,n,d=>(if isKey n k=true then d else v)::replD ks vs n d
 | _,vs,_,_=>vs
noncomputable def keyI (k:List Int):List Key:=k.map Sum.inl
theorem ints_key:∀ {kk:List Key} {ns:List Int},intsOf (kk.map keyD)=some ns ↔ kk=keyI ns
 | [],ns=>by
  constructor
  ·intro h;cases h;rfl
  ·intro h;cases ns with
   | nil=>rfl
   | cons _ _=>cases h
 | .inl i::kk,ns=>by
  show (intsOf (kk.map keyD)).map (i :: ·)=some ns ↔ _
  constructor
  ·intro h
   obtain⟨bs,e1,rfl⟩:=Option.map_eq_some_iff.mp h
   rw[ints_key.mp e1];rfl
  ·intro h
   cases ns with
   | nil=>cases h
   | cons n ns=>
    have h1:Sum.inl i=(Sum.inl n:Key):=(List.cons.inj h).1
    have h2:kk=keyI ns:=(List.cons.inj h).2
    cases h1
    rw[ints_key.mpr h2];rfl
 | .inr x::kk,ns=>by
  constructor
  ·intro h;cases h
  ·intro h
   cases ns with
   | nil=>cases h
   | cons n ns=>cases (List.cons.inj h).1
theorem isKey_is (k:List Int) (kk:List Key):isKey k (.tup (kk.map keyD))=decide (kk=keyI k):=by
 show (match intsOf (kk.map keyD) with | some ns=>decide (ns=k) | none=>false)=_
 cases e:intsOf (kk.map keyD) with
 | none=>
  symm
  refine decide_eq_false fun z => ?_
  rw[ints_key.mpr z] at e;cases e
 | some ns=>
  have e1:=ints_key.mp e
  show decide (ns=k)=_
  by_cases h:ns=k
  ·subst h
   rw[decide_eq_true e1];simp
  ·rw[decide_eq_false h]
   symm
   refine decide_eq_false fun z=>h ?_
   have:=ints_key.mpr z
   rw[e] at this;cases this;rfl
section
variable {K:PySem.W.Frag} {G:Hp}
theorem look_rep (n:List Int):∀ {kvs:List (List Key×V)} {ds:List D},RepL K G (kvs.map (·.2)) ds →
  (∀ d,lookD (kvs.map fun kv=>D.tup (kv.1.map keyD)) ds n=some d->∃ v,valV kvs (keyI n)=some v/\Rep K G v d)/\(lookD (kvs.map fun kv=>D.tup (kv.1.map keyD)) ds n=none->valV kvs (keyI n)=none)
 | [],_,.nil=>⟨fun d h=>(by cases h),fun _=>rfl⟩
 | kv::kvs,_,.cons h r=>by
  rename_i d ds
  obtain⟨i1,i2⟩:=look_rep n r
  by_cases hk:kv.1=keyI n
  ·have e:isKey n (.tup (kv.1.map keyD))=true:=by rw[isKey_is];exact decide_eq_true hk
   refine⟨fun d' q => ?_,fun q => ?_⟩
   ·simp only[List.map_cons,lookD,e,if_true,Option.some.injEq] at q
    subst q
    exact⟨kv.2,valV_pos hk,h⟩
   ·simp only[List.map_cons,lookD,e,if_true] at q;cases q
  ·have e:isKey n (.tup (kv.1.map keyD))=false:=by rw[isKey_is];exact decide_eq_false hk
   refine⟨fun d' q => ?_,fun q => ?_⟩
   ·simp only[List.map_cons,lookD,e,Bool.false_eq_true,if_false] at q
    rw[valV_neg hk];exact i1 d' q
   ·simp only[List.map_cons,lookD,e,Bool.false_eq_true,if_false] at q
    rw[valV_neg hk];exact i2 q
theorem any_key (n:List Int) (kvs:List (List Key×V)):((kvs.map fun kv=>D.tup (kv.1.map keyD)).any (isKey n))=kvs.any fun kv=>decide (kv.1=keyI n):=by
 induction kvs with
 | nil=>rfl
 | cons kv kvs ih=>simp only[List.map_cons,List.any_cons,isKey_is,ih]
theorem repl_rep (n:List Int) {v:V} {d:D} (hv:Rep K G v d):∀ {kvs:List (List Key×V)} {ds:List D},RepL K G (kvs.map (·.2)) ds →
  RepL K G ((kvs.map fun kv=>if kv.1=keyI n then (kv.1,v) else kv).map (·.2)) (replD (kvs.map fun kv=>D.tup (kv.1.map keyD)) ds n d)
 | [],_,.nil=>.nil
 | kv::kvs,_,.cons h r=>by
  simp only[List.map_cons,replD,isKey_is]
  by_cases hk:kv.1=keyI n
  ·simp only[hk,if_true,decide_true]
   exact .cons hv (repl_rep n hv r)
  ·simp only[hk,if_false,decide_false,Bool.false_eq_true]
   exact .cons h (repl_rep n hv r)
theorem repl_keys (n:List Int) (v:V) (kvs:List (List Key×V)):(kvs.map fun kv=>if kv.1=keyI n then (kv.1,v) else kv).map (fun kv=>D.tup (kv.1.map keyD))=kvs.map fun kv=>D.tup (kv.1.map keyD):=by
 rw[List.map_map]
 refine List.map_congr_left fun kv _ => ?_
 show D.tup ((if kv.1=keyI n then (kv.1,v) else kv).1.map keyD)=_
 split<;>rfl
theorem key_vals:∀ {vs:List V} {ds:List D} {ns:List Int},RepL K G vs ds->intsOf ds=some ns->vs=(keyI ns).map kV
 | vs,ds,ns,r,e=>by
  rw[rep_ints r e]
  unfold keyI
  rw[List.map_map];rfl
theorem allI_of {ds:List D} {ns:List Int} (h:intsOf ds=some ns) (h0:ns ≠ []):allI ds=true:=by
 have all:∀ {ds:List D} {ns:List Int},intsOf ds=some ns->ds.all isI=true/\ds.length=ns.length:=by
  intro ds
  induction ds with
  | nil=>intro ns h;cases h;exact⟨rfl,rfl⟩
  | cons d ds ih=>
   intro ns h
   cases d with
   | int i=>
    obtain⟨bs,e1,rfl⟩:=Option.map_eq_some_iff.mp (show (intsOf ds).map (i :: ·)=some ns from h)
    obtain⟨a,b⟩:=ih e1
    exact⟨by simp [isI,a],by simp [b]⟩
   | _=>cases h
 obtain⟨a,b⟩:=all h
 unfold allI
 rw[a]
 cases ds with
 | nil=>exact absurd (List.length_eq_zero_iff.mp b.symm) h0
 | cons _ _=>rfl
end
section
variable {X:Cx} {e k o:Expr} {fe fk:FE} {pos:Pos}
noncomputable def fDNew:FE:=fun δ=>some (.ok (.own (.dct [] [])),δ)
theorem snd_dnew:SndE X tDNewT fDNew:=by
 intro M G0 H0 G H σ δ q δ' Q S e k
 cases e
 intro p hp
 obtain⟨S2,g2,r⟩:=S.newOwn (o:=.dT []) (d:=.dct [] []) hp ⟨[],⟨[],za4,rfl,rfl⟩,.nil⟩
 exact k _ _ _ S2 g2 r
theorem de_dnew:DE X (.Dict [] [] pos) fDNew:=⟨_,pe_dnewT,snd_dnew⟩
noncomputable def putDD (j:Nat) (p:D) (k:D) (δ:DEnv):Option Out:=match δ[j]? with
 | some (some s)=>if s.isO=true then (match s.fz,k with
  | .dct ks vs,.tup kd=>(match intsOf kd with
   | some n=>if n ≠ []/\ks.length<sizeLine then (if ks.any (isKey n)=true then some (.next (δ.set j (some (s.now (.dct ks (replD ks vs n p)))))) else some (.next (δ.set j (some (s.now (.dct (ks++[.tup kd]) (vs++[p]))))))) else none
   | none=>none)
  | _,_=>none) else none
 | _=>none
noncomputable def fPutD (j:Nat) (fk fe:FE):FS:=fun δ=>thenS (fe δ) fun p δ=>match δ[j]? with
 | some (some _)=>thenS (fk δ) fun q δ=>putDD j p.fz q.fz δ
 | _=>none
theorem keyD_keyI (n:List Int):(keyI n).map keyD=n.map D.int:=by unfold keyI;rw[List.map_map];rfl
theorem ints_back:∀ {ds:List D} {ns:List Int},intsOf ds=some ns->ds=ns.map D.int
 | [],_,h=>by cases h;rfl
 | .int i::ds,ns,h=>by
  obtain⟨bs,e1,rfl⟩:=Option.map_eq_some_iff.mp (show (intsOf ds).map (i :: ·)=some ns from h)
  rw[ints_back e1];rfl
 | .non::_,_,h=>by cases h
 | .bl _::_,_,h=>by cases h
 | .str _::_,_,h=>by cases h
 | .ty _::_,_,h=>by cases h
 | .tup _::_,_,h=>by cases h
 | .lst _::_,_,h=>by cases h
 | .dct _ _::_,_,h=>by cases h
 | .dcf _ _::_,_,h=>by cases h
 | .tg _ _::_,_,h=>by cases h
theorem snd_putD {j:Nat} {te tk:TE} (he:SndE X te fe) (hk:SndE X tk fk):SndS X (sDPut (tVar j) tk te) (fPutD j fk fe):=by
 intro M G0 H0 G H σ δ o E S e kk
 obtain⟨s,δ1,e1,e⟩:=zb8 e
 ·refine he.toV M G0 H0 G H σ δ s δ1 _ S e1 fun v G1 H1 S1 g1 r1 => ?_
  split at e
  ·rename_i s0 hj
   obtain⟨w,z1,_⟩:=S1.env.at' j _ hj
   refine⟨w,z1,?_⟩
   obtain⟨q,δ2,e2,e⟩:=zb8 e
   ·refine hk.toV M G0 H0 G1 H1 σ δ1 q δ2 _ S1 e2 fun y G2 H2 S2 g2 r2 => ?_
    unfold putDD at e
    split at e
    ·rename_i s2 hj2
     split at e
     ·rename_i os
      split at e
      ·rename_i ks vs kd hds hkk
       split at e
       ·rename_i n hn
        split at e
        ·rename_i hc
         rw[hkk] at r2
         obtain⟨b,us,rfl,_,hx,ru⟩:=rep_tupX r2
         have hb:=hx (allI_of hn hc.1)
         rw[key_vals ru hn] at hb
         obtain⟨w',y1,r3⟩:=S2.env.at' j _ hj2
         rw[z1] at y1;cases y1
         obtain⟨p,rfl,y3,oo⟩:=r3.own os
         rw[hds] at oo
         obtain⟨vv,⟨kvs,y2,yk,yv⟩,y4⟩:=oo
         subst yk yv
         have hlen:kvs.length<sizeLine:=by simpa using hc.2
         have rv:=Rep.mono g2.gg r1
         refine⟨p,_,rfl,.inr ⟨kvs,keyI n,b,y2,rfl,S2.gh _ _ hb,hlen,rfl⟩,?_⟩
         have ha:=any_key n kvs
         split at e
         ·rename_i hany
          cases e
          rw[ha] at hany
          have ep:putK kvs (keyI n) v=kvs.map fun kv=>if kv.1=keyI n then (kv.1,v) else kv:=by unfold putK;rw[if_pos hany]
          rw[ep]
          obtain⟨S3,g3⟩:=S2.change (H':=upd H2 p (.dT (kvs.map fun (kv:List Key×V)=>if kv.1=keyI n then (kv.1,v) else kv))) hj2 os z1 (fun b hb=>za2 hb) (d':=.dct (kvs.map fun (kv:List Key×V)=>D.tup (kv.1.map keyD)) (replD (kvs.map fun (kv:List Key×V)=>D.tup (kv.1.map keyD)) vs n s.fz)) ⟨_,⟨_,za4,(repl_keys n v kvs).symm,rfl⟩,repl_rep n rv y4⟩
          exact kk _ _ _ S3
         ·rename_i hany
          cases e
          rw[ha] at hany
          have ep:putK kvs (keyI n) v=kvs++[(keyI n,v)]:=by unfold putK;rw[if_neg hany]
          rw[ep]
          obtain⟨S3,g3⟩:=S2.change (H':=upd H2 p (.dT (kvs++[(keyI n,v)]))) hj2 os z1 (fun b hb=>za2 hb) (d':=.dct (kvs.map (fun (kv:List Key×V)=>D.tup (kv.1.map keyD))++[.tup kd]) (vs++[s.fz])) ⟨_,⟨_,za4,by rw[List.map_append];simp [keyD_keyI,ints_back hn],rfl⟩,by rw[List.map_append];exact y4.app (.cons rv .nil)⟩
          exact kk _ _ _ S3
        ·cases e
       ·cases e
      ·cases e
     ·cases e
    ·cases e
  ·cases e
theorem ds_putD (j:Nat) {x:Str} {np sp:Pos} (hu:X.A.units+1<cLine) (h:DE X e fe) (hk:DE X k fk) (hN:X.N[j]? = some x:=by rfl) (hv:Vis X.env.scope x:=by first | exact Or.inl rfl | exact Or.inr (Or.inl rfl) | exact Or.inr (Or.inr rfl)) (hd:(x == ("__debug__" : Str))=false:=by decide) (hcd:(x == ("__classdict__" : Str))=false:=by decide)
  (hs:swapsWith e (some (.Subscript (.Name x np) k sp)) pos.line X.env=pure false:=by rfl):
  DS X (.Assign [.Subscript (.Name x np) k sp] e pos) (fPutD j fk fe):=
 let ⟨_,a1,a2⟩:=h;let ⟨_,b1,b2⟩:=hk;⟨_,ps_dput hu (pv j hN hv hd hcd) b1 a1 hs,snd_putD a2 b2⟩
end
end L4
namespace L4
open PySem L2 PySem.Spec PyProof.Rows
section
variable {prog:Program} {w:World} {κ:Type} [DecidableEq κ] {knd:KeyKind prog w κ} {A:Around} {E:Value->Shared->Prop} {s:Shared}
theorem idle_loop {α β:Type} {go:α->β->Sem (ForInStep β)} {b:β} {Q:β->Shared->Prop} (end_:Q b s):∀ (l:List α) (_:∀ x ∈l,∀ {R:ForInStep β->Shared->Prop},R (.yield b) s->wpAny (model prog w) A (go x b) R E s),wpAny (model prog w) A (forIn l b go) Q E s
 | [],_=>by rw[List.forIn_nil];exact wpAny_pure end_
 | x::l,turn=>by
  rw[List.forIn_cons]
  apply wpAny_bind
  apply turn x List.mem_cons_self
  exact idle_loop end_ l fun y m=>turn y (List.mem_cons_of_mem _ m)
theorem idle_rows {α β:Type} {go:α->β->Sem (ForInStep β)} {b:β} {Q:β->Shared->Prop} {es:Array α} (turn:∀ x ∈es.toList,∀ {R:ForInStep β->Shared->Prop},R (.yield b) s->wpAny (model prog w) A (go x b) R E s) (end_:Q b s):wpAny (model prog w) A (forIn es b go) Q E s:=by
 rw[←Array.forIn_toList]
 exact idle_loop end_ _ turn
theorem count_loop {β:Type} {go:Nat->β->Sem (ForInStep β)} {b:β} {Q:β->Shared->Prop} (P:Nat->Prop) (n:Nat) (last:P n->Q b s)
  (turn:∀ i,i<n->P i->∀ {R:ForInStep β->Shared->Prop},(P (i+1)->R (.yield b) s)->(∀ c,Q c s->R (.done c) s)->wpAny (model prog w) A (go i b) R E s):
  ∀ k i,i+k=n->P i->wpAny (model prog w) A (forIn (List.range' i k) b go) Q E s
 | 0,i,e,p=>wpAny_pure (last (e ▸ p))
 | k+1,i,e,p=>by
  rw[List.range'_succ,List.forIn_cons]
  apply wpAny_bind
  exact turn i (by lia) p (fun p'=>count_loop P n last turn k (i+1) (by lia) p') fun c q=>wpAny_pure q
theorem count_range {β:Type} {go:Nat->β->Sem (ForInStep β)} {b:β} {Q:β->Shared->Prop} {n:Nat} (P:Nat->Prop) (first:P 0) (last:P n->Q b s)
  (turn:∀ i,i<n->P i->∀ {R:ForInStep β->Shared->Prop},(P (i+1)->R (.yield b) s)->(∀ c,Q c s->R (.done c) s)->wpAny (model prog w) A (go i b) R E s):wpAny (model prog w) A (forIn [:n] b go) Q E s:=by
 rw[Std.Legacy.Range.forIn_eq_forIn_range']
 have e:([:n]:Std.Legacy.Range).size=n:=by simp [Std.Legacy.Range.size]
 rw[e]
 exact count_loop P n last turn n 0 (Nat.zero_add n) first
end
end L4
namespace L4
open PySem L2 PySem.Spec PyProof.Rows
section
variable {prog:Program} {w:World} {κ:Type} [DecidableEq κ] {knd:KeyKind prog w κ} {A:Around} {E:Value->Shared->Prop} {s:Shared}
end
section
variable {X:Cx} {pins:List (Addr×Obj)} {σ:L2.St} {H:Hp} {s:Shared} {a:Addr} {kvs:List (List Key×V)} {A:Around} {E:Value->Shared->Prop}
theorem kt_keys {kvs:List (List Key×V)} {xs:List (List Key×Addr×Value)} (rel:KT H kvs xs):kvs.map (·.1)=xs.map (·.1):=by
 induction rel with
 | nil=>rfl
 | cons hq _ ih=>rw[List.map_cons,List.map_cons,ih,hq.1]
end
end L4
namespace L4
open PySem L2 PySem.Spec PyProof.Rows
set_option maxRecDepth 1000000 in
noncomputable def inR:List Key->Bool
 | [.inl r,.inl c]=>decide (0<=r) && decide (r<99) && (decide (0<=c) && decide (c<26))
 | _=>false
end L4
namespace L4
open PySem L2 PySem.Spec PyProof.Rows
noncomputable def inRD:D->Bool
 | .tup [.int r,.int c]=>decide (0<=r) && decide (r<99) && (decide (0<=c) && decide (c<26))
 | _=>false
theorem bo_dict:bootBuiltins "dict" = some (.type "dict"):=by decide +kernel
section
variable {X:Cx} {K:PySem.W.Frag}
variable {e:Expr} {es:List Expr} {fl:FL} {p pos:Pos}
end
end L4
namespace L4
open PySem L2 PySem.Spec PyProof.Rows
section
variable {prog:Program} {w:World} {κ:Type} [DecidableEq κ] {knd:KeyKind prog w κ} {A:Around} {E:Value->Shared->Prop} {s:Shared}
inductive HitsT (A:Around) (s:Shared) (kb:List (List κ×Addr×Value)):List (List κ×Addr×Value)->Bool->Prop
 | nil:HitsT A s kb [] true
 | miss {x:List κ×Addr×Value} {r:List (List κ×Addr×Value)} : (∀ (j:Nat) (p:Addr×Value),kb[j]? ≠ some (x.1,p))->HitsT A s kb (x::r) false
 | hit {x:List κ×Addr×Value} {j:Nat} {p:Addr×Value} {r:List (List κ×Addr×Value)} {e b:Bool} : kb[j]? = some (x.1,p)->SeqAt.EqAt A s x.2.2 p.2 e->HitsT A s kb r b->HitsT A s kb (x::r) (e && b)
theorem samePairsT {nm:String} {a b:Addr} {ka kb:List (List κ×Addr×Value)} {r:Bool} {Q:Bool->Shared->Prop} (room:(tupleKind knd).room A) (ha:(a == sysModules)=false) (hb:(b == sysModules)=false)
  (da:s.heap.DictOfH (tupleKind knd) a ka) (db:s.heap.DictOfH (tupleKind knd) b kb) (hits:ka.length=kb.length->HitsT A s kb ka r) (q:Q (ka.length == kb.length && r) s):
  wpAny (model prog w) A (Builtin.Dict.samePairs nm a b) Q E s:=by
 obtain⟨oa,ea,na,ga,_,data,rowa,tupa,_⟩:=da
 obtain⟨ob,eb,nb,gb,_,datb,rowb,tupb,difb⟩:=db
 have la:ea.size=ka.length:=size_of_entries rowa
 have lb:eb.size=kb.length:=size_of_entries rowb
 have nota:¬ (a == sysModules)=true:=by rw[ha];decide
 have notb:¬ (b == sysModules)=true:=by rw[hb];decide
 have goes:∀ {i:Nat} {x:List κ×Addr×Value},ka[i]? = some x->ea[i]? = some ⟨(tupleKind knd).hash x.1,.ref x.2.1,x.2.2⟩:=fun e=>by rw[entry_at rowa,e];rfl
 have back:∀ {j:Nat} {x:List κ×Addr×Value},kb[j]? = some x->eb[j]? = some ⟨(tupleKind knd).hash x.1,.ref x.2.1,x.2.2⟩:=fun e=>by rw[entry_at rowb,e];rfl
 wp_walk using wpAny_dictEntries ga data,wpAny_dictEntries gb datb,wpAny_dictEpoch ga data
 by_cases len:ka.length=kb.length
 ·have e0:(ea.size != eb.size)=false:=by rw[la,lb,len];exact bne_self_eq_false _
  have q1:Q r s:=by rw[len,beq_self_eq_true,Bool.true_and] at q;exact q
  have start:HitsT A s kb (ka.drop 0) r:=hits len
  rw[e0]
  wp_walk using wpAny_dictEpoch ga data,count_range (fun i=>HitsT A s kb (ka.drop i) r) start
  ·intro p
   rw[la,List.drop_length] at p
   cases p
   wp_walk
   exact q1
  ·intro i lt p R yes no
   have lt2:i<ka.length:=la ▸ lt
   rw[List.drop_eq_getElem_cons lt2] at p
   generalize hx:ka[i]=x at p
   have at_i:ka[i]? = some x:=by rw[←hx];exact List.getElem?_eq_getElem lt2
   have mx:x ∈ka:=List.mem_of_getElem? at_i
   have isx:=tupa x mx
   wp_walk using wpAny_dictEntries ga data
   rw[goes at_i]
   wp_walk using wpAny_dictFind_heap room isx gb datb rowb tupb difb
   ·intro none_
    cases p with
    | miss _=>wp_walk;exact no _ (wpAny_pure q1)
    | hit e=>exact absurd e (none_ _ _)
   ·intro j y at_j
    generalize hl:x::ka.drop (i+1)=l at p
    cases p with
    | nil=>cases hl
    | miss none_=>cases hl;exact absurd at_j (none_ _ _)
    | @hit x' j2 y2 l' e b e2 alike more=>
     cases hl
     obtain rfl:j=j2:=idxH_unique difb at_j e2
     obtain rfl:y=y2:=congrArg Prod.snd (Option.some.inj (at_j.symm.trans e2))
     have alike':∀ {R:Bool->Shared->Prop},R e s->wpAny (model prog w) A (eqBool x.2.2 y.2) R E s:=fun {R} => alike prog w E R
     wp_walk using wpAny_dictEntries gb datb
     rw[back at_j]
     wp_walk using alike'
     cases e with
     | false=>wp_walk;exact no _ (wpAny_pure q1)
     | true=>
      wp_walk using wpAny_dictEpoch ga data
      exact yes more
 ·have e0:(ea.size != eb.size)=true:=by rw[la,lb];exact bne_iff_ne.mpr len
  have e1:(ka.length == kb.length)=false:=beq_eq_false_iff_ne.mpr len
  rw[e0]
  rw[e1] at q
  wp_walk
  exact q
theorem neT {a b:Addr} {ka kb:List (List κ×Addr×Value)} {r:Bool} {Q:Value->Shared->Prop} (room:(tupleKind knd).room A.in1) (ha:(a == sysModules)=false) (hb:(b == sysModules)=false)
  (da:s.heap.DictOfH (tupleKind knd) a ka) (db:s.heap.DictOfH (tupleKind knd) b kb) (low:A.units<cLine) (hits:ka.length=kb.length->HitsT A.in1 s kb ka r) (q:Q (.bool (!(ka.length == kb.length && r))) s):
  wpAny (model prog w) A (compareOp .NotEq (.ref a) (.ref b)) Q E s:=by
 have ta:=da.typeIs
 have tb:=db.typeIs
 have sub:=PySem.F.sub_dict_dict
 apply wpAny_richCompare_same_room (op:=.NotEq) ta tb PySem.F.slot_dict_ne (hu:=low)
 apply wpAny_call_entry PySem.F.slot_dict_ne ta PySem.F.entry_dict_ne (ha:=PySem.F.args_dict_ne_2 _ _)
 wp_walk using wpAny_notOrdered_dict ta,wpAny_isInstance (T:="dict") tb sub,samePairsT room ha hb da db hits
 exact⟨_,rfl,nofun,beq_false _ ▸ q⟩
end
end L4
namespace L4
open PySem L2 PySem.Spec PyProof.Rows
section
variable {A:Around} {s:Shared}
end
section
variable {X:Cx} {K:PySem.W.Frag}
noncomputable def sameKs:List D->List D->Bool
 | [],[]=>true
 | .tup a::r,.tup b::r'=>(match intsOf a,intsOf b with | some x,some y=>decide (x=y) | _,_=>false) && sameKs r r'
 | _,_=>false
theorem sameKs_is:∀ {kvs kvs':List (List Key×V)},sameKs (kvs.map fun kv=>D.tup (kv.1.map keyD)) (kvs'.map fun kv=>D.tup (kv.1.map keyD))=true->kvs.map (·.1)=kvs'.map (·.1)
 | [],[],_=>rfl
 | [],_::_,h=>by simp [sameKs] at h
 | _::_,[],h=>by simp [sameKs] at h
 | kv::kvs,kv'::kvs',h=>by
  simp only[List.map_cons,sameKs,Bool.and_eq_true] at h
  rw[List.map_cons,List.map_cons,sameKs_is h.2]
  have h1:=h.1
  split at h1
  ·rename_i x y ex ey
   have e:=of_decide_eq_true h1
   rw[ints_key.mp ex,ints_key.mp ey,e]
  ·cases h1
end
end L4
namespace L4
open PySem PySem.Spec PyProof.Rows L2
section
variable {X:Cx} {K:PySem.W.Frag}
theorem look_at {G H:Hp} {y x:V} {kd ks vs:List D} {n:List Int} (gh:Same G H) (r1:Rep K G y (.tup kd)) (r2:Rep K G x (.dct ks vs)) (hn:intsOf kd=some n) (hn0:n ≠ []):
  ∃ a o,x=.ref a/\IsD H a/\DGet H a y o/\o.isSome=(lookD ks vs n).isSome/\Rep K G (o.getD .non) ((lookD ks vs n).getD .non):=by
 obtain⟨b,us,rfl,_,hx,ru⟩:=rep_tupX r1
 have hb:=hx (allI_of hn hn0)
 rw[key_vals ru hn] at hb
 obtain⟨a,vv,rfl,⟨kvs,y2,yk,yv⟩,y4⟩:=rep_dct r2
 subst yk yv
 obtain⟨l1,l2⟩:=look_rep n y4
 refine⟨a,valV kvs (keyI n),rfl,.inr ⟨kvs,same_rd gh y2⟩,.inr ⟨kvs,keyI n,b,same_rd gh y2,rfl,gh _ _ hb,rfl⟩,?_⟩
 cases hl:lookD (kvs.map fun (kv:List Key×V)=>D.tup (kv.1.map keyD)) vs n with
 | none=>rw[l2 hl];exact⟨rfl,.non⟩
 | some d=>obtain⟨v3,e3,r4⟩:=l1 d hl;rw[e3];exact⟨rfl,r4⟩
end
end L4
namespace L4
open PySem PySem.W PySem.Calls L2 PySem.Spec PyProof.Rows
noncomputable def RawAt (h:Heap) (d:Addr) (es:Array DictEntry) (ep:Nat):Prop:=∃ o,h.get? d=some o/\o.ExactDict/\o.data=.dict es ep
theorem RawAt.ty {s:Shared} {d:Addr} {es:Array DictEntry} {ep:Nat} (x:RawAt s.heap d es ep):s.TypeIs (.ref d) "dict":=let ⟨o,ho,hc,_⟩:=x;⟨o,ho,hc.1⟩
theorem RawAt.to {h h':Heap} {d:Addr} {es:Array DictEntry} {ep:Nat} (x:RawAt h d es ep) (e:∀ o,h.get? d=some o->h'.get? d=some o):RawAt h' d es ep:=let ⟨o,ho,r⟩:=x;⟨o,e _ ho,r⟩
theorem RawAt.lt {h:Heap} {d:Addr} {es:Array DictEntry} {ep:Nat} (x:RawAt h d es ep):d<h.objs.size:=let ⟨_,ho,_⟩:=x;Heap.lt_size ho
section
variable {prog:Program} {w:World} {A:Around} {E:Value->Shared->Prop} {s:Shared} {d it:Addr} {es:Array DictEntry} {ep i:Nat}
theorem raw_iter {Q:Value->Shared->Prop} (nm:(d == sysModules)=false) (x:RawAt s.heap d es ep)
  (k:Q (.ref s.heap.objs.size) { s with heap:=s.heap.push { cls:=.type "dict_keyiterator",data:=.fields #[.ref d,.int 0 0,.int es.size 0,.int ep 0] } }):wpAny (model prog w) A (pyIter (.ref d)) Q E s:=by
 have ty:=x.ty
 obtain⟨o,got,_,dat⟩:=x
 apply wpAny_pyIter_slot ty F.slot_dict_iter
 apply wpAny_call_entry F.slot_dict_iter ty F.entry_dict_iter (ha:=F.args_dict_iter_1 _)
 wp_walk using wpAny_notOrdered_dict ty,wpAny_dictEntries got dat,wpAny_dictEpoch got dat
 exact⟨_,rfl,_,_,⟨_,Heap.get?_push_size _ rfl,rfl⟩,F.slot_dict_keyiterator_next.lookup,k⟩
theorem raw_next {Q:Option Value->Shared->Prop} (hit:s.heap.IsKeyIter it d i es.size ep) (x:RawAt s.heap d es ep) (hi:i<es.size)
  (k:∀ h',h'.IsKeyIter it d (i+1) es.size ep->Heap.SameBut it s.heap h'->Q (some es[i].key) { s with heap:=h' }):wpAny (model prog w) A (pyNext (.ref it)) Q E s:=by
 have ty:=hit.typeIs
 obtain⟨oi,goti,ci,dati⟩:=hit
 obtain⟨od,gotd,_,datd⟩:=x
 have own:Builtin.Dict_items.ownsTuple "dict_keyiterator" = false:=by decide
 unfold pyNext
 apply wpAny_bind
 apply wpAny_attempt
 apply wpAny_callSpecial?_slot ty F.slot_dict_keyiterator_next
 apply wpAny_call_entry F.slot_dict_keyiterator_next ty F.entry_dict_keyiterator_next (ha:=F.args_dict_keyiterator_next_1 _)
 wp_walk using wpAny_typeNameOfWhole_keyiter ty,wpAny_typeNameOf_keyiter ty,wpAny_fieldsOf goti dati,wpAny_dictEntries gotd datd,wpAny_dictEpoch gotd datd,wpAny_isOneOf_keyiter ty
 have at_i:(if (i:Int)<0 then none else es[(i:Int).toNat]?)=some es[i]:=by simp [hi]
 rw[at_i]
 have new:∀ u:Value,(s.heap.update it (Obj.mapFields (·.setIfInBounds 1 u))).get? it=some (oi.mapFields (·.setIfInBounds 1 u)):=fun u=>Heap.get?_update_self _ goti (Obj.isFreed_of_fields (Obj.data_mapFields dati _))
 have iter:∀ u:Value,u=.int ((i+1:Nat):Int) 0->(s.heap.update it (Obj.mapFields (·.setIfInBounds 1 u))).IsKeyIter it d (i+1) es.size ep:=fun u hu=>⟨_,new u,(Obj.cls_mapFields ..).trans ci,by rw[Obj.data_mapFields dati,hu];simp⟩
 have ty2:∀ u:Value,u=.int ((i+1:Nat):Int) 0->({ s with heap:=s.heap.update it (Obj.mapFields (·.setIfInBounds 1 u)) } : Shared).TypeIs (.ref it) "dict_keyiterator":=fun u hu=>(iter u hu).typeIs (s:={ s with heap:=s.heap.update it (Obj.mapFields (·.setIfInBounds 1 u)) })
 wp_walk using wpAny_typeNameOfWhole_keyiter ty,wpAny_typeNameOf_keyiter ty,wpAny_isOneOf_keyiter ty,wpAny_setField goti dati
 ·simp [own]
 ·have e1:(if Builtin.Dict_items.ownsTuple "dict_keyiterator" = true then 2 else 0)+1=1:=by simp [own]
  rw[e1]
  generalize hu:rawInt _=u
  have hu2:u=.int ((i+1:Nat):Int) 0:=by rw[←hu];rfl
  wp_walk using wpAny_isOneOf_keyiter (ty2 u hu2)
  exact⟨_,rfl,wpAny_pure (k _ (iter u hu2) (Heap.SameBut.update ..))⟩
theorem raw_end {Q:Option Value->Shared->Prop} (hh:A.handled=none) (hit:s.heap.IsKeyIter it d es.size es.size ep) (x:RawAt s.heap d es ep)
  (k:∀ h',Heap.ExtBut it s.heap h'->Q none { s with heap:=h' }):wpAny (model prog w) A (pyNext (.ref it)) Q E s:=by
 have ty:=hit.typeIs
 obtain⟨oi,goti,ci,dati⟩:=hit
 obtain⟨od,gotd,_,datd⟩:=x
 have own:Builtin.Dict_items.ownsTuple "dict_keyiterator" = false:=by decide
 have none_left:(if (es.size:Int)<0 then none else es[(es.size:Int).toNat]?)=none:=by simp
 have calm:A.in1.handled=none:=hh
 unfold pyNext
 apply wpAny_bind
 apply wpAny_attempt
 apply wpAny_callSpecial?_slot ty F.slot_dict_keyiterator_next
 apply wpAny_call_entry F.slot_dict_keyiterator_next ty F.entry_dict_keyiterator_next (ha:=F.args_dict_keyiterator_next_1 _)
 wp_walk using wpAny_typeNameOfWhole_keyiter ty,wpAny_typeNameOf_keyiter ty,wpAny_fieldsOf goti dati,wpAny_dictEntries gotd datd,wpAny_dictEpoch gotd datd
 rw[none_left]
 wp_walk using wpAny_typeNameOfWhole_keyiter ty,wpAny_typeNameOf_keyiter ty,wpAny_setField goti dati
 ·simp [own]
 ·wp_walk
  unfold raiseNew
  wp_walk using wpAny_isInstance (T:="StopIteration") ⟨_,Heap.get?_push_size _ rfl,rfl⟩ isSubtype_stop
  refine wpAny_of_eq isSubtype_stop ?_
  wp_walk
  exact k _ fun b o ne e=>Heap.get?_push_of_some _ (Heap.get?_push_of_some _ ((Heap.get?_update_other _ _ (Ne.symm ne)).trans e))
theorem raw_walks (hh:A.handled=none) (I:Addr) (hne:d ≠ I) (es:Array DictEntry) (ep:Nat):
  Walks prog w A I [I,d] [I] es.size (fun i v=>∃ e,es[i]? = some e/\v=e.key) (fun i h=>h.IsKeyIter I d i es.size ep/\RawAt h d es ep):=by
 have out:∀ {b:Addr},b ∉ [I]->b ≠ I:=fun h z=>h (List.mem_singleton.mpr z)
 refine⟨fun b hb=>List.mem_cons.mpr (.inl (List.mem_singleton.mp hb)),fun i h h' ⟨a1,a2⟩ hk=>⟨a1.at (hk I List.mem_cons_self),a2.to (hk d (List.mem_cons_of_mem _ List.mem_cons_self))⟩,fun i s Q E hi ⟨a1,a2⟩ q => ?_,fun s Q E ⟨a1,a2⟩ q => ?_,fun i s Q E ⟨a1,_⟩ q=>wpAny_pyIter_keyiter a1 q⟩
 ·exact raw_next a1 a2 hi fun h' b1 b2=>q _ h' s.toks ⟨es[i],Array.getElem?_eq_getElem hi,rfl⟩ ⟨b1,a2.to fun o e=>b2.extBut d o hne e⟩ fun b o hb e=>b2.extBut b o (out hb) e
 ·exact raw_end hh a1 a2 fun h' b1=>q h' s.toks fun b o hb e=>b1 b o (out hb) e
theorem raw_src (nm:(d == sysModules)=false) (es:Array DictEntry) (ep:Nat):KdlSrc prog w "dict" d d es.size (fun i v=>∃ e,es[i]? = some e/\v=e.key) (fun h=>RawAt h d es ep) where
 type:=fun _ x=>x.ty
 there:=fun _ x=>⟨x.lt,x.lt⟩
 keep:=fun _ _ x hk=>x.to fun o e=>hk d (.inl rfl) o e
 notList:=by decide
 notTuple:=by decide
 hint:=fun _ _ _ _ x hq=>kdl_hint_dict x.ty hq
 iter:=fun _ _ hh x=>⟨_,_,(fun _ _ hq=>raw_iter nm x hq),raw_walks hh _ (Nat.ne_of_lt x.lt) es ep,⟨⟨_,Heap.get?_push_size _ rfl,rfl,rfl⟩,x.to fun o e=>Heap.get?_push_of_some _ e⟩⟩
end
noncomputable def KeysAt (H:Hp) (kvs:List (List Key×V)) (bs:List Addr):Prop:=Paired (fun (p:List Key×V) (b:Addr)=>H b=some (.tup (p.1.map kV))) kvs bs
theorem call_listDT {X:Cx} (hc:X.calm=true):CallR X (.type "list") (fun xs H Q=>∃ p kvs,xs=[.ref p]/\Rd H p (.dT kvs)/\∀ bs l,KeysAt H kvs bs->H l=none->Q (.ref l) (upd H l (.lst (bs.map V.ref)))):=by
 intro pins s σ H xs us Q I r h
 obtain⟨p,kvs,rfl,hq,q⟩:=h
 obtain⟨u,rfl,rx⟩:=vals1 r
 cases rx
 obtain⟨z,nm,xs,kt,o,es,ep,h1,h2,h3,h4,h5⟩:=(show ObjOk X.prog X.w H s.heap p (.dT kvs) from rd_of I.hok hq)
 have hes:es.size=xs.length:=by rw[←Array.length_toList,h4,List.length_map]
 have hl:∀ {l:List (List Key×V)} {m:List (List Key×Addr×Value)},KT H l m->l.length=m.length/\KeysAt H l (m.map (·.2.1)):=by
  intro l m q
  induction q with
  | nil=>exact⟨rfl,.nil⟩
  | @cons p q ps qs hq t ih=>exact⟨by simp [ih.1],.cons hq.2.1 ih.2⟩
 obtain⟨l1,l2⟩:=hl kt
 refine kdl_call (raw_src (prog:=X.prog) (w:=X.w) nm es ep) (I.ok.hd hc) ⟨o,h1,h2,h3⟩ (by rw[hes,←l1];exact z) fun h' tk acc' c' hk hS' hacc => ?_
 have hv:Vals ((xs.map (·.2.1)).map V.ref) acc'.toList:=by
  refine vals_of (by simp [hacc.1,hes]) fun k x u e1 e2 => ?_
  obtain⟨e,e3,rfl⟩:=hacc.2 k u (by simpa using e2)
  rw[←Array.getElem?_toList,h4,List.getElem?_map] at e3
  obtain⟨y,e4,rfl⟩:=Option.map_eq_some_iff.mp e3
  rw[List.getElem?_map,List.getElem?_map,e4] at e1
  cases e1
  rfl
 refine⟨.ref _,_,I.laid (t':=tk) hk (Nat.le_refl _) (show ObjOk X.prog X.w _ h' _ (.lst ((xs.map (·.2.1)).map V.ref)) from⟨by simp only[List.length_map];rw[←l1];exact z,acc'.toList,c',hv,hS'⟩),rfl,q _ _ l2 (I.hok.fresh (Nat.le_refl _))⟩
end L4
namespace L4
open PySem L2 PySem.Spec PyProof.Rows
section
variable {K:PySem.W.Frag} {M:Nat->Option Addr} {G0 H0 G H:Hp} {σ:L2.St} {δ:DEnv}
theorem StOk.share (S:StOk K M G0 H0 G H σ δ) {b:Addr} {ks:List Key} (hb:H b=some (.tup (ks.map kV))):∃ G',StOk K M G0 H0 G' H σ δ/\Gr G H σ δ G' H δ/\G' b=some (.tup (ks.map kV)):=by
 cases hg:G b with
 | some o=>
  have:=S.gh _ _ hg
  rw[hb] at this
  exact⟨G,S,Gr.refl ..,by rw[hg,←Option.some.inj this]⟩
 | none=>
  have hs:Same G (upd G b (.tup (ks.map kV))):=fun c u q=>by rw[za2 (za5 q hg)];exact q
  refine⟨upd G b (.tup (ks.map kV)),⟨fun c u q => ?_,⟨S.env.len,fun i s e => ?_,S.env.sep⟩,S.h0,S.g0.trans hs,fun c h n => ?_,S.own0,S.mt⟩,Gr.of (Same.refl _) hs (fun c _ n _ => ?_) fun _ z=>z,za4⟩
  ·by_cases e:c=b
   ·subst e;rw[za4] at q;cases q;exact hb
   ·rw[za2 e] at q;exact S.gh c u q
  ·obtain⟨v,e1,r⟩:=S.env.at' i s e
   refine⟨v,e1,?_⟩
   have key:∀ d,(∃ q,v=.ref q/\G q=none/\OwnAt K G H q d)->∃ q,v=.ref q/\(upd G b (.tup (ks.map kV))) q=none/\OwnAt K (upd G b (.tup (ks.map kV))) H q d:=fun d ⟨q,e2,e3,rr⟩=>by
    obtain⟨o,e4,ho⟩:=rr.isHO
    have ne:q ≠ b:=fun z=>by
     subst z
     rw[hb] at e4
     cases Option.some.inj e4
     exact ho
    exact⟨q,e2,by rw[za2 ne];exact e3,rr.keep rfl hs⟩
   cases s with
   | val d=>exact Rep.mono hs r
   | own d=>exact key d r
   | lnt d=>exact key d r
  ·by_cases e:c=b
   ·subst e;rw[za4];exact .inr ⟨ks,rfl⟩
   ·rw[za2 e];exact S.fr c h n
  ·by_cases e:c=b
   ·subst e;rw[za4];exact .inr ⟨ks,rfl⟩
   ·rw[za2 e];exact .inl n
theorem rep_keys (G:Hp):∀ ks:List Key,RepL K G (ks.map kV) (ks.map keyD)
 | []=>.nil
 | .inl i::ks=>.cons (.int i) (rep_keys G ks)
 | .inr x::ks=>.cons (.str x) (rep_keys G ks)
theorem StOk.shares:∀ {kvs:List (List Key×V)} {bs:List Addr} {G:Hp},StOk K M G0 H0 G H σ δ->KeysAt H kvs bs →
  ∃ G',StOk K M G0 H0 G' H σ δ/\Gr G H σ δ G' H δ/\RepL K G' (bs.map V.ref) (kvs.map fun kv=>D.tup (kv.1.map keyD))
 | [],_,G,S,.nil=>⟨G,S,Gr.refl ..,.nil⟩
 | kv::kvs,_,G,S,.cons h t=>by
  obtain⟨G1,S1,g1,e1⟩:=S.share h
  obtain⟨G2,S2,g2,r2⟩:=StOk.shares S1 t
  have e2:=g2.gg _ _ e1
  exact⟨G2,S2,g1.trans g2,.cons (.tup (SqT.of e2) (fun _=>e2) (rep_keys G2 kv.1)) r2⟩
noncomputable def listDD (d:D):Option Sl:=match d with | .dct ks _=>some (.own (.lst ks)) | _=>none
end
section
variable {X:Cx} {e:Expr} {es:List Expr} {p pos:Pos} {fl:FL}
end
noncomputable def ixDD (d k:D):Option Sl:=match d,k with
 | .dct ks vs,.tup kd=>(match intsOf kd with
  | some n=>if n ≠ [] then (match lookD ks vs n with | some v=>some (.val v) | none=>none) else none
  | none=>none)
 | _,_=>none
section
variable {X:Cx} {o k:Expr} {fd fk:FE} {pos:Pos}
theorem snd_ixDD {td tk:TE} (hd:SndE X td fd) (hk:SndE X tk fk):SndE X (tDGet td tk) (fOp ixDD fd fk):=by
 intro M G0 H0 G H σ δ q δ' Q S e k
 obtain⟨s0,δ0,e0,e⟩:=Rs.inv e
 refine hd.toV M G0 H0 G H σ δ s0 δ0 _ S e0 fun x G1 H1 S1 g1 r1 => ?_
 obtain⟨s2,δ2,e2,e⟩:=Rs.inv e
 refine hk.toV M G0 H0 G1 H1 σ δ0 s2 δ2 _ S1 e2 fun y G2 H2 S2 g2 r2 => ?_
 obtain⟨s3,e3,rfl,rfl⟩:=zcz e
 unfold ixDD at e3
 split at e3
 ·rename_i ks vs kd hd1 hd2
  split at e3
  ·rename_i n hn
   split at e3
   ·rename_i hn0
    split at e3
    ·rename_i v hv
     cases e3
     rw[hd1] at r1
     rw[hd2] at r2
     obtain⟨a,o,rfl,_,g,h1,rr⟩:=look_at S2.gh r2 (Rep.mono g2.gg r1) hn hn0
     rw[hv] at h1 rr
     cases o with
     | none=>cases h1
     | some u=>exact⟨a,u,rfl,g,k _ G2 H2 S2 (g1.trans g2) (.val rr)⟩
    ·cases e3
   ·cases e3
  ·cases e3
 ·cases e3
theorem de_ixDD (hu:X.A.units+1<cLine) (hd:DE X o fd) (hk:DE X k fk) (hs:NoSl k):DE X (.Subscript o k pos) (fOp ixDD fd fk):=
 let ⟨_,a1,a2⟩:=hd;let ⟨_,b1,b2⟩:=hk;⟨_,pe_dget hu a1 b1 hs,snd_ixDD a2 b2⟩
end
end L4
namespace Srt
open PySem PyProof.Rows
section
variable {prog:Program} {w:World} {A:Around} {E:Value->Shared->Prop} {s:Shared}
variable (ky:Keyed->Int)
noncomputable def K (xs:Array Keyed) (i:Nat):Int:=match xs[i]? with | some p=>ky p | none=>0
structure Cmp (prog:Program) (w:World) (A:Around) (E:Value->Shared->Prop) (s:Shared) (ky:Keyed->Int) (κ:SortKind) (a₀:Array Keyed):Prop where
 lt:∀ (x y:Keyed) (st:SortSt) (Q:Option Bool->SortSt->Prop),x ∈a₀.toList->y ∈a₀.toList->kindOf st=κ->Q (some (decide (ky x<ky y))) st->wpS (model prog w) A E s (lt' x y) Q st
 nd:(a₀.toList.map ky).Nodup
structure SB (κ:SortKind) (a₀:Array Keyed) (st:SortSt):Prop where
 perm:(arrOf st).Perm a₀
 ok:failedOf st=none
 kind:kindOf st=κ
variable {ky} {κ:SortKind} {a₀:Array Keyed}
theorem SB.size {st:SortSt} (h:SB κ a₀ st):(arrOf st).size=a₀.size:=h.perm.size_eq
theorem perm_list {xs ys:Array Keyed} (h:xs.Perm ys):xs.toList.Perm ys.toList:=Array.perm_iff_toList_perm.mp h
theorem SB.mem {st:SortSt} (h:SB κ a₀ st) {p:Keyed} (hp:p ∈(arrOf st).toList):p ∈a₀.toList:=(perm_list h.perm).mem_iff.mp hp
theorem K_at {xs:Array Keyed} {i:Nat} (h:i<xs.size):K ky xs i=ky xs[i]:=by unfold K;rw[Array.getElem?_eq_getElem h]
theorem K_congr {xs ys:Array Keyed} {i j:Nat} (h:xs[i]? = ys[j]?):K ky xs i=K ky ys j:=by unfold K;rw[h]
theorem K_inj (C:Cmp prog w A E s ky κ a₀) {xs:Array Keyed} (hp:xs.Perm a₀) {i j:Nat} (hi:i<xs.size) (hj:j<xs.size) (e:K ky xs i=K ky xs j):i=j:=by
 have nd:(xs.toList.map ky).Nodup:=((perm_list hp).map ky).nodup_iff.mpr C.nd
 rw[K_at hi,K_at hj] at e
 have h1:i<(xs.toList.map ky).length:=by simpa using hi
 have h2:j<(xs.toList.map ky).length:=by simpa using hj
 rcases Nat.lt_trichotomy i j with h | h | h
 ·exact absurd (by simpa using e) (List.pairwise_iff_getElem.mp nd i j h1 h2 h)
 ·exact h
 ·exact absurd (by simpa using e.symm) (List.pairwise_iff_getElem.mp nd j i h2 h1 h)
theorem lt_at (C:Cmp prog w A E s ky κ a₀) {st:SortSt} (B:SB κ a₀ st) {i j:Nat} {Q:Option Bool->SortSt->Prop} (hi:i<a₀.size) (hj:j<a₀.size) (h:Q (some (decide (K ky (arrOf st) i<K ky (arrOf st) j))) st):
  wpS (model prog w) A E s (ltAt' i j) Q st:=by
 have hi':i<(arrOf st).size:=by rw[B.size];exact hi
 have hj':j<(arrOf st).size:=by rw[B.size];exact hj
 have x:elem' (arrOf st) i=pure (arrOf st)[i]:=by rw[elem'_eq,Array.getElem?_eq_getElem hi']
 have y:elem' (arrOf st) j=pure (arrOf st)[j]:=by rw[elem'_eq,Array.getElem?_eq_getElem hj']
 rw[K_at hi',K_at hj'] at h
 rw[ltAt'_eq]
 apply wpS_bind
 apply wpS_get
 show wpS _ _ _ _ (elem' (arrOf st) i >>= fun a=>elem' (arrOf st) j >>= fun b=>lt' a b) Q st
 rw[x,y]
 apply wpS_bind
 apply wpS_pure
 apply wpS_bind
 apply wpS_pure
 exact C.lt _ _ st Q (B.mem (by simp)) (B.mem (by simp)) B.kind h
noncomputable def Srtd (ky:Keyed->Int) (xs:Array Keyed) (lo hi:Nat):Prop:=∀ i j,lo<=i->i<j->j<hi->K ky xs i<K ky xs j
noncomputable def Same (xs ys:Array Keyed) (lo hi:Nat):Prop:=∀ i,i<lo\/hi<=i->ys[i]? = xs[i]?
theorem Same.refl (xs:Array Keyed) (lo hi:Nat):Same xs xs lo hi:=fun _ _=>rfl
theorem Same.wide {a b:Array Keyed} {lo hi lo' hi':Nat} (h:Same a b lo hi) (h1:lo'<=lo) (h2:hi<=hi'):Same a b lo' hi':=fun i q=>h i (by lia)
theorem Same.K {a b:Array Keyed} {lo hi i:Nat} (h:Same a b lo hi) (q:i<lo\/hi<=i):K ky b i=K ky a i:=K_congr (h i q)
theorem Srtd.keep {a b:Array Keyed} {lo hi l h:Nat} (q:Srtd ky a l h) (sm:Same a b lo hi) (d:h<=lo\/hi<=l):Srtd ky b l h:=fun i j h1 h2 h3=>by
 rw[sm.K (by lia),sm.K (by lia)];exact q i j h1 h2 h3
theorem SB.arr {st:SortSt} (B:SB κ a₀ st) {xs:Array Keyed} (hp:xs.Perm (arrOf st)):SB κ a₀ (setArr st xs):=⟨hp.trans B.perm,B.ok,B.kind⟩
theorem K_bub {xs:Array Keyed} {src d:Nat} (hs:src<xs.size) (hd:d<=src) (k:Nat):
  K ky (bubble xs src d) k=if k=src - d then K ky xs src else if src - d<k/\k<=src then K ky xs (k - 1) else K ky xs k:=by
 rcases Classical.em (k=src - d) with a | a
 ·simp only[K,getElem?_bubble hs d hd k,if_pos a]
 ·rcases Classical.em (src - d<k/\k<=src) with b | b
  ·simp only[K,getElem?_bubble hs d hd k,if_neg a,if_pos b]
  ·simp only[K,getElem?_bubble hs d hd k,if_neg a,if_neg b]
structure Spot (ky:Keyed->Int) (xs:Array Keyed) (lo k l r:Nat):Prop where
 le:l<=r
 in_:r<=k
 less:∀ i,i<l->K ky xs (lo+i)<K ky xs (lo+k)
 more:∀ i,r<=i->i<k->K ky xs (lo+k)<K ky xs (lo+i)
theorem Spot.left {xs:Array Keyed} {lo k l r m:Nat} (p:Spot ky xs lo k l r) (q:Srtd ky xs lo (lo+k)) (lm:l<=m) (mr:m<r) (c:K ky xs (lo+k)<K ky xs (lo+m)):Spot ky xs lo k l m:=by
 refine⟨lm,Nat.le_trans (Nat.le_of_lt mr) p.in_,p.less,fun i a b => ?_⟩
 rcases Nat.lt_or_eq_of_le a with a | rfl
 ·exact Int.lt_trans c (q _ _ (Nat.le_add_right ..) (by lia) (by lia))
 ·exact c
theorem Spot.right {xs:Array Keyed} {lo k l r m:Nat} (p:Spot ky xs lo k l r) (q:Srtd ky xs lo (lo+k)) (lm:l<=m) (mr:m<r) (c:K ky xs (lo+m)<K ky xs (lo+k)):Spot ky xs lo k (m+1) r:=by
 refine⟨mr,p.in_,fun i a => ?_,p.more⟩
 rcases Nat.lt_or_eq_of_le (Nat.le_of_lt_succ a) with a | rfl
 ·have:=p.in_
  exact Int.lt_trans (q _ _ (Nat.le_add_right ..) (by lia) (by lia)) c
 ·exact c
theorem Spot.put {xs:Array Keyed} {lo k l:Nat} (p:Spot ky xs lo k l l) (q:Srtd ky xs lo (lo+k)) (b:lo+k<xs.size):Srtd ky (bubble xs (lo+k) (k - l)) lo (lo+(k+1)):=by
 have lk:=p.in_
 have from_:∀ i,K ky (bubble xs (lo+k) (k - l)) i=if i=lo+l then K ky xs (lo+k) else if lo+l<i/\i<=lo+k then K ky xs (i - 1) else K ky xs i:=fun i=>by
  rw[K_bub b (by lia),show lo+k - (k - l)=lo+l by lia]
 have less:∀ i,lo<=i->i<lo+l->K ky xs i<K ky xs (lo+k):=fun i a c=>by
  have:=p.less (i - lo) (by lia)
  rwa [show lo+(i - lo)=i by lia] at this
 have more:∀ i,lo+l<=i->i<lo+k->K ky xs (lo+k)<K ky xs i:=fun i a c=>by
  have:=p.more (i - lo) (by lia) (by lia)
  rwa [show lo+(i - lo)=i by lia] at this
 intro i j a c d
 rw[from_ i,from_ j]
 rcases Nat.lt_trichotomy j (lo+l) with x | x | x
 ·rw[if_neg (by lia),if_neg (by lia),if_neg (by lia),if_neg (by lia)]
  exact q i j a c (by lia)
 ·rw[if_neg (by lia),if_neg (by lia),if_pos x]
  exact less i a (by lia)
 ·have jj:(if j=lo+l then K ky xs (lo+k) else if lo+l<j/\j<=lo+k then K ky xs (j - 1) else K ky xs j)=K ky xs (j - 1):=by rw[if_neg (by lia),if_pos (by lia)]
  rw[jj]
  rcases Nat.lt_trichotomy i (lo+l) with y | y | y
  ·rw[if_neg (by lia),if_neg (by lia)]
   exact q i (j - 1) a (by lia) (by lia)
  ·rw[if_pos y]
   exact more (j - 1) (by lia) (by lia)
  ·rw[if_neg (by lia),if_pos (by lia)]
   exact q (i - 1) (j - 1) (by lia) (by lia) (by lia)
theorem spot_loop (C:Cmp prog w A E s ky κ a₀) {st:SortSt} (B:SB κ a₀ st) {lo k:Nat} (b:lo+k<a₀.size) (q:Srtd ky (arrOf st) lo (lo+k)) {go:Nat->Option Bool×Nat×Nat->StateT SortSt Sem (ForInStep (Option Bool×Nat×Nat))} {Q:Option Bool×Nat×Nat->SortSt->Prop}
  (halve:∀ x l r {R:ForInStep (Option Bool×Nat×Nat)->SortSt->Prop},(r<=l->R (.done (none,l,r)) st)->(l<r->wpS (model prog w) A E s (ltAt' (lo+k) (lo+(l+r) / 2)) (fun a st'=>R (match a with | some true=>.yield (none,l,(l+r) / 2) | some false=>.yield (none,(l+r) / 2+1,r) | none=>.done (some false,l,r)) st') st)->wpS (model prog w) A E s (go x (none,l,r)) R st)
  (fin:∀ l,Spot ky (arrOf st) lo k l l->Q (none,l,l) st):wpS (model prog w) A E s (forIn [0:k] (none,0,k) go) Q st:=by
 refine wpS_forRange (I:=fun x c t=>t=st/\∃ l r,c=(none,l,r)/\Spot ky (arrOf st) lo k l r/\r+x<=k+l) ?_ ?_ ⟨rfl,0,k,rfl,⟨Nat.zero_le _,Nat.le_refl _,fun i l=>absurd l (Nat.not_lt_zero _),fun i a c=>absurd a (by lia)⟩,by lia⟩
 ·rintro x c t _ xk ⟨rfl,l,r,rfl,p,f⟩
  have lr:=p.le
  have rk:=p.in_
  apply halve
  ·intro le
   have:l=r:=by lia
   subst this
   exact fin l p
  ·intro lt
   have ml:l<=(l+r) / 2:=by lia
   have mr:(l+r) / 2<r:=by lia
   apply lt_at C B b (by lia)
   by_cases c:K ky (arrOf t) (lo+k)<K ky (arrOf t) (lo+(l+r) / 2)
   ·rw[decide_eq_true c]
    exact⟨rfl,l,_,rfl,p.left q ml mr c,by lia⟩
   ·rw[decide_eq_false c]
    have ne:K ky (arrOf t) (lo+k) ≠ K ky (arrOf t) (lo+(l+r) / 2):=fun e=>by
     have:=K_inj C B.perm (by rw[B.size];lia) (by rw[B.size];lia) e
     lia
    exact⟨rfl,_,r,rfl,p.right q ml mr (by lia),by lia⟩
 ·rintro c t ⟨rfl,l,r,rfl,p,f⟩
  have:=p.le
  have:l=r:=by lia
  subst this
  exact fin l p
theorem bin_sort (C:Cmp prog w A E s ky κ a₀) {st:SortSt} {lo n ok:Nat} {Q:Bool->SortSt->Prop} (hn:lo+n<=a₀.size) (hok:ok<=n) (B:SB κ a₀ st) (hs:Srtd ky (arrOf st) lo (lo+ok))
  (h:∀ st',SB κ a₀ st'->pendingOf st'=pendingOf st->Same (arrOf st) (arrOf st') lo (lo+n)->Srtd ky (arrOf st') lo (lo+n)->Q true st'):wpS (model prog w) A E s (binarySort' lo n ok) Q st:=by
 rw[binarySort'_eq]
 apply wpS_bind
 refine wpS_forRange (I:=fun k c t=>c=(none,())/\SB κ a₀ t/\pendingOf t=pendingOf st/\Same (arrOf st) (arrOf t) lo (lo+n)/\Srtd ky (arrOf t) lo (lo+min k n)) ?_ ?_ ⟨rfl,B,rfl,Same.refl _ _ _,fun i j a b c=>hs i j a b (by lia)⟩
 ·rintro k c t lk kn ⟨rfl,B1,pd,sm,q⟩
  rw[Nat.min_eq_left (Nat.le_of_lt kn)] at q
  apply wpS_bind
  refine spot_loop C B1 (b:=by lia) q (fun x l r R done on => ?_) fun l p => ?_
  ·dsimp only
   by_cases c:r<=l
   ·rw[if_pos c]
    exact wpS_pure (done c)
   ·rw[if_neg c]
    apply wpS_bind
    refine wpS_mono (on (Nat.not_le.mp c)) ?_
    rintro (_ | _ | _) t' rr
    all_goals exact wpS_pure rr
  ·dsimp only
   rw[moveDown'_eq]
   have lk:=p.in_
   have sz:lo+k<(arrOf t).size:=by rw[B1.size];lia
   refine wpS_bind (wpS_modify (wpS_pure ⟨rfl,B1.arr (bubble_perm ..),pd,fun i o => ?_,?_⟩))
   ·show (bubble (arrOf t) (lo+k) (lo+k - (lo+l)))[i]? = _
    rw[getElem?_bubble sz _ (by lia),if_neg (by lia),if_neg (by lia)]
    exact sm i o
   ·show Srtd ky (bubble (arrOf t) (lo+k) (lo+k - (lo+l))) lo (lo+min (k+1) n)
    rw[show lo+k - (lo+l)=k - l by lia,Nat.min_eq_left kn]
    exact p.put q sz
 ·rintro c t ⟨rfl,B1,pd,sm,q⟩
  rw[show min (max (max ok 1) n) n=n by lia] at q
  exact wpS_pure (h t B1 pd sm q)
end
end Srt
namespace Srt
open PySem PyProof.Rows
section
variable {prog:Program} {w:World} {A:Around} {E:Value->Shared->Prop} {s:Shared}
variable {ky:Keyed->Int} {κ:SortKind} {a₀:Array Keyed}
theorem rule_S {σ:Type} {x:String} {Q:Unit->σ->Prop} {st:σ} {M:Model} (h:Q () st):wpS M A E s (liftM (rule x:Sem Unit):StateT σ Sem Unit) Q st:=wpS_lift (wpAny_rule ⟨rfl,h⟩)
theorem K_mir {xs:Array Keyed} {i j:Nat} (hj:j<=xs.size) (k:Nat):K ky (mirror xs i j ((j - i) / 2)) k=if i<=k/\k<j then K ky xs (i+j - 1 - k) else K ky xs k:=by
 rcases Classical.em (i<=k/\k<j) with a | a
 ·simp only[K,getElem?_mirror_all hj k,if_pos a]
 ·simp only[K,getElem?_mirror_all hj k,if_neg a]
theorem K_ne (C:Cmp prog w A E s ky κ a₀) {st:SortSt} (B:SB κ a₀ st) {i j:Nat} (hi:i<a₀.size) (hj:j<a₀.size) (hne:i ≠ j):K ky (arrOf st) i ≠ K ky (arrOf st) j:=fun e=>
 hne (K_inj C B.perm (by rw[B.size];exact hi) (by rw[B.size];exact hj) e)
theorem up_loop (C : Cmp prog w A E s ky κ a₀) {st : SortSt} {lo n nrem : Nat} {Q : Option (Option Nat) × Nat → SortSt → Prop} (hn : lo + nrem ≤ a₀.size) (h1 : 1 ≤ n) (h2 : n ≤ nrem) (B : SB κ a₀ st) (hs : Srtd ky (arrOf st) lo (lo + n))
    (h : ∀ m, n ≤ m → m ≤ nrem → Srtd ky (arrOf st) lo (lo + m) → (m < nrem → K ky (arrOf st) (lo + m) < K ky (arrOf st) (lo + m - 1)) → Q (none, m) st) :
    wpS (model prog w) A E s (forIn [n:nrem] ((none : Option (Option Nat)), n) fun _ r => (do
      let __x ← ltAt' (lo + r.2) (lo + r.2 - 1)
      match __x with
      | some smaller => if smaller = true then pure (ForInStep.done (none, r.2)) else pure (ForInStep.yield (none, r.2 + 1))
      | x => pure (ForInStep.done (some none, r.2)))) Q st := by
  refine wpS_forRange (I := fun x c st' => st' = st ∧ c = (none, x) ∧ Srtd ky (arrOf st) lo (lo + x)) ?step ?fin ⟨rfl, rfl, hs⟩
  case fin =>
    rintro c st' ⟨rfl, rfl, q⟩
    rw [show max n nrem = nrem by lia] at q ⊢
    exact h nrem h2 (Nat.le_refl _) q (fun z => absurd z (Nat.lt_irrefl _))
  case step =>
    rintro x c st' hx1 hx2 ⟨rfl, rfl, q⟩
    refine wpS_bind (lt_at C B (by lia) (by lia) ?_)
    dsimp only
    by_cases hl : K ky (arrOf st') (lo + x) < K ky (arrOf st') (lo + x - 1)
    · rw [decide_eq_true hl, if_pos rfl]
      exact wpS_pure (h x hx1 (by lia) q fun _ => hl)
    · rw [decide_eq_false hl, if_neg Bool.false_ne_true]
      have hne := K_ne C B (i := lo + x) (j := lo + x - 1) (by lia) (by lia) (by lia)
      refine wpS_pure ⟨rfl, rfl, fun i j i1 i2 i3 => ?_⟩
      by_cases hj : j = lo + x
      · subst hj
        by_cases hi : i = lo + x - 1
        · rw [hi]; lia
        · have := q i (lo + x - 1) i1 (by lia) (by lia)
          lia
      · exact q i j i1 i2 (by lia)
theorem cnt_run (C:Cmp prog w A E s ky κ a₀) {st:SortSt} {lo nrem:Nat} {Q:Option Nat->SortSt->Prop} (hn:lo+nrem<=a₀.size) (h1:1<=nrem) (B:SB κ a₀ st)
  (h:∀ n st',1<=n->n<=nrem->SB κ a₀ st'->pendingOf st'=pendingOf st->Same (arrOf st) (arrOf st') lo (lo+nrem)->Srtd ky (arrOf st') lo (lo+n)->Q (some n) st'):wpS (model prog w) A E s (countRun' lo nrem) Q st:=by
 rw[countRun'_eq]
 refine wpS_bind (up_loop C hn (Nat.le_refl 1) h1 B (fun i j i1 i2 i3=>by lia) fun n n1 n2 q lt => ?_)
 dsimp only
 by_cases e1:n=nrem
 ·rw[if_pos (by rw[e1];exact beq_self_eq_true _)]
  exact wpS_pure (h n st n1 n2 B rfl (Same.refl _ _ _) q)
 ·rw[if_neg (by rw[beq_iff_eq];exact e1)]
  by_cases e2:n > 1
  ·rw[if_pos e2]
   refine wpS_bind (lt_at C B (by lia) (by lia) ?_)
   dsimp only
   have:=q lo (lo+n - 1) (Nat.le_refl _) (by lia) (by lia)
   rw[decide_eq_true this,if_pos rfl]
   exact wpS_pure (h n st n1 n2 B rfl (Same.refl _ _ _) q)
  ·rw[if_neg e2]
   have e3:n=1:=by lia
   subst e3
   refine wpS_bind (rule_S ?_)
   refine wpS_bind (wpS_mono (wpS_forRange (I:=fun x c st'=>st'=st/\c=(none,x,0)/\∀ i j,lo<=i->i<j->j<lo+x->K ky (arrOf st) j<K ky (arrOf st) i)
    (Q:=fun c st'=>st'=st/\∃ m,c=(none,m,0)/\2<=m/\m<=nrem/\∀ i j,lo<=i->i<j->j<lo+m->K ky (arrOf st) j<K ky (arrOf st) i) ?step ?fin ?init) ?post)
   case init=>
    refine⟨rfl,rfl,fun i j i1 i2 i3 => ?_⟩
    have a1:i=lo+1 - 1:=by lia
    have a2:j=lo+1:=by lia
    rw[a1,a2]
    exact lt (by lia)
   case fin=>
    rintro c st' ⟨rfl,rfl,g⟩
    rw[show max (1+1) nrem=nrem by lia] at g ⊢
    exact⟨rfl,nrem,rfl,by lia,Nat.le_refl _,g⟩
   case step=>
    rintro x c st' x1 x2 ⟨rfl,rfl,g⟩
    dsimp only
    refine wpS_bind (lt_at C B (by lia) (by lia) ?_)
    dsimp only
    by_cases hl:K ky (arrOf st') (lo+x)<K ky (arrOf st') (lo+x - 1)
    ·rw[decide_eq_true hl,if_pos rfl,if_neg (by lia)]
     refine wpS_pure ⟨rfl,rfl,fun i j i1 i2 i3 => ?_⟩
     by_cases hj:j=lo+x
     ·subst hj
      by_cases hi:i=lo+x - 1
      ·rw[hi];exact hl
      ·have:=g i (lo+x - 1) i1 (by lia) (by lia)
       lia
     ·exact g i j i1 i2 (by lia)
    ·rw[decide_eq_false hl,if_neg Bool.false_ne_true]
     have hne:=K_ne C B (i:=lo+x) (j:=lo+x - 1) (by lia) (by lia) (by lia)
     refine wpS_bind (lt_at C B (by lia) (by lia) ?_)
     dsimp only
     rw[decide_eq_true (show K ky (arrOf st') (lo+x - 1)<K ky (arrOf st') (lo+x) by lia),if_pos rfl]
     exact wpS_pure ⟨rfl,x,rfl,by lia,by lia,g⟩
   case post=>
    rintro c st' ⟨rfl,m,rfl,m1,m2,g⟩
    dsimp only
    rw[if_neg (by lia),reverseSlice'_eq]
    refine wpS_bind (wpS_modify ?_)
    have B2:SB κ a₀ (setArr st' (mirror (arrOf st') lo (lo+m) ((lo+m - lo) / 2))):=B.arr (mirror_perm ..)
    have sz:lo+m<=(arrOf st').size:=by rw[B.size];lia
    have sm:Same (arrOf st') (mirror (arrOf st') lo (lo+m) ((lo+m - lo) / 2)) lo (lo+nrem):=fun i hi=>by
     rw[getElem?_mirror_all sz,if_neg (by lia)]
    refine wpS_bind (up_loop C hn (by lia) m2 B2 (fun i j i1 i2 i3 => ?_) fun n n1 n2 q _ => ?_)
    ·show K ky (mirror (arrOf st') lo (lo+m) ((lo+m - lo) / 2)) i<K ky (mirror (arrOf st') lo (lo+m) ((lo+m - lo) / 2)) j
     rw[K_mir sz,K_mir sz,if_pos (by lia),if_pos (by lia)]
     exact g _ _ (by lia) (by lia) (by lia)
    ·dsimp only
     exact wpS_pure (h n _ (by lia) n2 B2 rfl sm q)
end
end Srt
namespace Srt
open PySem PyProof.Rows
noncomputable def gallop':Bool->Keyed->Array Keyed->Nat->Nat->Nat->StateT SortSt Sem (Option Nat):=sortPriv% PySem.Builtin.gallop
noncomputable def bey (left : Bool) (key : Keyed) (arr : Array Keyed) (i : Nat) : StateT SortSt Sem (Option Bool) := do
  let x ← elem' arr i; if left then lt' x key else return (← lt' key x).map (!·)
theorem gallop'_eq (left : Bool) (key : Keyed) (arr : Array Keyed) (base n hint : Nat) : gallop' left key arr base n hint = (do
  let mut p := 0; let mut o := 1; let mut l := 0; let mut h := 0
  let some rt ← bey left key arr (base + hint) | return none
  if rt then
    let mx := n - hint
    for _ in [0:n] do
      if o ≥ mx then break
      let some mo ← bey left key arr (base + (hint + o)) | return none
      if !mo then break
      p := o; o := 2 * o + 1
    l := hint + p + 1; h := hint + min o mx
  else
    let mx := hint + 1
    for _ in [0:n] do
      if o ≥ mx then break
      let some fo ← bey left key arr (base + (hint - o)) | return none
      if fo then break
      p := o; o := 2 * o + 1
    l := hint + 1 - min o mx; h := hint - p
  for _ in [0:n] do
    if l ≥ h then break
    let m := l + (h - l) / 2
    let some mo ← bey left key arr (base + m) | return none
    if mo then l := m + 1 else h := m
  return some h) := rfl
section
variable {prog:Program} {w:World} {A:Around} {E:Value->Shared->Prop} {s:Shared}
variable {ky:Keyed->Int} {κ:SortKind} {a₀:Array Keyed}
theorem gal_bin {f : Nat → Bool} {left : Bool} {key : Keyed} {arr : Array Keyed} {base n l h : Nat} {st : SortSt} {Q : Option (Option Nat) × Nat × Nat → SortSt → Prop} (hb : ∀ i, i < n → ∀ Q : Option Bool → SortSt → Prop, Q (some (f i)) st → wpS (model prog w) A E s (bey left key arr (base + i)) Q st)
    (mono : ∀ i j, i < j → j < n → f j = true → f i = true) (h1 : l ≤ h) (h2 : h ≤ n) (hl : ∀ i, i < l → f i = true) (hh : ∀ i, h ≤ i → i < n → f i = false) (k : ∀ l h, h ≤ n → (∀ i, i < h → f i = true) → (∀ i, h ≤ i → i < n → f i = false) → Q (none, l, h) st) :
    wpS (model prog w) A E s (forIn [:n] ((none : Option (Option Nat)), l, h) fun _ r =>
      if r.2.1 ≥ r.2.2 then pure (ForInStep.done (none, r.2.1, r.2.2)) else do
        let __x ← bey left key arr (base + (r.2.1 + (r.2.2 - r.2.1) / 2))
        match __x with
        | some mo => if mo = true then pure (ForInStep.yield (none, r.2.1 + (r.2.2 - r.2.1) / 2 + 1, r.2.2)) else pure (ForInStep.yield (none, r.2.1, r.2.1 + (r.2.2 - r.2.1) / 2))
        | x => pure (ForInStep.done (some none, r.2.1, r.2.2))) Q st := by
  refine wpS_forRange (I := fun x c st' => st' = st ∧ ∃ l h, c = (none, l, h) ∧ l ≤ h ∧ h ≤ n ∧ h - l ≤ n - x ∧ (∀ i, i < l → f i = true) ∧ ∀ i, h ≤ i → i < n → f i = false) ?step ?fin ⟨rfl, l, h, rfl, h1, h2, by lia, hl, hh⟩
  case fin =>
    rintro c st' ⟨rfl, l, h, rfl, a1, a2, a3, a4, a5⟩
    have : l = h := by lia
    subst this
    exact k l l a2 a4 a5
  case step =>
    rintro x c st' _ hx ⟨rfl, l, h, rfl, a1, a2, a3, a4, a5⟩
    dsimp only
    by_cases g : l ≥ h
    · rw [if_pos g]
      have : l = h := by lia
      subst this
      exact wpS_pure (k l l a2 a4 a5)
    · rw [if_neg g]
      refine wpS_bind (hb _ (by lia) _ ?_)
      dsimp only
      cases hf : f (l + (h - l) / 2) with
      | true =>
        rw [if_pos rfl]
        refine wpS_pure ⟨rfl, _, _, rfl, by lia, a2, by lia, fun i hi => ?_, a5⟩
        by_cases q : i = l + (h - l) / 2
        · rw [q]; exact hf
        · exact mono i (l + (h - l) / 2) (by lia) (by lia) hf
      | false =>
        rw [if_neg Bool.false_ne_true]
        refine wpS_pure ⟨rfl, _, _, rfl, by lia, by lia, by lia, a4, fun i i1 i2 => ?_⟩
        by_cases q : i = l + (h - l) / 2
        · rw [q]; exact hf
        · cases hfi : f i with
          | false => rfl
          | true => rw [mono (l + (h - l) / 2) i (by lia) i2 hfi] at hf; cases hf
theorem gal {f:Nat->Bool} {left:Bool} {key:Keyed} {arr:Array Keyed} {base n hint:Nat} {Q:Option Nat->SortSt->Prop} {st:SortSt} (hn:hint<n) (hb:∀ i,i<n->∀ Q:Option Bool->SortSt->Prop,Q (some (f i)) st->wpS (model prog w) A E s (bey left key arr (base+i)) Q st)
  (mono:∀ i j,i<j->j<n->f j=true->f i=true) (k:∀ m,m<=n->(∀ i,i<m->f i=true)->(∀ i,m<=i->i<n->f i=false)->Q (some m) st):wpS (model prog w) A E s (gallop' left key arr base n hint) Q st:=by
 have le:∀ i j,i<=j->j<n->f j=true->f i=true:=fun i j a b c=>by
  by_cases q:i=j
  ·rw[q];exact c
  ·exact mono i j (by omega) b c
 have ge:∀ i j,i<=j->j<n->f i=false->f j=false:=fun i j a b c=>by
  cases q:f j with
  | false=>rfl
  | true=>rw[le i j a b q] at c;cases c
 rw[gallop'_eq]
 dsimp only
 refine wpS_bind (hb hint hn _ ?_)
 dsimp only
 cases hr:f hint with
 | true=>
  rw[if_pos rfl]
  refine wpS_bind (wpS_mono (wpS_forRange (I:=fun x c st'=>st'=st/\∃ p o,c=(none,p,o)/\p<o/\hint+p<n/\f (hint+p)=true/\x+1<=o)
   (Q:=fun c st'=>st'=st/\∃ p o,c=(none,p,o)/\p<o/\hint+p<n/\f (hint+p)=true/\(n - hint<=o\/(hint+o<n/\f (hint+o)=false))) ?step ?fin ?init) ?post)
  case init=>exact⟨rfl,0,1,rfl,by omega,by omega,hr,by omega⟩
  case fin=>
   rintro c st' ⟨rfl,p,o,rfl,a1,a2,a3,a4⟩
   exact⟨rfl,p,o,rfl,a1,a2,a3,.inl (by omega)⟩
  case step=>
   rintro x c st' _ hx ⟨rfl,p,o,rfl,a1,a2,a3,a4⟩
   dsimp only
   by_cases g:o ≥ n - hint
   ·rw[if_pos g];exact wpS_pure ⟨rfl,p,o,rfl,a1,a2,a3,.inl g⟩
   ·rw[if_neg g]
    refine wpS_bind (hb _ (by omega) _ ?_)
    dsimp only
    cases hf:f (hint+o) with
    | true=>rw[if_neg (by decide)];exact wpS_pure ⟨rfl,_,_,rfl,by omega,by omega,hf,by omega⟩
    | false=>rw[if_pos (by decide)];exact wpS_pure ⟨rfl,p,o,rfl,a1,a2,a3,.inr ⟨by omega,hf⟩⟩
  case post=>
   rintro c st' ⟨rfl,p,o,rfl,a1,a2,a3,a4⟩
   dsimp only
   refine wpS_bind (gal_bin hb mono (by omega) (by omega) (fun i hi=>le i (hint+p) (by omega) a2 a3) (fun i i1 i2 => ?_) fun l h q1 q2 q3 => ?_)
   ·rcases a4 with a4 | ⟨a4,a5⟩
    ·omega
    ·exact ge (hint+o) i (by omega) i2 a5
   ·dsimp only
    exact wpS_pure (k h q1 q2 q3)
 | false=>
  rw[if_neg Bool.false_ne_true]
  refine wpS_bind (wpS_mono (wpS_forRange (I:=fun x c st'=>st'=st/\∃ p o,c=(none,p,o)/\p<o/\p<=hint/\f (hint - p)=false/\x+1<=o)
   (Q:=fun c st'=>st'=st/\∃ p o,c=(none,p,o)/\p<o/\p<=hint/\f (hint - p)=false/\(hint+1<=o\/(o<=hint/\f (hint - o)=true))) ?step2 ?fin2 ?init2) ?post2)
  case init2=>exact⟨rfl,0,1,rfl,by omega,by omega,hr,by omega⟩
  case fin2=>
   rintro c st' ⟨rfl,p,o,rfl,a1,a2,a3,a4⟩
   exact⟨rfl,p,o,rfl,a1,a2,a3,.inl (by omega)⟩
  case step2=>
   rintro x c st' _ hx ⟨rfl,p,o,rfl,a1,a2,a3,a4⟩
   dsimp only
   by_cases g:o ≥ hint+1
   ·rw[if_pos g];exact wpS_pure ⟨rfl,p,o,rfl,a1,a2,a3,.inl g⟩
   ·rw[if_neg g]
    refine wpS_bind (hb _ (by omega) _ ?_)
    dsimp only
    cases hf:f (hint - o) with
    | true=>rw[if_pos rfl];exact wpS_pure ⟨rfl,p,o,rfl,a1,a2,a3,.inr ⟨by omega,hf⟩⟩
    | false=>rw[if_neg Bool.false_ne_true];exact wpS_pure ⟨rfl,_,_,rfl,by omega,by omega,hf,by omega⟩
  case post2=>
   rintro c st' ⟨rfl,p,o,rfl,a1,a2,a3,a4⟩
   dsimp only
   refine wpS_bind (gal_bin hb mono (by omega) (by omega) (fun i hi => ?_) (fun i i1 i2=>ge (hint - p) i (by omega) i2 a3) fun l h q1 q2 q3 => ?_)
   ·rcases a4 with a4 | ⟨a4,a5⟩
    ·omega
    ·exact le i (hint - o) (by omega) (by omega) a5
   ·dsimp only
    exact wpS_pure (k h q1 q2 q3)
end
end Srt
namespace Srt
open PySem PyProof.Rows
section
variable {ky:Keyed->Int} {la lb lo:List Keyed} {i j k:Nat}
abbrev Asc (ky:Keyed->Int) (l:List Keyed):Prop:=l.Pairwise fun p q=>ky p<ky q
structure MI (ky:Keyed->Int) (la lb lo:List Keyed) (i j:Nat):Prop where
 perm:lo.Perm (la.take i++lb.take j)
 srt:Asc ky lo
 ra:∀ p ∈lo,∀ q ∈la.drop i,ky p<ky q
 rb:∀ p ∈lo,∀ q ∈lb.drop j,ky p<ky q
structure Mrg (ky:Keyed->Int) (la lb r:List Keyed):Prop where
 perm:r.Perm (la++lb)
 srt:Asc ky r
theorem asc_td {l:List Keyed} (h:Asc ky l) (i k:Nat):∀ p ∈(l.drop i).take k,∀ q ∈l.drop (i+k),ky p<ky q:=fun p hp q hq=>by
 have h1:Asc ky (l.drop i):=h.sublist (List.drop_sublist _ _)
 have e:l.drop i=(l.drop i).take k++(l.drop i).drop k:=(List.take_append_drop _ _).symm
 rw[List.drop_drop] at e
 rw[e] at h1
 exact (List.pairwise_append.mp h1).2.2 p hp q hq
theorem mem_drop_le {l:List Keyed} {i m:Nat} {q:Keyed} (h:q ∈l.drop (i+m)):q ∈l.drop i:=by
 rw[←List.drop_drop] at h
 exact List.mem_of_mem_drop h
theorem MI.addA (M:MI ky la lb lo i j) (hs:Asc ky la) (k:Nat) (hlt:∀ p ∈(la.drop i).take k,∀ q ∈lb.drop j,ky p<ky q):MI ky la lb (lo++(la.drop i).take k) (i+k) j:=by
 refine⟨?_,?_,fun p hp q hq => ?_,fun p hp q hq => ?_⟩
 ·rw[List.take_add,List.append_assoc]
  refine (M.perm.append_right _).trans ?_
  rw[List.append_assoc]
  exact (List.perm_append_comm).append_left _
 ·refine List.pairwise_append.mpr ⟨M.srt,(hs.sublist (List.drop_sublist _ _)).sublist (List.take_sublist _ _),fun p hp q hq=>M.ra p hp q (List.mem_of_mem_take hq)⟩
 ·rcases List.mem_append.mp hp with hp | hp
  ·exact M.ra p hp q (mem_drop_le hq)
  ·exact asc_td hs i k p hp q hq
 ·rcases List.mem_append.mp hp with hp | hp
  ·exact M.rb p hp q hq
  ·exact hlt p hp q hq
theorem MI.addB (M:MI ky la lb lo i j) (hs:Asc ky lb) (k:Nat) (hlt:∀ p ∈(lb.drop j).take k,∀ q ∈la.drop i,ky p<ky q):MI ky la lb (lo++(lb.drop j).take k) i (j+k):=by
 refine⟨?_,?_,fun p hp q hq => ?_,fun p hp q hq => ?_⟩
 ·rw[List.take_add,←List.append_assoc]
  exact M.perm.append_right _
 ·refine List.pairwise_append.mpr ⟨M.srt,(hs.sublist (List.drop_sublist _ _)).sublist (List.take_sublist _ _),fun p hp q hq=>M.rb p hp q (List.mem_of_mem_take hq)⟩
 ·rcases List.mem_append.mp hp with hp | hp
  ·exact M.ra p hp q hq
  ·exact hlt p hp q hq
 ·rcases List.mem_append.mp hp with hp | hp
  ·exact M.rb p hp q (mem_drop_le hq)
  ·exact asc_td hs j k p hp q hq
theorem MI.endB (M:MI ky la lb lo i j) (hs:Asc ky la) (hj:lb.length<=j):Mrg ky la lb (lo++la.drop i++lb.drop j):=by
 rw[List.drop_eq_nil_of_le hj,List.append_nil]
 have hp:=M.perm
 rw[List.take_of_length_le hj] at hp
 refine⟨?_,List.pairwise_append.mpr ⟨M.srt,hs.sublist (List.drop_sublist _ _),M.ra⟩⟩
 refine (hp.append_right _).trans ?_
 rw[List.append_assoc]
 refine ((List.perm_append_comm).append_left _).trans ?_
 rw[←List.append_assoc,List.take_append_drop]
theorem MI.endA (M:MI ky la lb lo i j) (hs:Asc ky la) (ht:Asc ky lb) (hl:∀ p ∈lb.drop j,∀ q ∈la.drop i,ky p<ky q):Mrg ky la lb (lo++lb.drop j++la.drop i):=by
 refine⟨?_,?_⟩
 ·refine ((M.perm.append_right _).append_right _).trans ?_
  rw[List.append_assoc,List.append_assoc]
  have e:la++lb=la.take i++(la.drop i++(lb.take j++lb.drop j)):=by rw[List.take_append_drop,←List.append_assoc,List.take_append_drop]
  rw[e]
  refine List.Perm.append_left _ ?_
  rw[←List.append_assoc]
  exact List.perm_append_comm
 ·refine List.pairwise_append.mpr ⟨List.pairwise_append.mpr ⟨M.srt,ht.sublist (List.drop_sublist _ _),M.rb⟩,hs.sublist (List.drop_sublist _ _),fun p hp q hq => ?_⟩
  rcases List.mem_append.mp hp with hp | hp
  ·exact M.ra p hp q hq
  ·exact hl p hp q hq
theorem ext_list (a:Array Keyed) (i k:Nat):(a.extract i (i+k)).toList=(a.toList.drop i).take k:=by
 rw[Array.toList_extract,List.extract_eq_drop_take]
 congr 1;lia
theorem ext_end (a:Array Keyed) (i:Nat):(a.extract i a.size).toList=a.toList.drop i:=by
 rw[Array.toList_extract,List.extract_eq_drop_take,List.take_of_length_le (by rw[List.length_drop,Array.length_toList];lia)]
theorem take_one {l:List Keyed} {i:Nat} (h:i<l.length):(l.drop i).take 1=[l[i]]:=by
 rw[List.drop_eq_getElem_cons h];rfl
theorem mem_drop_at {l:List Keyed} {i:Nat} {q:Keyed} (h:q ∈l.drop i):∃ m,i<=m/\∃ hm:m<l.length,q=l[m]:=by
 obtain⟨m,hm,e⟩:=List.mem_iff_getElem.mp h
 rw[List.length_drop] at hm
 refine⟨i+m,by lia,by lia,?_⟩
 rw[←e,List.getElem_drop]
theorem zfx {l:List Keyed} {i k:Nat} {q:Keyed} (h:q ∈(l.drop i).take k):∃ m,i<=m/\m<i+k/\∃ hm:m<l.length,q=l[m]:=by
 obtain⟨m,hm,e⟩:=List.mem_iff_getElem.mp h
 rw[List.length_take,List.length_drop] at hm
 refine⟨i+m,by lia,by lia,by lia,?_⟩
 rw[←e,List.getElem_take,List.getElem_drop]
theorem asc_at {l:List Keyed} (h:Asc ky l) {i j:Nat} (hij:i<j) (hj:j<l.length):ky (l[i]'(by lia))<ky l[j]:=List.pairwise_iff_getElem.mp h i j (by lia) hj hij
theorem asc_le {l:List Keyed} (h:Asc ky l) {i j:Nat} (hij:i<=j) (hj:j<l.length):ky (l[i]'(by lia))<=ky l[j]:=by
 by_cases q:i=j
 ·subst q;exact Int.le_refl _
 ·exact Int.le_of_lt (asc_at h (by lia) hj)
end
end Srt
namespace Srt
open PySem PyProof.Rows
noncomputable def mergeLo':Array Keyed->Array Keyed->StateT SortSt Sem (Array Keyed):=sortPriv% PySem.Builtin.mergeLo
abbrev setGal (st:SortSt) (g:Nat):SortSt:=SortSt.mk' (kindOf st) (arrOf st) (pendingOf st) g (failedOf st)
section
variable (a b:Array Keyed)
abbrev dnL (o:Array Keyed) (i j:Nat):Array Keyed:=o++a.extract i a.size++b.extract j b.size
abbrev laL (o:Array Keyed) (i j:Nat):Array Keyed:=o++b.extract j b.size++a.extract i a.size
abbrev G2:Type:=Option (Array Keyed)×Array Keyed×Nat×Nat×Nat×Nat×Nat
abbrev G1:Type:=Option (Array Keyed)×Array Keyed×Nat×Nat×Nat×Nat
abbrev G0:Type:=Option (Array Keyed)×Array Keyed×Nat×Nat×Nat
noncomputable def lp3 (g ac bc : Nat) (o : Array Keyed) (i j : Nat) : StateT SortSt Sem (ForInStep G2) := do
  let x ← elem' a i
  if (i + 1 + 1 == a.size) = true then pure (ForInStep.done (some (laL a b (o.push x) (i + 1) j), o.push x, i + 1, j, g, ac, bc))
  else if (decide (ac < 7) && decide (bc < 7)) = true then pure (ForInStep.done (none, o.push x, i + 1, j, g, ac, bc))
  else pure (ForInStep.yield (none, o.push x, i + 1, j, g, ac, bc))
noncomputable def lp2 (g ac bc : Nat) (o : Array Keyed) (i j : Nat) : StateT SortSt Sem (ForInStep G2) := do
  let y ← elem' b j
  if (j + 1 == b.size) = true then pure (ForInStep.done (some (dnL a b (o.push y) i (j + 1)), o.push y, i, j + 1, g, ac, bc))
  else do
    let x ← elem' a i
    let r ← gallop' true x b (j + 1) (b.size - (j + 1)) 0
    match r with
    | some k => if k > 0 then (if (j + 1 + k == b.size) = true then pure (ForInStep.done (some (dnL a b (o.push y ++ b.extract (j + 1) (j + 1 + k)) i (j + 1 + k)), o.push y ++ b.extract (j + 1) (j + 1 + k), i, j + 1 + k, g, ac, k)) else lp3 a b g ac k (o.push y ++ b.extract (j + 1) (j + 1 + k)) i (j + 1 + k)) else lp3 a b g ac k (o.push y) i (j + 1)
    | _ => pure (ForInStep.done (some (dnL a b (o.push y) i (j + 1)), o.push y, i, j + 1, g, ac, bc))
noncomputable def lp1 (g ac bc : Nat) (o : Array Keyed) (i j : Nat) : StateT SortSt Sem (ForInStep G2) := do
  modify fun s => setGal s g
  let y ← elem' b j
  let r ← gallop' false y a i (a.size - i) 0
  match r with
  | some k => if k > 0 then (if (i + k + 1 == a.size) = true then pure (ForInStep.done (some (laL a b (o ++ a.extract i (i + k)) (i + k) j), o ++ a.extract i (i + k), i + k, j, g, k, bc)) else if (i + k == a.size) = true then pure (ForInStep.done (some (dnL a b (o ++ a.extract i (i + k)) (i + k) j), o ++ a.extract i (i + k), i + k, j, g, k, bc)) else lp2 a b g k bc (o ++ a.extract i (i + k)) (i + k) j) else lp2 a b g k bc o i j
  | _ => pure (ForInStep.done (some (dnL a b o i j), o, i, j, g, ac, bc))
noncomputable def lw (g : Nat) (c : G1) : StateT SortSt Sem (ForInStep G1) := do
  let y ← elem' b c.2.2.2.1
  let x ← elem' a c.2.2.1
  let r ← lt' y x
  match r with
  | some bw =>
    if bw = true then do
      let y ← elem' b c.2.2.2.1
      if (c.2.2.2.1 + 1 == b.size) = true then pure (ForInStep.done (some (dnL a b (c.2.1.push y) c.2.2.1 (c.2.2.2.1 + 1)), c.2.1.push y, c.2.2.1, c.2.2.2.1 + 1, 0, c.2.2.2.2.2 + 1))
      else if c.2.2.2.2.2 + 1 ≥ g then pure (ForInStep.done (none, c.2.1.push y, c.2.2.1, c.2.2.2.1 + 1, 0, c.2.2.2.2.2 + 1))
      else pure (ForInStep.yield (none, c.2.1.push y, c.2.2.1, c.2.2.2.1 + 1, 0, c.2.2.2.2.2 + 1))
    else do
      let x ← elem' a c.2.2.1
      if (c.2.2.1 + 1 + 1 == a.size) = true then pure (ForInStep.done (some (laL a b (c.2.1.push x) (c.2.2.1 + 1) c.2.2.2.1), c.2.1.push x, c.2.2.1 + 1, c.2.2.2.1, c.2.2.2.2.1 + 1, 0))
      else if c.2.2.2.2.1 + 1 ≥ g then pure (ForInStep.done (none, c.2.1.push x, c.2.2.1 + 1, c.2.2.2.1, c.2.2.2.2.1 + 1, 0))
      else pure (ForInStep.yield (none, c.2.1.push x, c.2.2.1 + 1, c.2.2.2.1, c.2.2.2.2.1 + 1, 0))
  | _ => pure (ForInStep.done (some (dnL a b c.2.1 c.2.2.1 c.2.2.2.1), c.2.1, c.2.2.1, c.2.2.2.1, c.2.2.2.2.1, c.2.2.2.2.2))
noncomputable def lt2 (c:G2):StateT SortSt Sem (ForInStep G2):=if c.2.2.2.2.1 > 1 then lp1 a b (c.2.2.2.2.1 - 1) c.2.2.2.2.2.1 c.2.2.2.2.2.2 c.2.1 c.2.2.1 c.2.2.2.1 else lp1 a b c.2.2.2.2.1 c.2.2.2.2.2.1 c.2.2.2.2.2.2 c.2.1 c.2.2.1 c.2.2.2.1
noncomputable def lo0 (c : G0) : StateT SortSt Sem (ForInStep G0) := do
  let d ← forIn [:a.size + b.size] ((none, c.2.1, c.2.2.1, c.2.2.2.1, 0, 0) : G1) fun _ d => lw a b c.2.2.2.2 d
  match d.1 with
  | some r => pure (ForInStep.done (some r, d.2.1, d.2.2.1, d.2.2.2.1, c.2.2.2.2))
  | none => do
    liftM (rule "list.sort.gallop")
    let e ← forIn [:a.size + b.size] ((none, d.2.1, d.2.2.1, d.2.2.2.1, c.2.2.2.2 + 1, d.2.2.2.2.1, d.2.2.2.2.2) : G2) fun _ e => lt2 a b e
    match e.1 with
    | some r => pure (ForInStep.done (some r, e.2.1, e.2.2.1, e.2.2.2.1, e.2.2.2.2.1))
    | none => do
      modify fun s => setGal s (e.2.2.2.2.1 + 1)
      pure (ForInStep.yield (none, e.2.1, e.2.2.1, e.2.2.2.1, e.2.2.2.2.1 + 1))
theorem mlo_eq : mergeLo' a b = (do
  liftM (rule "list.sort.merge-lo")
  let y ← elem' b 0
  if (1 == b.size) = true then pure (dnL a b #[y] 0 1)
  else if (0 + 1 == a.size) = true then pure (laL a b #[y] 0 1)
  else do
    let t ← get
    let c ← forIn [:a.size + b.size] ((none, #[y], 0, 1, gallopOf t) : G0) fun _ c => lo0 a b c
    match c.1 with
    | some r => pure r
    | none => liftM (unsupported "internal:list.sort.merge-bound")) := by kernel_rfl
end
end Srt
namespace Srt
open PySem PyProof.Rows
structure Un (st st':SortSt):Prop where
 arr:arrOf st'=arrOf st
 pend:pendingOf st'=pendingOf st
 fail:failedOf st'=failedOf st
 kind:kindOf st'=kindOf st
theorem Un.refl (st:SortSt):Un st st:=⟨rfl,rfl,rfl,rfl⟩
theorem Un.gal {st st':SortSt} (h:Un st st') (g:Nat):Un st (setGal st' g):=⟨h.arr,h.pend,h.fail,h.kind⟩
section
variable {prog:Program} {w:World} {A:Around} {E:Value->Shared->Prop} {s:Shared}
variable {ky:Keyed->Int} {κ:SortKind} {a₀:Array Keyed}
theorem el_at {arr:Array Keyed} {i:Nat} {Q:Keyed->SortSt->Prop} {st:SortSt} {M:Model} (hi:i<arr.size) (h:Q arr[i] st):wpS M A E s (elem' arr i) Q st:=by
 rw[elem'_eq,Array.getElem?_eq_getElem hi];exact wpS_pure h
theorem gal_arr (C:Cmp prog w A E s ky κ a₀) {left:Bool} {key:Keyed} {arr:Array Keyed} {base n hint:Nat} {st:SortSt} {Q:Option Nat->SortSt->Prop} (hk:kindOf st=κ) (hkey:key ∈a₀.toList) (hin:∀ p ∈arr.toList,p ∈a₀.toList) (hz:base+n<=arr.size) (hn:hint<n)
  (hs:Srtd ky arr base (base+n)) (hne:∀ t,t<n->K ky arr (base+t) ≠ ky key)
  (h:∀ m,m<=n->(∀ t,t<m->K ky arr (base+t)<ky key)->(∀ t,m<=t->t<n->ky key<K ky arr (base+t))->Q (some m) st):wpS (model prog w) A E s (gallop' left key arr base n hint) Q st:=by
 refine gal (f:=fun t=>decide (K ky arr (base+t)<ky key)) hn (fun t ht Q' q => ?_) (fun x y hxy hy e => ?_) fun m m1 m2 m3=>h m m1 (fun t ht=>of_decide_eq_true (m2 t ht)) fun t t1 t2 => ?_
 ·have hi:base+t<arr.size:=by lia
  have hm:arr[base+t] ∈a₀.toList:=hin _ (by simp)
  have e:K ky arr (base+t)=ky arr[base+t]:=K_at hi
  have hne':=hne t ht
  rw[e] at hne'
  unfold bey
  refine wpS_bind (el_at hi ?_)
  rw[e] at q
  cases left with
  | true=>rw[if_pos rfl];exact C.lt _ _ st Q' hm hkey hk q
  | false=>
   rw[if_neg Bool.false_ne_true]
   refine wpS_bind (C.lt _ _ st _ hkey hm hk (wpS_pure ?_))
   have:(some (decide (ky key<ky arr[base+t]))).map (!·)=some (decide (ky arr[base+t]<ky key)):=by
    by_cases z:ky key<ky arr[base+t]
    ·rw[decide_eq_true z,decide_eq_false (by lia)];rfl
    ·rw[decide_eq_false z,decide_eq_true (by lia)];rfl
   rw[this];exact q
 ·have:=hs (base+x) (base+y) (by lia) (by lia) (by lia)
  have h2:K ky arr (base+y)<ky key:=of_decide_eq_true e
  exact decide_eq_true (by lia)
 ·have h3:=of_decide_eq_false (m3 t t1 t2)
  have:=hne t t2
  lia
structure Two (prog:Program) (w:World) (A:Around) (E:Value->Shared->Prop) (s:Shared) (ky:Keyed->Int) (κ:SortKind) (a₀ a b:Array Keyed):Prop where
 c:Cmp prog w A E s ky κ a₀
 ia:∀ p ∈a.toList,p ∈a₀.toList
 ib:∀ p ∈b.toList,p ∈a₀.toList
 sa:Asc ky a.toList
 sb:Asc ky b.toList
 dj:∀ p ∈a.toList,∀ q ∈b.toList,ky p ≠ ky q
 na:0<a.size
 nb:0<b.size
 fst:∀ p ∈a.toList,ky (b.toList[0]'(by simpa using nb))<ky p
 lst:∀ p ∈b.toList,ky p<ky (a.toList[a.size - 1]'(by simp;lia))
variable {a b:Array Keyed}
structure LI (ky:Keyed->Int) (a b o:Array Keyed) (i j:Nat):Prop where
 m:MI ky a.toList b.toList o.toList i j
 i:i+1<a.size
 j:j<b.size
theorem Two.ne (T:Two prog w A E s ky κ a₀ a b) {i j:Nat} (hi:i<a.size) (hj:j<b.size):ky a[i] ≠ ky b[j]:=T.dj _ (by simp) _ (by simp)
theorem drop_gt {arr:Array Keyed} (h:Asc ky arr.toList) {i:Nat} (hi:i<arr.size) {v:Int} (hv:v<ky arr[i]):∀ q ∈arr.toList.drop i,v<ky q:=fun q hq=>by
 obtain⟨m,h1,h2,rfl⟩:=mem_drop_at hq
 have:=asc_le h h1 h2
 have e:arr.toList[i]'(by simpa using hi)=arr[i]:=by simp
 rw[e] at this
 lia
theorem push_l (o:Array Keyed) (x:Keyed):(o.push x).toList=o.toList++[x]:=by simp
theorem one_at {arr:Array Keyed} {i:Nat} (hi:i<arr.size):(arr.toList.drop i).take 1=[arr[i]]:=by
 rw[take_one (by simpa using hi)];simp
theorem LI.pushB (T:Two prog w A E s ky κ a₀ a b) {o:Array Keyed} {i j:Nat} (L:MI ky a.toList b.toList o.toList i j) (hi:i<a.size) (hj:j<b.size) (hlt:ky b[j]<ky a[i]):MI ky a.toList b.toList (o.push b[j]).toList i (j+1):=by
 have:=L.addB T.sb 1 (fun p hp q hq=>by
  rw[one_at hj,List.mem_singleton] at hp
  rw[hp];exact drop_gt T.sa hi hlt q hq)
 rw[one_at hj] at this
 rw[push_l];exact this
theorem LI.pushA (T:Two prog w A E s ky κ a₀ a b) {o:Array Keyed} {i j:Nat} (L:MI ky a.toList b.toList o.toList i j) (hi:i<a.size) (hj:j<b.size) (hlt:ky a[i]<ky b[j]):MI ky a.toList b.toList (o.push a[i]).toList (i+1) j:=by
 have:=L.addA T.sa 1 (fun p hp q hq=>by
  rw[one_at hi,List.mem_singleton] at hp
  rw[hp];exact drop_gt T.sb hj hlt q hq)
 rw[one_at hi] at this
 rw[push_l];exact this
abbrev RS (ky:Keyed->Int) (a b r:Array Keyed):Prop:=Mrg ky a.toList b.toList r.toList
theorem dn_ok (T:Two prog w A E s ky κ a₀ a b) {o:Array Keyed} {i j:Nat} (L:MI ky a.toList b.toList o.toList i j) (hj:b.size<=j):RS ky a b (dnL a b o i j):=by
 have:=L.endB T.sa (by simpa using hj)
 show Mrg ky a.toList b.toList (o++a.extract i a.size++b.extract j b.size).toList
 rw[Array.toList_append,Array.toList_append,ext_end,ext_end];exact this
theorem la_ok (T:Two prog w A E s ky κ a₀ a b) {o:Array Keyed} {i j:Nat} (L:MI ky a.toList b.toList o.toList i j) (hi:i+1=a.size):RS ky a b (laL a b o i j):=by
 have:=L.endA T.sa T.sb (fun p hp q hq=>by
  obtain⟨m,h1,h2,rfl⟩:=mem_drop_at hq
  have hm:m=a.size - 1:=by simp at h2;lia
  subst hm
  exact T.lst p (List.mem_of_mem_drop hp))
 show Mrg ky a.toList b.toList (o++b.extract j b.size++a.extract i a.size).toList
 rw[Array.toList_append,Array.toList_append,ext_end,ext_end];exact this
noncomputable def P1 (ky:Keyed->Int) (a b:Array Keyed) (n:Nat) (c:G1):Prop:=(∃ r,c.1=some r/\RS ky a b r)\/(c.1=none/\LI ky a b c.2.1 c.2.2.1 c.2.2.2.1/\n<=c.2.2.1+c.2.2.2.1)
noncomputable def P2 (ky:Keyed->Int) (a b:Array Keyed) (n:Nat) (c:G2):Prop:=(∃ r,c.1=some r/\RS ky a b r)\/(c.1=none/\LI ky a b c.2.1 c.2.2.1 c.2.2.2.1/\n<=c.2.2.1+c.2.2.2.1)
theorem lw_ok (T:Two prog w A E s ky κ a₀ a b) {g:Nat} {c:G1} {st:SortSt} {Q:ForInStep G1->SortSt->Prop} (hk:kindOf st=κ) (hc:c.1=none) (L:LI ky a b c.2.1 c.2.2.1 c.2.2.2.1)
  (hd:∀ c',P1 ky a b (c.2.2.1+c.2.2.2.1+1) c'->Q (.done c') st) (hy:∀ c',c'.1=none->LI ky a b c'.2.1 c'.2.2.1 c'.2.2.2.1->c.2.2.1+c.2.2.2.1+1<=c'.2.2.1+c'.2.2.2.1->Q (.yield c') st):wpS (model prog w) A E s (lw a b g c) Q st:=by
 obtain⟨r,o,i,j,ac,bc⟩:=c
 obtain⟨m,hi,hj⟩:=L
 dsimp only at *
 have hi':i<a.size:=by lia
 unfold lw
 dsimp only
 refine wpS_bind (el_at hj (wpS_bind (el_at hi' (wpS_bind (T.c.lt _ _ st _ (T.ib _ (by simp)) (T.ia _ (by simp)) hk ?_)))))
 dsimp only
 have ne:=T.ne hi' hj
 by_cases hl:ky b[j]<ky a[i]
 ·rw[decide_eq_true hl,if_pos rfl]
  refine wpS_bind (el_at hj ?_)
  have m2:=LI.pushB T m hi' hj hl
  by_cases e:j+1=b.size
  ·rw[if_pos (by rw[beq_iff_eq];exact e)]
   exact wpS_pure (hd _ (.inl ⟨_,rfl,dn_ok T m2 (by lia)⟩))
  ·rw[if_neg (by rw[beq_iff_eq];exact e)]
   by_cases q:bc+1 ≥ g
   ·rw[if_pos q];exact wpS_pure (hd _ (.inr ⟨rfl,⟨m2,hi,by dsimp only;lia⟩,by dsimp only;lia⟩))
   ·rw[if_neg q];exact wpS_pure (hy _ rfl ⟨m2,hi,by dsimp only;lia⟩ (by dsimp only;lia))
 ·rw[decide_eq_false hl,if_neg Bool.false_ne_true]
  refine wpS_bind (el_at hi' ?_)
  have m2:=LI.pushA T m hi' hj (by lia)
  by_cases e:i+1+1=a.size
  ·rw[if_pos (by rw[beq_iff_eq];exact e)]
   exact wpS_pure (hd _ (.inl ⟨_,rfl,la_ok T m2 e⟩))
  ·rw[if_neg (by rw[beq_iff_eq];exact e)]
   by_cases q:ac+1 ≥ g
   ·rw[if_pos q];exact wpS_pure (hd _ (.inr ⟨rfl,⟨m2,by dsimp only;lia,hj⟩,by dsimp only;lia⟩))
   ·rw[if_neg q];exact wpS_pure (hy _ rfl ⟨m2,by dsimp only;lia,hj⟩ (by dsimp only;lia))
theorem lp3_ok (T:Two prog w A E s ky κ a₀ a b) {g ac bc n:Nat} {o:Array Keyed} {i j:Nat} {st:SortSt} {Q:ForInStep G2->SortSt->Prop} (m:MI ky a.toList b.toList o.toList i j) (hi:i+1<a.size) (hj:j<b.size) (hlt:ky a[i]<ky b[j]) (hn:n<=i+j)
  (hd:∀ c',P2 ky a b n c'->Q (.done c') st) (hy:∀ c',c'.1=none->LI ky a b c'.2.1 c'.2.2.1 c'.2.2.2.1->n<=c'.2.2.1+c'.2.2.2.1->Q (.yield c') st):wpS (model prog w) A E s (lp3 a b g ac bc o i j) Q st:=by
 have hi':i<a.size:=by lia
 unfold lp3
 refine wpS_bind (el_at hi' ?_)
 have m2:=LI.pushA T m hi' hj hlt
 by_cases e:i+1+1=a.size
 ·rw[if_pos (by rw[beq_iff_eq];exact e)]
  exact wpS_pure (hd _ (.inl ⟨_,rfl,la_ok T m2 e⟩))
 ·rw[if_neg (by rw[beq_iff_eq];exact e)]
  have L2:LI ky a b (o.push a[i]) (i+1) j:=⟨m2,by lia,hj⟩
  split
  ·exact wpS_pure (hd _ (.inr ⟨rfl,L2,by dsimp only;lia⟩))
  ·exact wpS_pure (hy _ rfl L2 (by dsimp only;lia))
theorem srt_arr {arr:Array Keyed} (h:Asc ky arr.toList) {lo hi:Nat} (hz:hi<=arr.size):Srtd ky arr lo hi:=fun i j h1 h2 h3=>by
 have:=asc_at h h2 (by simp;lia)
 rw[K_at (by lia),K_at (by lia)]
 simpa using this
theorem ext_append (o arr:Array Keyed) (i k:Nat):(o++arr.extract i (i+k)).toList=o.toList++(arr.toList.drop i).take k:=by rw[Array.toList_append,ext_list]
theorem lp2_ok (T:Two prog w A E s ky κ a₀ a b) {g ac bc n:Nat} {o:Array Keyed} {i j:Nat} {st:SortSt} {Q:ForInStep G2->SortSt->Prop} (hk:kindOf st=κ) (m:MI ky a.toList b.toList o.toList i j) (hi:i+1<a.size) (hj:j<b.size) (hlt:ky b[j]<ky a[i]) (hn:n<=i+j)
  (hd:∀ c',P2 ky a b n c'->Q (.done c') st) (hy:∀ c',c'.1=none->LI ky a b c'.2.1 c'.2.2.1 c'.2.2.2.1->n<=c'.2.2.1+c'.2.2.2.1->Q (.yield c') st):wpS (model prog w) A E s (lp2 a b g ac bc o i j) Q st:=by
 have hi':i<a.size:=by lia
 unfold lp2
 refine wpS_bind (el_at hj ?_)
 have m2:=LI.pushB T m hi' hj hlt
 by_cases e:j+1=b.size
 ·rw[if_pos (by rw[beq_iff_eq];exact e)]
  exact wpS_pure (hd _ (.inl ⟨_,rfl,dn_ok T m2 (by lia)⟩))
 ·rw[if_neg (by rw[beq_iff_eq];exact e)]
  refine wpS_bind (el_at hi' ?_)
  refine wpS_bind (gal_arr T.c hk (T.ia _ (by simp)) T.ib (by lia) (by lia) (srt_arr T.sb (by lia)) (fun t ht z => ?_) fun k k1 k2 k3 => ?_)
  ·rw[K_at (by lia)] at z
   exact T.ne hi' (by lia) z.symm
  ·dsimp only
   by_cases q:k > 0
   ·rw[if_pos q]
    have m3:MI ky a.toList b.toList (o.push b[j]++b.extract (j+1) (j+1+k)).toList i (j+1+k):=by
     rw[ext_append]
     refine m2.addB T.sb k fun p hp x hx => ?_
     obtain⟨u,u1,u2,u3,rfl⟩:=zfx hp
     have:=k2 (u - (j+1)) (by lia)
     rw[show j+1+(u - (j+1))=u by lia,K_at (by simpa using u3)] at this
     refine drop_gt T.sa hi' ?_ x hx
     simpa using this
    by_cases e2:j+1+k=b.size
    ·rw[if_pos (by rw[beq_iff_eq];exact e2)]
     exact wpS_pure (hd _ (.inl ⟨_,rfl,dn_ok T m3 (by lia)⟩))
    ·rw[if_neg (by rw[beq_iff_eq];exact e2)]
     have h5:=k3 k (Nat.le_refl _) (by lia)
     rw[K_at (by lia)] at h5
     exact lp3_ok T m3 hi (by lia) h5 (by lia) hd hy
   ·rw[if_neg q]
    have h5:=k3 0 (by lia) (by lia)
    rw[Nat.add_zero,K_at (by lia)] at h5
    exact lp3_ok T m2 hi (by lia) h5 (by lia) hd hy
theorem lp1_ok (T:Two prog w A E s ky κ a₀ a b) {g ac bc n:Nat} {o:Array Keyed} {i j:Nat} {st0 st:SortSt} {Q:ForInStep G2->SortSt->Prop} (hk:kindOf st=κ) (U:Un st0 st) (L:LI ky a b o i j) (hn:n<=i+j)
  (hd:∀ c' st',Un st0 st'->P2 ky a b n c'->Q (.done c') st') (hy:∀ c' st',Un st0 st'->c'.1=none->LI ky a b c'.2.1 c'.2.2.1 c'.2.2.2.1->n<=c'.2.2.1+c'.2.2.2.1->Q (.yield c') st'):wpS (model prog w) A E s (lp1 a b g ac bc o i j) Q st:=by
 obtain⟨m,hi,hj⟩:=L
 have hi':i<a.size:=by lia
 unfold lp1
 refine wpS_bind (wpS_modify ?_)
 have U2:=U.gal g
 refine wpS_bind (el_at hj ?_)
 refine wpS_bind (gal_arr T.c hk (T.ib _ (by simp)) T.ia (by lia) (by lia) (srt_arr T.sa (by lia)) (fun t ht z => ?_) fun k k1 k2 k3 => ?_)
 ·rw[K_at (by lia)] at z
  exact T.ne (by lia) hj z
 ·dsimp only
  have hlast:i+k<a.size:=by
   rcases Nat.lt_or_ge (i+k) a.size with z | z
   ·exact z
   ·exfalso
    have h1:=k2 (a.size - 1 - i) (by lia)
    rw[show i+(a.size - 1 - i)=a.size - 1 by lia,K_at (by lia)] at h1
    have h2:=T.lst b[j] (by simp)
    simp at h2
    lia
  by_cases q:k > 0
  ·rw[if_pos q]
   have m3:MI ky a.toList b.toList (o++a.extract i (i+k)).toList (i+k) j:=by
    rw[ext_append]
    refine m.addA T.sa k fun p hp x hx => ?_
    obtain⟨u,u1,u2,u3,rfl⟩:=zfx hp
    have:=k2 (u - i) (by lia)
    rw[show i+(u - i)=u by lia,K_at (by simpa using u3)] at this
    refine drop_gt T.sb hj ?_ x hx
    simpa using this
   by_cases e2:i+k+1=a.size
   ·rw[if_pos (by rw[beq_iff_eq];exact e2)]
    exact wpS_pure (hd _ _ U2 (.inl ⟨_,rfl,la_ok T m3 e2⟩))
   ·rw[if_neg (by rw[beq_iff_eq];exact e2),if_neg (by rw[beq_iff_eq];lia)]
    have h5:=k3 k (Nat.le_refl _) (by lia)
    rw[K_at (by lia)] at h5
    exact lp2_ok T hk m3 (by lia) hj h5 (by lia) (fun c' h=>hd c' _ U2 h) fun c' x1 x2 x3=>hy c' _ U2 x1 x2 x3
  ·rw[if_neg q]
   have h5:=k3 0 (by lia) (by lia)
   rw[Nat.add_zero,K_at (by lia)] at h5
   exact lp2_ok T hk m hi hj h5 hn (fun c' h=>hd c' _ U2 h) fun c' x1 x2 x3=>hy c' _ U2 x1 x2 x3
end
end Srt
namespace Srt
open PySem PyProof.Rows
section
variable {prog:Program} {w:World} {A:Around} {E:Value->Shared->Prop} {s:Shared}
variable {ky:Keyed->Int} {κ:SortKind} {a₀ a b:Array Keyed}
theorem lo0_ok (T:Two prog w A E s ky κ a₀ a b) {c:G0} {st0 st:SortSt} {Q:ForInStep G0->SortSt->Prop} (hk:kindOf st0=κ) (U:Un st0 st) (hc:c.1=none) (L:LI ky a b c.2.1 c.2.2.1 c.2.2.2.1)
  (hd:∀ c' st' r,Un st0 st'->c'.1=some r->RS ky a b r->Q (.done c') st') (hy:∀ c' st',Un st0 st'->c'.1=none->LI ky a b c'.2.1 c'.2.2.1 c'.2.2.2.1->c.2.2.1+c.2.2.2.1+1<=c'.2.2.1+c'.2.2.2.1->Q (.yield c') st'):wpS (model prog w) A E s (lo0 a b c) Q st:=by
 obtain⟨r,o,i,j,g⟩:=c
 dsimp only at *
 have na:=T.na
 unfold lo0
 dsimp only
 have hks:kindOf st=κ:=U.kind.trans hk
 refine wpS_bind (wpS_mono (wpS_forRange (I:=fun x d st'=>st'=st/\d.1=none/\LI ky a b d.2.1 d.2.2.1 d.2.2.2.1/\i+j+min x 1<=d.2.2.1+d.2.2.2.1) (Q:=fun d st'=>st'=st/\P1 ky a b (i+j+1) d) ?step ?fin ⟨rfl,rfl,L,by dsimp only;lia⟩) ?post)
 case fin=>
  rintro d st' ⟨rfl,d1,d2,d3⟩
  exact⟨rfl,.inr ⟨d1,d2,by lia⟩⟩
 case step=>
  rintro x d st' _ _ ⟨rfl,d1,d2,d3⟩
  refine lw_ok T hks d1 d2 (fun c' h=>⟨rfl,?_⟩) fun c' h1 h2 h3=>⟨rfl,h1,h2,by lia⟩
  rcases h with h | ⟨h1,h2,h3⟩
  ·exact .inl h
  ·exact .inr ⟨h1,h2,by lia⟩
 case post=>
  rintro d st' ⟨rfl,p⟩
  rcases p with ⟨q,e1,e2⟩ | ⟨e1,e2,e3⟩
  ·rw[e1];exact wpS_pure (hd _ _ q U rfl e2)
  ·rw[e1]
   dsimp only
   refine wpS_bind (rule_S ?_)
   refine wpS_bind (wpS_mono (wpS_forRange (I:=fun x e st'=>Un st0 st'/\e.1=none/\LI ky a b e.2.1 e.2.2.1 e.2.2.2.1/\i+j+1<=e.2.2.1+e.2.2.2.1) (Q:=fun e st'=>Un st0 st'/\P2 ky a b (i+j+1) e) ?step2 ?fin2 ⟨U,rfl,e2,e3⟩) ?post2)
   case fin2=>
    rintro e st'' ⟨u,d1,d2,d3⟩
    exact⟨u,.inr ⟨d1,d2,d3⟩⟩
   case step2=>
    rintro x e st'' _ _ ⟨u,d1,d2,d3⟩
    have hk2:kindOf st''=κ:=u.kind.trans hk
    unfold lt2
    split
    ·exact lp1_ok T hk2 u d2 d3 (fun c' st' u' h=>⟨u',h⟩) fun c' st' u' h1 h2 h3=>⟨u',h1,h2,h3⟩
    ·exact lp1_ok T hk2 u d2 d3 (fun c' st' u' h=>⟨u',h⟩) fun c' st' u' h1 h2 h3=>⟨u',h1,h2,h3⟩
   case post2=>
    rintro e st'' ⟨u,p⟩
    rcases p with ⟨q,f1,f2⟩ | ⟨f1,f2,f3⟩
    ·rw[f1];exact wpS_pure (hd _ _ q u rfl f2)
    ·rw[f1]
     dsimp only
     exact wpS_bind (wpS_modify (wpS_pure (hy _ _ (u.gal _) rfl f2 f3)))
theorem mlo (T:Two prog w A E s ky κ a₀ a b) {st:SortSt} {Q:Array Keyed->SortSt->Prop} (hk:kindOf st=κ) (h:∀ r st',Un st st'->RS ky a b r->Q r st'):wpS (model prog w) A E s (mergeLo' a b) Q st:=by
 have nb:=T.nb
 have na:=T.na
 rw[mlo_eq]
 refine wpS_bind (rule_S ?_)
 refine wpS_bind (el_at nb ?_)
 have m:MI ky a.toList b.toList (#[b[0]]:Array Keyed).toList 0 1:=by
  have e1:b.toList.take 1=[b[0]]:=by
   have:=one_at nb
   rwa [List.drop_zero] at this
  refine⟨?_,List.pairwise_singleton _ _,fun p hp q hq => ?_,fun p hp q hq => ?_⟩
  ·rw[e1];exact List.Perm.refl _
  ·rw[List.mem_singleton.mp hp]
   have:=T.fst q (List.mem_of_mem_drop hq)
   simpa using this
  ·rw[List.mem_singleton.mp hp]
   obtain⟨u,u1,u2,rfl⟩:=mem_drop_at hq
   have:=asc_at T.sb (i:=0) (j:=u) (by lia) u2
   simpa using this
 by_cases e:1=b.size
 ·rw[if_pos (by rw[beq_iff_eq];exact e)]
  exact wpS_pure (h _ _ (Un.refl _) (dn_ok T m (by lia)))
 ·rw[if_neg (by rw[beq_iff_eq];exact e)]
  by_cases e2:0+1=a.size
  ·rw[if_pos (by rw[beq_iff_eq];exact e2)]
   exact wpS_pure (h _ _ (Un.refl _) (la_ok T m e2))
  ·rw[if_neg (by rw[beq_iff_eq];exact e2)]
   refine wpS_bind (wpS_get ?_)
   refine wpS_bind (wpS_mono (wpS_forRange (I:=fun x c st'=>Un st st'/\c.1=none/\LI ky a b c.2.1 c.2.2.1 c.2.2.2.1/\x<=c.2.2.1+c.2.2.2.1) (Q:=fun c st'=>Un st st'/\∃ r,c.1=some r/\RS ky a b r) ?step ?fin ⟨Un.refl _,rfl,⟨m,by dsimp only;lia,by dsimp only;lia⟩,by lia⟩) ?post)
   case fin=>
    rintro c st' ⟨u,d1,d2,d3⟩
    have:=d2.i
    have:=d2.j
    lia
   case step=>
    rintro x c st' _ _ ⟨u,d1,d2,d3⟩
    exact lo0_ok T hk u d1 d2 (fun c' st2 r u' h1 h2=>⟨u',r,h1,h2⟩) fun c' st2 u' h1 h2 h3=>⟨u',h1,h2,by lia⟩
   case post=>
    rintro c st' ⟨u,r,d1,d2⟩
    rw[d1]
    exact wpS_pure (h r st' u d2)
end
end Srt
namespace Srt
open PySem PyProof.Rows
noncomputable def mergeHi':Array Keyed->Array Keyed->StateT SortSt Sem (Array Keyed):=sortPriv% PySem.Builtin.mergeHi
section
variable (a b:Array Keyed)
abbrev H2:Type:=Option (Array Keyed)×Nat×Nat×Array Keyed×Nat×Nat×Nat
abbrev H1:Type:=Option (Array Keyed)×Nat×Nat×Array Keyed×Nat×Nat
abbrev H0:Type:=Option (Array Keyed)×Nat×Nat×Array Keyed×Nat
abbrev dnH (o:Array Keyed) (i j:Nat):Array Keyed:=a.extract 0 i++b.extract 0 j++o.reverse
abbrev fbH (o:Array Keyed) (i j:Nat):Array Keyed:=b.extract 0 j++a.extract 0 i++o.reverse
noncomputable def hp3 (g ac bc : Nat) (o : Array Keyed) (i j : Nat) : StateT SortSt Sem (ForInStep H2) := do
  let x ← elem' a (i - 1)
  if (i - 1 == 0) = true then pure (ForInStep.done (some (dnH a b (o.push x) (i - 1) j), i - 1, j, o.push x, g, ac, bc))
  else if (decide (ac < 7) && decide (bc < 7)) = true then pure (ForInStep.done (none, i - 1, j, o.push x, g, ac, bc))
  else pure (ForInStep.yield (none, i - 1, j, o.push x, g, ac, bc))
noncomputable def hp2 (g ac bc : Nat) (o : Array Keyed) (i j : Nat) : StateT SortSt Sem (ForInStep H2) := do
  let y ← elem' b (j - 1)
  if (j - 1 == 1) = true then pure (ForInStep.done (some (fbH a b (o.push y) i (j - 1)), i, j - 1, o.push y, g, ac, bc))
  else do
    let x ← elem' a (i - 1)
    let r ← gallop' true x b 0 (j - 1) (j - 1 - 1)
    match r with
    | some t => if j - 1 - t > 0 then (if (t == 1) = true then pure (ForInStep.done (some (fbH a b (o.push y ++ (b.extract t (j - 1)).reverse) i t), i, t, o.push y ++ (b.extract t (j - 1)).reverse, g, ac, j - 1 - t)) else if (t == 0) = true then pure (ForInStep.done (some (dnH a b (o.push y ++ (b.extract t (j - 1)).reverse) i t), i, t, o.push y ++ (b.extract t (j - 1)).reverse, g, ac, j - 1 - t)) else hp3 a b g ac (j - 1 - t) (o.push y ++ (b.extract t (j - 1)).reverse) i t) else hp3 a b g ac (j - 1 - t) (o.push y) i (j - 1)
    | _ => pure (ForInStep.done (some (dnH a b (o.push y) i (j - 1)), i, j - 1, o.push y, g, ac, bc))
noncomputable def hp1 (g ac bc : Nat) (o : Array Keyed) (i j : Nat) : StateT SortSt Sem (ForInStep H2) := do
  modify fun s => setGal s g
  let y ← elem' b (j - 1)
  let r ← gallop' false y a 0 i (i - 1)
  match r with
  | some t => if i - t > 0 then (if (t == 0) = true then pure (ForInStep.done (some (dnH a b (o ++ (a.extract t i).reverse) t j), t, j, o ++ (a.extract t i).reverse, g, i - t, bc)) else hp2 a b g (i - t) bc (o ++ (a.extract t i).reverse) t j) else hp2 a b g (i - t) bc o i j
  | _ => pure (ForInStep.done (some (dnH a b o i j), i, j, o, g, ac, bc))
noncomputable def hw (g : Nat) (c : H1) : StateT SortSt Sem (ForInStep H1) := do
  let y ← elem' b (c.2.2.1 - 1)
  let x ← elem' a (c.2.1 - 1)
  let r ← lt' y x
  match r with
  | some aw =>
    if aw = true then do
      let x ← elem' a (c.2.1 - 1)
      if (c.2.1 - 1 == 0) = true then pure (ForInStep.done (some (dnH a b (c.2.2.2.1.push x) (c.2.1 - 1) c.2.2.1), c.2.1 - 1, c.2.2.1, c.2.2.2.1.push x, c.2.2.2.2.1 + 1, 0))
      else if c.2.2.2.2.1 + 1 ≥ g then pure (ForInStep.done (none, c.2.1 - 1, c.2.2.1, c.2.2.2.1.push x, c.2.2.2.2.1 + 1, 0))
      else pure (ForInStep.yield (none, c.2.1 - 1, c.2.2.1, c.2.2.2.1.push x, c.2.2.2.2.1 + 1, 0))
    else do
      let y ← elem' b (c.2.2.1 - 1)
      if (c.2.2.1 - 1 == 1) = true then pure (ForInStep.done (some (fbH a b (c.2.2.2.1.push y) c.2.1 (c.2.2.1 - 1)), c.2.1, c.2.2.1 - 1, c.2.2.2.1.push y, 0, c.2.2.2.2.2 + 1))
      else if c.2.2.2.2.2 + 1 ≥ g then pure (ForInStep.done (none, c.2.1, c.2.2.1 - 1, c.2.2.2.1.push y, 0, c.2.2.2.2.2 + 1))
      else pure (ForInStep.yield (none, c.2.1, c.2.2.1 - 1, c.2.2.2.1.push y, 0, c.2.2.2.2.2 + 1))
  | _ => pure (ForInStep.done (some (dnH a b c.2.2.2.1 c.2.1 c.2.2.1), c.2.1, c.2.2.1, c.2.2.2.1, c.2.2.2.2.1, c.2.2.2.2.2))
noncomputable def ht2 (c:H2):StateT SortSt Sem (ForInStep H2):=if c.2.2.2.2.1 > 1 then hp1 a b (c.2.2.2.2.1 - 1) c.2.2.2.2.2.1 c.2.2.2.2.2.2 c.2.2.2.1 c.2.1 c.2.2.1 else hp1 a b c.2.2.2.2.1 c.2.2.2.2.2.1 c.2.2.2.2.2.2 c.2.2.2.1 c.2.1 c.2.2.1
noncomputable def hi0 (c : H0) : StateT SortSt Sem (ForInStep H0) := do
  let d ← forIn [:a.size + b.size] ((none, c.2.1, c.2.2.1, c.2.2.2.1, 0, 0) : H1) fun _ d => hw a b c.2.2.2.2 d
  match d.1 with
  | some r => pure (ForInStep.done (some r, d.2.1, d.2.2.1, d.2.2.2.1, c.2.2.2.2))
  | none => do
    liftM (rule "list.sort.gallop")
    let e ← forIn [:a.size + b.size] ((none, d.2.1, d.2.2.1, d.2.2.2.1, c.2.2.2.2 + 1, d.2.2.2.2.1, d.2.2.2.2.2) : H2) fun _ e => ht2 a b e
    match e.1 with
    | some r => pure (ForInStep.done (some r, e.2.1, e.2.2.1, e.2.2.2.1, e.2.2.2.2.1))
    | none => do
      modify fun s => setGal s (e.2.2.2.2.1 + 1)
      pure (ForInStep.yield (none, e.2.1, e.2.2.1, e.2.2.2.1, e.2.2.2.2.1 + 1))
theorem mhi_eq : mergeHi' a b = (do
  liftM (rule "list.sort.merge-hi")
  let x ← elem' a (a.size - 1)
  if (a.size - 1 == 0) = true then pure (dnH a b #[x] (a.size - 1) b.size)
  else if (b.size == 1) = true then pure (fbH a b #[x] (a.size - 1) b.size)
  else do
    let t ← get
    let c ← forIn [:a.size + b.size] ((none, a.size - 1, b.size, #[x], gallopOf t) : H0) fun _ c => hi0 a b c
    match c.1 with
    | some r => pure r
    | none => liftM (unsupported "internal:list.sort.merge-bound")) := by kernel_rfl
end
end Srt
namespace Srt
open PySem PyProof.Rows
section
variable {ky:Keyed->Int} {la lb lo:List Keyed} {i j:Nat}
structure MH (ky:Keyed->Int) (la lb lo:List Keyed) (i j:Nat):Prop where
 perm:lo.Perm (la.drop i++lb.drop j)
 srt:lo.Pairwise fun p q=>ky q<ky p
 ra:∀ p ∈lo,∀ q ∈la.take i,ky q<ky p
 rb:∀ p ∈lo,∀ q ∈lb.take j,ky q<ky p
theorem drop_cut (l:List Keyed) {n i:Nat} (h:n<=i):l.drop n=(l.drop n).take (i - n)++l.drop i:=by
 have e:=(List.take_append_drop (i - n) (l.drop n)).symm
 rw[List.drop_drop,show n+(i - n)=i by lia] at e
 exact e
theorem asc_split {l:List Keyed} (h:Asc ky l) (n:Nat):∀ p ∈l.take n,∀ q ∈l.drop n,ky p<ky q:=fun p hp q hq=>by
 have e:l=l.take n++l.drop n:=(List.take_append_drop _ _).symm
 rw[e] at h
 exact (List.pairwise_append.mp h).2.2 p hp q hq
theorem mem_take_le {l:List Keyed} {n i:Nat} (h:n<=i) {q:Keyed} (hq:q ∈l.take n):q ∈l.take i:=by
 rw[show n=min n i by lia,←List.take_take] at hq
 exact List.mem_of_mem_take hq
theorem mem_mid {l:List Keyed} {n i:Nat} (h:n<=i) {q:Keyed} (hq:q ∈(l.drop n).take (i - n)):q ∈l.take i:=by
 rw[←List.drop_take] at hq
 exact List.mem_of_mem_drop hq
theorem MH.addA (M:MH ky la lb lo i j) (hs:Asc ky la) {n:Nat} (hn:n<=i) (hlt:∀ p ∈(la.drop n).take (i - n),∀ q ∈lb.take j,ky q<ky p):MH ky la lb (lo++((la.drop n).take (i - n)).reverse) n j:=by
 refine⟨?_,?_,fun p hp q hq => ?_,fun p hp q hq => ?_⟩
 ·have e:=drop_cut la hn
  generalize (la.drop n).take (i - n)=ch at e ⊢
  rw[e,List.append_assoc]
  exact (M.perm.append (List.reverse_perm _)).trans List.perm_append_comm
 ·refine List.pairwise_append.mpr ⟨M.srt,List.pairwise_reverse.mpr ((hs.sublist (List.drop_sublist _ _)).sublist (List.take_sublist _ _)),fun p hp q hq=>M.ra p hp q (mem_mid hn (List.mem_reverse.mp hq))⟩
 ·rcases List.mem_append.mp hp with hp | hp
  ·exact M.ra p hp q (mem_take_le hn hq)
  ·exact asc_split hs n q hq p (List.mem_of_mem_take (List.mem_reverse.mp hp))
 ·rcases List.mem_append.mp hp with hp | hp
  ·exact M.rb p hp q hq
  ·exact hlt p (List.mem_reverse.mp hp) q hq
theorem MH.addB (M:MH ky la lb lo i j) (hs:Asc ky lb) {n:Nat} (hn:n<=j) (hlt:∀ p ∈(lb.drop n).take (j - n),∀ q ∈la.take i,ky q<ky p):MH ky la lb (lo++((lb.drop n).take (j - n)).reverse) i n:=by
 refine⟨?_,?_,fun p hp q hq => ?_,fun p hp q hq => ?_⟩
 ·have e:=drop_cut lb hn
  generalize (lb.drop n).take (j - n)=ch at e ⊢
  rw[e]
  refine (M.perm.append (List.reverse_perm _)).trans ?_
  rw[List.append_assoc]
  exact List.perm_append_comm.append_left _
 ·refine List.pairwise_append.mpr ⟨M.srt,List.pairwise_reverse.mpr ((hs.sublist (List.drop_sublist _ _)).sublist (List.take_sublist _ _)),fun p hp q hq=>M.rb p hp q (mem_mid hn (List.mem_reverse.mp hq))⟩
 ·rcases List.mem_append.mp hp with hp | hp
  ·exact M.ra p hp q hq
  ·exact hlt p (List.mem_reverse.mp hp) q hq
 ·rcases List.mem_append.mp hp with hp | hp
  ·exact M.rb p hp q (mem_take_le hn hq)
  ·exact asc_split hs n q hq p (List.mem_of_mem_take (List.mem_reverse.mp hp))
theorem MH.endA (M:MH ky la lb lo 0 j) (hs:Asc ky lb):Mrg ky la lb (lb.take j++lo.reverse):=by
 refine⟨?_,?_⟩
 ·have hp:=M.perm
  rw[List.drop_zero] at hp
  refine (((List.reverse_perm _).trans hp).append_left _).trans ?_
  rw[←List.append_assoc]
  refine (List.perm_append_comm.append_right _).trans ?_
  rw[List.append_assoc,List.take_append_drop]
 ·exact List.pairwise_append.mpr ⟨hs.sublist (List.take_sublist _ _),List.pairwise_reverse.mpr M.srt,fun p hp q hq=>M.rb q (List.mem_reverse.mp hq) p hp⟩
theorem MH.endB (M:MH ky la lb lo i j) (hs:Asc ky la) (ht:Asc ky lb) (hl:∀ p ∈lb.take j,∀ q ∈la.take i,ky p<ky q):Mrg ky la lb (lb.take j++la.take i++lo.reverse):=by
 refine⟨?_,?_⟩
 ·refine (((List.reverse_perm _).trans M.perm).append_left _).trans ?_
  have e:la++lb=la.take i++la.drop i++(lb.take j++lb.drop j):=by rw[List.take_append_drop,List.take_append_drop]
  rw[e]
  refine (List.perm_append_comm.append_right _).trans ?_
  rw[List.append_assoc,List.append_assoc]
  refine List.Perm.append_left _ ?_
  rw[←List.append_assoc,←List.append_assoc]
  exact List.perm_append_comm.append_right _
 ·refine List.pairwise_append.mpr ⟨List.pairwise_append.mpr ⟨ht.sublist (List.take_sublist _ _),hs.sublist (List.take_sublist _ _),hl⟩,List.pairwise_reverse.mpr M.srt,fun p hp q hq => ?_⟩
  rcases List.mem_append.mp hp with hp | hp
  ·exact M.rb q (List.mem_reverse.mp hq) p hp
  ·exact M.ra q (List.mem_reverse.mp hq) p hp
theorem ext_take (a:Array Keyed) (i:Nat):(a.extract 0 i).toList=a.toList.take i:=by
 rw[Array.toList_extract,List.extract_eq_drop_take];simp
theorem ext_mid (a:Array Keyed) (n i:Nat):(a.extract n i).toList=(a.toList.drop n).take (i - n):=by
 rw[Array.toList_extract,List.extract_eq_drop_take]
theorem rev_append (o a:Array Keyed) (n i:Nat):(o++(a.extract n i).reverse).toList=o.toList++((a.toList.drop n).take (i - n)).reverse:=by
 rw[Array.toList_append,Array.toList_reverse,ext_mid]
theorem mid_one {arr:Array Keyed} {i:Nat} (h0:0<i) (hi:i<=arr.size):(arr.toList.drop (i - 1)).take (i - (i - 1))=[arr[i - 1]'(by lia)]:=by
 rw[show i - (i - 1)=1 by lia];exact one_at (by lia)
end
section
variable {prog:Program} {w:World} {A:Around} {E:Value->Shared->Prop} {s:Shared}
variable {ky:Keyed->Int} {κ:SortKind} {a₀ a b:Array Keyed}
structure HI (ky:Keyed->Int) (a b o:Array Keyed) (i j:Nat):Prop where
 m:MH ky a.toList b.toList o.toList i j
 i0:0<i
 i:i<=a.size
 j0:1<j
 j:j<=b.size
theorem take_lt {arr:Array Keyed} (h:Asc ky arr.toList) {i:Nat} (h0:0<i) (hi:i<=arr.size) {v:Int} (hv:ky (arr[i - 1]'(by lia))<v):∀ q ∈arr.toList.take i,ky q<v:=fun q hq=>by
 obtain⟨m,hm,rfl⟩:=List.mem_iff_getElem.mp hq
 rw[List.length_take] at hm
 rw[List.getElem_take]
 have:=asc_le h (i:=m) (j:=i - 1) (by lia) (by simp;lia)
 have e:arr.toList[i - 1]'(by simp;lia)=arr[i - 1]'(by lia):=by simp
 rw[e] at this
 lia
theorem HI.pushA (T:Two prog w A E s ky κ a₀ a b) {o:Array Keyed} {i j:Nat} (L:MH ky a.toList b.toList o.toList i j) (h0:0<i) (hi:i<=a.size) (j0:0<j) (hj:j<=b.size) (hlt:ky (b[j - 1]'(by lia))<ky (a[i - 1]'(by lia))):MH ky a.toList b.toList (o.push (a[i - 1]'(by lia))).toList (i - 1) j:=by
 have:=L.addA T.sa (n:=i - 1) (by lia) (fun p hp q hq=>by
  rw[mid_one h0 hi,List.mem_singleton] at hp
  rw[hp];exact take_lt T.sb j0 hj hlt q hq)
 rw[mid_one h0 hi] at this
 rw[push_l];exact this
theorem HI.pushB (T:Two prog w A E s ky κ a₀ a b) {o:Array Keyed} {i j:Nat} (L:MH ky a.toList b.toList o.toList i j) (h0:0<i) (hi:i<=a.size) (j0:0<j) (hj:j<=b.size) (hlt:ky (a[i - 1]'(by lia))<ky (b[j - 1]'(by lia))):MH ky a.toList b.toList (o.push (b[j - 1]'(by lia))).toList i (j - 1):=by
 have:=L.addB T.sb (n:=j - 1) (by lia) (fun p hp q hq=>by
  rw[mid_one j0 hj,List.mem_singleton] at hp
  rw[hp];exact take_lt T.sa h0 hi hlt q hq)
 rw[mid_one j0 hj] at this
 rw[push_l];exact this
theorem dnH_ok (T:Two prog w A E s ky κ a₀ a b) {o:Array Keyed} {i j:Nat} (h0:i=0) (L:MH ky a.toList b.toList o.toList i j):RS ky a b (dnH a b o i j):=by
 subst h0
 have:=L.endA T.sb
 show Mrg ky a.toList b.toList (a.extract 0 0++b.extract 0 j++o.reverse).toList
 rw[Array.toList_append,Array.toList_append,ext_take,ext_take,Array.toList_reverse]
 simpa using this
theorem fbH_ok (T:Two prog w A E s ky κ a₀ a b) {o:Array Keyed} {i j:Nat} (h1:j=1) (L:MH ky a.toList b.toList o.toList i j):RS ky a b (fbH a b o i j):=by
 subst h1
 have nb:=T.nb
 have:=L.endB T.sa T.sb (fun p hp q hq=>by
  have e1:b.toList.take 1=[b[0]]:=by
   have:=one_at nb
   rwa [List.drop_zero] at this
  rw[e1,List.mem_singleton] at hp
  rw[hp]
  have:=T.fst q (List.mem_of_mem_take hq)
  simpa using this)
 show Mrg ky a.toList b.toList (b.extract 0 1++a.extract 0 i++o.reverse).toList
 rw[Array.toList_append,Array.toList_append,ext_take,ext_take,Array.toList_reverse]
 exact this
noncomputable def R1 (ky:Keyed->Int) (a b:Array Keyed) (n:Nat) (c:H1):Prop:=(∃ r,c.1=some r/\RS ky a b r)\/(c.1=none/\HI ky a b c.2.2.2.1 c.2.1 c.2.2.1/\c.2.1+c.2.2.1<=n)
noncomputable def R2 (ky:Keyed->Int) (a b:Array Keyed) (n:Nat) (c:H2):Prop:=(∃ r,c.1=some r/\RS ky a b r)\/(c.1=none/\HI ky a b c.2.2.2.1 c.2.1 c.2.2.1/\c.2.1+c.2.2.1<=n)
theorem hw_ok (T:Two prog w A E s ky κ a₀ a b) {g:Nat} {c:H1} {st:SortSt} {Q:ForInStep H1->SortSt->Prop} (hk:kindOf st=κ) (hc:c.1=none) (L:HI ky a b c.2.2.2.1 c.2.1 c.2.2.1)
  (hd:∀ c',R1 ky a b (c.2.1+c.2.2.1 - 1) c'->Q (.done c') st) (hy:∀ c',c'.1=none->HI ky a b c'.2.2.2.1 c'.2.1 c'.2.2.1->c'.2.1+c'.2.2.1<=c.2.1+c.2.2.1 - 1->Q (.yield c') st):wpS (model prog w) A E s (hw a b g c) Q st:=by
 obtain⟨r,i,j,o,ac,bc⟩:=c
 obtain⟨m,i0,hi,j0,hj⟩:=L
 dsimp only at *
 unfold hw
 dsimp only
 have hi':i - 1<a.size:=by lia
 have hj':j - 1<b.size:=by lia
 refine wpS_bind (el_at hj' (wpS_bind (el_at hi' (wpS_bind (T.c.lt _ _ st _ (T.ib _ (by simp)) (T.ia _ (by simp)) hk ?_)))))
 dsimp only
 have ne:=T.ne hi' hj'
 by_cases hl:ky b[j - 1]<ky a[i - 1]
 ·rw[decide_eq_true hl,if_pos rfl]
  refine wpS_bind (el_at hi' ?_)
  have m2:=HI.pushA T m i0 hi (by lia) hj hl
  by_cases e:i - 1=0
  ·rw[if_pos (by rw[beq_iff_eq];exact e)]
   exact wpS_pure (hd _ (.inl ⟨_,rfl,dnH_ok T e m2⟩))
  ·rw[if_neg (by rw[beq_iff_eq];exact e)]
   have L2:HI ky a b (o.push a[i - 1]) (i - 1) j:=⟨m2,by lia,by lia,j0,hj⟩
   by_cases q:ac+1 ≥ g
   ·rw[if_pos q];exact wpS_pure (hd _ (.inr ⟨rfl,L2,by dsimp only;lia⟩))
   ·rw[if_neg q];exact wpS_pure (hy _ rfl L2 (by dsimp only;lia))
 ·rw[decide_eq_false hl,if_neg Bool.false_ne_true]
  refine wpS_bind (el_at hj' ?_)
  have m2:=HI.pushB T m i0 hi (by lia) hj (by lia)
  by_cases e:j - 1=1
  ·rw[if_pos (by rw[beq_iff_eq];exact e)]
   exact wpS_pure (hd _ (.inl ⟨_,rfl,fbH_ok T e m2⟩))
  ·rw[if_neg (by rw[beq_iff_eq];exact e)]
   have L2:HI ky a b (o.push b[j - 1]) i (j - 1):=⟨m2,i0,hi,by lia,by lia⟩
   by_cases q:bc+1 ≥ g
   ·rw[if_pos q];exact wpS_pure (hd _ (.inr ⟨rfl,L2,by dsimp only;lia⟩))
   ·rw[if_neg q];exact wpS_pure (hy _ rfl L2 (by dsimp only;lia))
theorem hp3_ok (T:Two prog w A E s ky κ a₀ a b) {g ac bc n:Nat} {o:Array Keyed} {i j:Nat} {st:SortSt} {Q:ForInStep H2->SortSt->Prop} (m:MH ky a.toList b.toList o.toList i j) (i0:0<i) (hi:i<=a.size) (j0:1<j) (hj:j<=b.size) (hlt:ky (b[j - 1]'(by lia))<ky (a[i - 1]'(by lia))) (hn:i+j<=n)
  (hd:∀ c',R2 ky a b n c'->Q (.done c') st) (hy:∀ c',c'.1=none->HI ky a b c'.2.2.2.1 c'.2.1 c'.2.2.1->c'.2.1+c'.2.2.1<=n->Q (.yield c') st):wpS (model prog w) A E s (hp3 a b g ac bc o i j) Q st:=by
 have hi':i - 1<a.size:=by lia
 unfold hp3
 refine wpS_bind (el_at hi' ?_)
 have m2:=HI.pushA T m i0 hi (by lia) hj hlt
 by_cases e:i - 1=0
 ·rw[if_pos (by rw[beq_iff_eq];exact e)]
  exact wpS_pure (hd _ (.inl ⟨_,rfl,dnH_ok T e m2⟩))
 ·rw[if_neg (by rw[beq_iff_eq];exact e)]
  have L2:HI ky a b (o.push a[i - 1]) (i - 1) j:=⟨m2,by lia,by lia,j0,hj⟩
  split
  ·exact wpS_pure (hd _ (.inr ⟨rfl,L2,by dsimp only;lia⟩))
  ·exact wpS_pure (hy _ rfl L2 (by dsimp only;lia))
theorem hp2_ok (T:Two prog w A E s ky κ a₀ a b) {g ac bc n:Nat} {o:Array Keyed} {i j:Nat} {st:SortSt} {Q:ForInStep H2->SortSt->Prop} (hk:kindOf st=κ) (m:MH ky a.toList b.toList o.toList i j) (i0:0<i) (hi:i<=a.size) (j0:1<j) (hj:j<=b.size) (hlt:ky (a[i - 1]'(by lia))<ky (b[j - 1]'(by lia))) (hn:i+j<=n)
  (hd:∀ c',R2 ky a b n c'->Q (.done c') st) (hy:∀ c',c'.1=none->HI ky a b c'.2.2.2.1 c'.2.1 c'.2.2.1->c'.2.1+c'.2.2.1<=n->Q (.yield c') st):wpS (model prog w) A E s (hp2 a b g ac bc o i j) Q st:=by
 have hi':i - 1<a.size:=by lia
 have hj':j - 1<b.size:=by lia
 unfold hp2
 refine wpS_bind (el_at hj' ?_)
 have m2:=HI.pushB T m i0 hi (by lia) hj hlt
 by_cases e:j - 1=1
 ·rw[if_pos (by rw[beq_iff_eq];exact e)]
  exact wpS_pure (hd _ (.inl ⟨_,rfl,fbH_ok T e m2⟩))
 ·rw[if_neg (by rw[beq_iff_eq];exact e)]
  refine wpS_bind (el_at hi' ?_)
  refine wpS_bind (gal_arr T.c hk (T.ia _ (by simp)) T.ib (by lia) (by lia) (srt_arr T.sb (by lia)) (fun t ht z => ?_) fun t k1 k2 k3 => ?_)
  ·rw[K_at (by lia)] at z
   exact T.ne hi' (by lia) z.symm
  ·dsimp only
   have ht:1<=t:=by
    rcases Nat.eq_zero_or_pos t with z | z
    ·exfalso
     have h1:=k3 0 (by lia) (by lia)
     rw[K_at (by lia)] at h1
     have h2:=T.fst a[i - 1] (by simp)
     simp at h1 h2
     lia
    ·exact z
   have last:t<=b.size->∀ (hb:t - 1<b.size),ky b[t - 1]<ky a[i - 1]:=fun _ hb=>by
    have h1:=k2 (t - 1) (by lia)
    rw[K_at (by lia)] at h1
    simpa using h1
   by_cases q:j - 1 - t > 0
   ·rw[if_pos q]
    have m3:MH ky a.toList b.toList (o.push b[j - 1]++(b.extract t (j - 1)).reverse).toList i t:=by
     rw[rev_append]
     refine m2.addB T.sb (by lia) fun p hp x hx => ?_
     obtain⟨u,u1,u2,u3,rfl⟩:=zfx hp
     have:=k3 u (by lia) (by lia)
     rw[Nat.zero_add,K_at (by simpa using u3)] at this
     refine take_lt T.sa i0 hi ?_ x hx
     simpa using this
    by_cases e2:t=1
    ·rw[if_pos (by rw[beq_iff_eq];exact e2)]
     exact wpS_pure (hd _ (.inl ⟨_,rfl,fbH_ok T e2 m3⟩))
    ·rw[if_neg (by rw[beq_iff_eq];exact e2),if_neg (by rw[beq_iff_eq];lia)]
     exact hp3_ok T m3 i0 hi (by lia) (by lia) (last (by lia) (by lia)) (by lia) hd hy
   ·rw[if_neg q]
    have e3:t=j - 1:=by lia
    subst e3
    exact hp3_ok T m2 i0 hi (by lia) (by lia) (last (by lia) (by lia)) (by lia) hd hy
theorem hp1_ok (T:Two prog w A E s ky κ a₀ a b) {g ac bc n:Nat} {o:Array Keyed} {i j:Nat} {st0 st:SortSt} {Q:ForInStep H2->SortSt->Prop} (hk:kindOf st=κ) (U:Un st0 st) (L:HI ky a b o i j) (hn:i+j<=n)
  (hd:∀ c' st',Un st0 st'->R2 ky a b n c'->Q (.done c') st') (hy:∀ c' st',Un st0 st'->c'.1=none->HI ky a b c'.2.2.2.1 c'.2.1 c'.2.2.1->c'.2.1+c'.2.2.1<=n->Q (.yield c') st'):wpS (model prog w) A E s (hp1 a b g ac bc o i j) Q st:=by
 obtain⟨m,i0,hi,j0,hj⟩:=L
 have hj':j - 1<b.size:=by lia
 unfold hp1
 refine wpS_bind (wpS_modify ?_)
 have U2:=U.gal g
 refine wpS_bind (el_at hj' ?_)
 refine wpS_bind (gal_arr T.c hk (T.ib _ (by simp)) T.ia (by lia) (by lia) (srt_arr T.sa (by lia)) (fun t ht z => ?_) fun t k1 k2 k3 => ?_)
 ·rw[K_at (by lia)] at z
  exact T.ne (by lia) hj' z
 ·dsimp only
  have last:0<t->∀ (hb:t - 1<a.size),ky a[t - 1]<ky b[j - 1]:=fun z hb=>by
   have h1:=k2 (t - 1) (by lia)
   rw[K_at (by lia)] at h1
   simpa using h1
  by_cases q:i - t > 0
  ·rw[if_pos q]
   have m3:MH ky a.toList b.toList (o++(a.extract t i).reverse).toList t j:=by
    rw[rev_append]
    refine m.addA T.sa (by lia) fun p hp x hx => ?_
    obtain⟨u,u1,u2,u3,rfl⟩:=zfx hp
    have:=k3 u (by lia) (by lia)
    rw[Nat.zero_add,K_at (by simpa using u3)] at this
    refine take_lt T.sb (by lia) hj ?_ x hx
    simpa using this
   by_cases e2:t=0
   ·rw[if_pos (by rw[beq_iff_eq];exact e2)]
    exact wpS_pure (hd _ _ U2 (.inl ⟨_,rfl,dnH_ok T e2 m3⟩))
   ·rw[if_neg (by rw[beq_iff_eq];exact e2)]
    exact hp2_ok T hk m3 (by lia) (by lia) j0 hj (last (by lia) (by lia)) (by lia) (fun c' h=>hd c' _ U2 h) fun c' x1 x2 x3=>hy c' _ U2 x1 x2 x3
  ·rw[if_neg q]
   have e3:t=i:=by lia
   subst e3
   exact hp2_ok T hk m i0 hi j0 hj (last i0 (by lia)) hn (fun c' h=>hd c' _ U2 h) fun c' x1 x2 x3=>hy c' _ U2 x1 x2 x3
theorem hi0_ok (T:Two prog w A E s ky κ a₀ a b) {c:H0} {st0 st:SortSt} {Q:ForInStep H0->SortSt->Prop} (hk:kindOf st0=κ) (U:Un st0 st) (hc:c.1=none) (L:HI ky a b c.2.2.2.1 c.2.1 c.2.2.1)
  (hd:∀ c' st' r,Un st0 st'->c'.1=some r->RS ky a b r->Q (.done c') st') (hy:∀ c' st',Un st0 st'->c'.1=none->HI ky a b c'.2.2.2.1 c'.2.1 c'.2.2.1->c'.2.1+c'.2.2.1+1<=c.2.1+c.2.2.1->Q (.yield c') st'):wpS (model prog w) A E s (hi0 a b c) Q st:=by
 obtain⟨r,i,j,o,g⟩:=c
 dsimp only at *
 have na:=T.na
 have li:=L.i0
 unfold hi0
 dsimp only
 have hks:kindOf st=κ:=U.kind.trans hk
 refine wpS_bind (wpS_mono (wpS_forRange (I:=fun x d st'=>st'=st/\d.1=none/\HI ky a b d.2.2.2.1 d.2.1 d.2.2.1/\d.2.1+d.2.2.1+min x 1<=i+j) (Q:=fun d st'=>st'=st/\R1 ky a b (i+j - 1) d) ?step ?fin ⟨rfl,rfl,L,by dsimp only;lia⟩) ?post)
 case fin=>
  rintro d st' ⟨rfl,d1,d2,d3⟩
  exact⟨rfl,.inr ⟨d1,d2,by lia⟩⟩
 case step=>
  rintro x d st' _ _ ⟨rfl,d1,d2,d3⟩
  have:=d2.i0
  refine hw_ok T hks d1 d2 (fun c' h=>⟨rfl,?_⟩) fun c' h1 h2 h3=>⟨rfl,h1,h2,by lia⟩
  rcases h with h | ⟨h1,h2,h3⟩
  ·exact .inl h
  ·exact .inr ⟨h1,h2,by lia⟩
 case post=>
  rintro d st' ⟨rfl,p⟩
  rcases p with ⟨q,e1,e2⟩ | ⟨e1,e2,e3⟩
  ·rw[e1];exact wpS_pure (hd _ _ q U rfl e2)
  ·rw[e1]
   dsimp only
   refine wpS_bind (rule_S ?_)
   refine wpS_bind (wpS_mono (wpS_forRange (I:=fun x e st'=>Un st0 st'/\e.1=none/\HI ky a b e.2.2.2.1 e.2.1 e.2.2.1/\e.2.1+e.2.2.1<=i+j - 1) (Q:=fun e st'=>Un st0 st'/\R2 ky a b (i+j - 1) e) ?step2 ?fin2 ⟨U,rfl,e2,e3⟩) ?post2)
   case fin2=>
    rintro e st'' ⟨u,d1,d2,d3⟩
    exact⟨u,.inr ⟨d1,d2,d3⟩⟩
   case step2=>
    rintro x e st'' _ _ ⟨u,d1,d2,d3⟩
    have hk2:kindOf st''=κ:=u.kind.trans hk
    unfold ht2
    split
    ·exact hp1_ok T hk2 u d2 d3 (fun c' st' u' h=>⟨u',h⟩) fun c' st' u' h1 h2 h3=>⟨u',h1,h2,h3⟩
    ·exact hp1_ok T hk2 u d2 d3 (fun c' st' u' h=>⟨u',h⟩) fun c' st' u' h1 h2 h3=>⟨u',h1,h2,h3⟩
   case post2=>
    rintro e st'' ⟨u,p⟩
    rcases p with ⟨q,f1,f2⟩ | ⟨f1,f2,f3⟩
    ·rw[f1];exact wpS_pure (hd _ _ q u rfl f2)
    ·rw[f1]
     dsimp only
     exact wpS_bind (wpS_modify (wpS_pure (hy _ _ (u.gal _) rfl f2 (by dsimp only;lia))))
theorem mhi (T:Two prog w A E s ky κ a₀ a b) {st:SortSt} {Q:Array Keyed->SortSt->Prop} (hk:kindOf st=κ) (h:∀ r st',Un st st'->RS ky a b r->Q r st'):wpS (model prog w) A E s (mergeHi' a b) Q st:=by
 have nb:=T.nb
 have na:=T.na
 have hi':a.size - 1<a.size:=by lia
 rw[mhi_eq]
 refine wpS_bind (rule_S ?_)
 refine wpS_bind (el_at hi' ?_)
 have m:MH ky a.toList b.toList (#[a[a.size - 1]]:Array Keyed).toList (a.size - 1) b.size:=by
  refine⟨?_,List.pairwise_singleton _ _,fun p hp q hq => ?_,fun p hp q hq => ?_⟩
  ·have e1:a.toList.drop (a.size - 1)=[a[a.size - 1]]:=by
    have:=one_at hi'
    rwa [List.take_of_length_le (by rw[List.length_drop,Array.length_toList];lia)] at this
   rw[e1,List.drop_eq_nil_of_le (by simp),List.append_nil]
  ·rw[List.mem_singleton.mp hp]
   obtain⟨u,hu,rfl⟩:=List.mem_iff_getElem.mp hq
   rw[List.length_take] at hu
   rw[List.getElem_take]
   have:=asc_at T.sa (i:=u) (j:=a.size - 1) (by lia) (by simp;lia)
   simpa using this
  ·rw[List.mem_singleton.mp hp]
   have:=T.lst q (List.mem_of_mem_take hq)
   simpa using this
 by_cases e:a.size - 1=0
 ·rw[if_pos (by rw[beq_iff_eq];exact e)]
  exact wpS_pure (h _ _ (Un.refl _) (dnH_ok T e m))
 ·rw[if_neg (by rw[beq_iff_eq];exact e)]
  by_cases e2:b.size=1
  ·rw[if_pos (by rw[beq_iff_eq];exact e2)]
   exact wpS_pure (h _ _ (Un.refl _) (fbH_ok T e2 m))
  ·rw[if_neg (by rw[beq_iff_eq];exact e2)]
   refine wpS_bind (wpS_get ?_)
   refine wpS_bind (wpS_mono (wpS_forRange (I:=fun x c st'=>Un st st'/\c.1=none/\HI ky a b c.2.2.2.1 c.2.1 c.2.2.1/\c.2.1+c.2.2.1+x<=a.size+b.size) (Q:=fun c st'=>Un st st'/\∃ r,c.1=some r/\RS ky a b r) ?step ?fin ⟨Un.refl _,rfl,⟨m,by dsimp only;lia,by dsimp only;lia,by dsimp only;lia,Nat.le_refl _⟩,by dsimp only;lia⟩) ?post)
   case fin=>
    rintro c st' ⟨u,d1,d2,d3⟩
    have:=d2.i0
    have:=d2.j0
    lia
   case step=>
    rintro x c st' _ _ ⟨u,d1,d2,d3⟩
    exact hi0_ok T hk u d1 d2 (fun c' st2 r u' h1 h2=>⟨u',r,h1,h2⟩) fun c' st2 u' h1 h2 h3=>⟨u',h1,h2,by lia⟩
   case post=>
    rintro c st' ⟨u,r,d1,d2⟩
    rw[d1]
    exact wpS_pure (h r st' u d2)
end
end Srt
namespace Srt
open PySem PyProof.Rows
noncomputable def wr (arr:Array Keyed) (sa:Nat) (ms:List (Keyed×Nat)):Array Keyed:=ms.foldl (fun a p=>a.setIfInBounds (sa+p.2) p.1) arr
noncomputable def ma2 (t : SortSt) (sa na sb nb : Nat) : StateT SortSt Sem Bool := do
  let r ← if na ≤ nb then mergeLo' ((arrOf t).extract sa sb) ((arrOf t).extract sb (sb + nb)) else mergeHi' ((arrOf t).extract sa sb) ((arrOf t).extract sb (sb + nb))
  modify fun u => setArr u (wr (arrOf u) sa r.toList.zipIdx)
  let u ← get
  return (failedOf u).isNone
theorem mergeAt'_eq (i : Nat) : mergeAt' i = (do
  let t ← get
  match (pendingOf t)[i]?, (pendingOf t)[i + 1]? with
  | some (sa, na, pw), some (sb, nb, _) => do
    set (setPending t (((pendingOf t).setIfInBounds i (sa, na + nb, pw)).eraseIdxIfInBounds (i + 1)))
    let y ← elem' (arrOf t) sb
    let r ← gallop' false y (arrOf t) sa na 0
    match r with
    | some k =>
      if (na - k == 0) = true then pure true else do
        let x ← elem' (arrOf t) (sa + k + (na - k) - 1)
        let q ← gallop' true x (arrOf t) sb nb (nb - 1)
        match q with
        | some m => if (m == 0) = true then pure true else ma2 t (sa + k) (na - k) sb m
        | _ => pure false
    | _ => pure false
  | _, _ => liftM (unsupported "internal:list.sort.pending")) := by
  first
    | rfl
    | kernel_rfl
end Srt
namespace Srt
open PySem PyProof.Rows
theorem set_S {st st':SortSt} {Q:PUnit->SortSt->Prop} {M:Model} {A:Around} {E:Value->Shared->Prop} {s:Shared} (h:Q ⟨⟩ st'):wpS M A E s (set st':StateT SortSt Sem PUnit) Q st:=by
 unfold wpS;rw[StateT.run_set];exact wpAny_pure ⟨rfl,h⟩
theorem wr_list (sa:Nat):∀ (ms:List Keyed) (n:Nat) (arr:Array Keyed),sa+n+ms.length<=arr.size->(wr arr sa (ms.zipIdx n)).toList=arr.toList.take (sa+n)++ms++arr.toList.drop (sa+n+ms.length)
 | [],n,arr,_=>by simp [wr]
 | p::ms,n,arr,h=>by
  rw[List.length_cons] at h
  have ih:=wr_list sa ms (n+1) (arr.setIfInBounds (sa+n) p) (by rw[Array.size_setIfInBounds];lia)
  rw[List.zipIdx_cons]
  show (wr (arr.setIfInBounds (sa+n) p) sa (ms.zipIdx (n+1))).toList=_
  rw[ih,Array.toList_setIfInBounds,List.length_cons]
  rw[show sa+(n+1)=sa+n+1 by lia,List.drop_set_of_lt (by lia)]
  have e1:(arr.toList.set (sa+n) p).take (sa+n+1)=arr.toList.take (sa+n)++[p]:=by
   rw[List.take_succ,List.getElem?_set_self (by simp;lia),List.take_set_of_le (by lia)];rfl
  rw[e1]
  simp only[List.append_assoc,List.singleton_append]
  congr 3
  lia
section
variable {prog:Program} {w:World} {A:Around} {E:Value->Shared->Prop} {s:Shared}
variable {ky:Keyed->Int} {κ:SortKind} {a₀:Array Keyed}
theorem K_list {arr:Array Keyed} {i:Nat} (h:i<arr.size):K ky arr i=ky (arr.toList[i]'(by simpa using h)):=by rw[K_at h];simp
theorem asc_slice {arr:Array Keyed} {lo hi:Nat} (h:Srtd ky arr lo hi) (hz:hi<=arr.size):Asc ky (arr.extract lo hi).toList:=by
 rw[ext_mid]
 refine List.pairwise_iff_getElem.mpr fun i j hi' hj' hij => ?_
 rw[List.length_take,List.length_drop,Array.length_toList] at hi' hj'
 rw[List.getElem_take,List.getElem_take,List.getElem_drop,List.getElem_drop]
 have:=h (lo+i) (lo+j) (by omega) (by omega) (by omega)
 rw[K_list (by omega),K_list (by omega)] at this
 exact this
theorem mem_slice {arr:Array Keyed} {lo hi:Nat} (hz:hi<=arr.size) {p:Keyed} (h:p ∈(arr.extract lo hi).toList):∃ u,lo<=u/\u<hi/\∃ hu:u<arr.size,p=arr[u]:=by
 rw[ext_mid] at h
 obtain⟨u,u1,u2,u3,rfl⟩:=zfx h
 refine⟨u,u1,by lia,by simpa using u3,by simp⟩
theorem el_ {sa na sb k:Nat} (h:sb=sa+na) (l:k<na):sa+k+(na - k) - 1=sb - 1:=by lia
theorem merge_at (C:Cmp prog w A E s ky κ a₀) {st:SortSt} {i sa na sb nb pw pv:Nat} {Q:Bool->SortSt->Prop} (B:SB κ a₀ st) (p1:(pendingOf st)[i]? = some (sa,na,pw)) (p2:(pendingOf st)[i+1]? = some (sb,nb,pv)) (hsb:sb=sa+na) (na0:0<na) (nb0:0<nb) (hz:sb+nb<=a₀.size)
  (s1:Srtd ky (arrOf st) sa sb) (s2:Srtd ky (arrOf st) sb (sb+nb))
  (h:∀ st',SB κ a₀ st'->pendingOf st'=((pendingOf st).setIfInBounds i (sa,na+nb,pw)).eraseIdxIfInBounds (i+1)->Same (arrOf st) (arrOf st') sa (sb+nb)->Srtd ky (arrOf st') sa (sb+nb)->Q true st'):wpS (model prog w) A E s (mergeAt' i) Q st:=by
 have sz:=B.size
 have hin:∀ p ∈(arrOf st).toList,p ∈a₀.toList:=fun p hp=>B.mem hp
 have hne:∀ u v,u<a₀.size->v<a₀.size->u ≠ v->K ky (arrOf st) u ≠ K ky (arrOf st) v:=fun u v hu hv e=>K_ne C B hu hv e
 rw[mergeAt'_eq]
 refine wpS_bind (wpS_get ?_)
 rw[p1,p2]
 dsimp only
 refine wpS_bind (set_S ?_)
 generalize hP:((pendingOf st).setIfInBounds i (sa,na+nb,pw)).eraseIdxIfInBounds (i+1)=P at h ⊢
 have B2:SB κ a₀ (setPending st P):=⟨B.perm,B.ok,B.kind⟩
 refine wpS_bind (el_at (by lia) ?_)
 refine wpS_bind (gal_arr C B2.kind (hin _ (by simp)) hin (by lia) na0 (by rw[←hsb];exact s1) (fun t ht z => ?_) fun k k1 k2 k3 => ?_)
 ·rw[←K_at (ky:=ky) (by lia)] at z
  exact hne (sa+t) sb (by lia) (by lia) (by lia) z
 dsimp only
 have eb:ky ((arrOf st)[sb]'(by lia))=K ky (arrOf st) sb:=(K_at (by lia)).symm
 rw[eb] at k2 k3
 by_cases e1:na - k=0
 ·rw[if_pos (by rw[beq_iff_eq];exact e1)]
  refine wpS_pure (h _ B2 rfl (Same.refl _ _ _) fun u v u1 u2 u3 => ?_)
  by_cases c1:v<sb
  ·exact s1 u v u1 u2 c1
  ·by_cases c2:sb<=u
   ·exact s2 u v c2 u2 u3
   ·have a1:=k2 (u - sa) (by lia)
    rw[show sa+(u - sa)=u by lia] at a1
    by_cases c3:v=sb
    ·rw[c3];exact a1
    ·have:=s2 sb v (Nat.le_refl _) (by lia) u3
     show K ky (arrOf st) u<K ky (arrOf st) v
     lia
 rw[if_neg (by rw[beq_iff_eq];exact e1)]
 have kl:k<na:=Nat.lt_of_sub_ne_zero e1
 clear e1 k1
 refine wpS_bind (el_at (by rw[el_ hsb kl];lia) ?_)
 refine wpS_bind (gal_arr C B2.kind (hin _ (by simp)) hin (by lia) (by lia) s2 (fun t ht z => ?_) fun m m1 m2 m3 => ?_)
 ·rw[←K_at (ky:=ky) (by lia)] at z
  exact hne (sb+t) (sa+k+(na - k) - 1) (by lia) (by rw[el_ hsb kl];lia) (by rw[el_ hsb kl];lia) z
 dsimp only
 have ea:ky ((arrOf st)[sa+k+(na - k) - 1]'(by rw[el_ hsb kl];lia))=K ky (arrOf st) (sb - 1):=by rw[←K_at (ky:=ky) (by rw[el_ hsb kl];lia),el_ hsb kl]
 rw[ea] at m2 m3
 have lt1:K ky (arrOf st) sb<K ky (arrOf st) (sb - 1):=by
  have:=k3 (na - 1) (by lia) (by lia)
  rw[show sa+(na - 1)=sb - 1 by lia] at this
  exact this
 have m0:m ≠ 0:=fun z=>by
  have:=m3 0 (by lia) (by lia)
  rw[Nat.add_zero] at this
  lia
 rw[if_neg (by rw[beq_iff_eq];exact m0)]
 have hx:∀ p,p ∈((arrOf st).extract (sa+k) sb).toList->∃ u,sa+k<=u/\u<sb/\ky p=K ky (arrOf st) u/\p ∈(arrOf st).toList:=fun p hp=>by
  obtain⟨u,u1,u2,u3,rfl⟩:=mem_slice (by lia) hp
  exact⟨u,u1,u2,(K_at u3).symm,by simp⟩
 have hy:∀ p,p ∈((arrOf st).extract sb (sb+m)).toList->∃ u,sb<=u/\u<sb+m/\ky p=K ky (arrOf st) u/\p ∈(arrOf st).toList:=fun p hp=>by
  obtain⟨u,u1,u2,u3,rfl⟩:=mem_slice (by lia) hp
  exact⟨u,u1,u2,(K_at u3).symm,by simp⟩
 have zx:((arrOf st).extract (sa+k) sb).size=sb - (sa+k):=by rw[Array.size_extract,Nat.min_eq_left (by lia)]
 have zy:((arrOf st).extract sb (sb+m)).size=m:=by rw[Array.size_extract,Nat.min_eq_left (by lia),Nat.add_sub_cancel_left]
 have T:Two prog w A E s ky κ a₀ ((arrOf st).extract (sa+k) sb) ((arrOf st).extract sb (sb+m)):=by
  refine⟨C,fun p hp => ?_,fun p hp => ?_,asc_slice (fun u v a1 a2 a3=>s1 u v (by lia) a2 a3) (by lia),asc_slice (fun u v a1 a2 a3=>s2 u v a1 a2 (by lia)) (by lia),fun p hp q hq => ?_,by rw[zx];lia,by rw[zy];lia,fun p hp => ?_,fun p hp => ?_⟩
  ·obtain⟨_,_,_,_,z⟩:=hx p hp;exact hin p z
  ·obtain⟨_,_,_,_,z⟩:=hy p hp;exact hin p z
  ·obtain⟨u,u1,u2,u3,_⟩:=hx p hp
   obtain⟨v,v1,v2,v3,_⟩:=hy q hq
   rw[u3,v3]
   exact hne u v (by lia) (by lia) (by lia)
  ·obtain⟨u,u1,u2,u3,_⟩:=hx p hp
   have e0:ky (((arrOf st).extract sb (sb+m)).toList[0]'(by rw[Array.length_toList,zy];lia))=K ky (arrOf st) sb:=by
    rw[K_at (by lia)];simp
   rw[e0,u3]
   have:=k3 (u - sa) (by lia) (by lia)
   rw[show sa+(u - sa)=u by lia] at this
   exact this
  ·obtain⟨v,v1,v2,v3,_⟩:=hy p hp
   have e0:ky (((arrOf st).extract (sa+k) sb).toList[((arrOf st).extract (sa+k) sb).size - 1]'(by rw[Array.length_toList,zx];lia))=K ky (arrOf st) (sb - 1):=by
    rw[K_at (by lia)]
    simp only[Array.getElem_toList,Array.getElem_extract]
    congr 2
    rw[zx];lia
   rw[e0,v3]
   have:=m2 (v - sb) (by lia)
   rw[show sb+(v - sb)=v by lia] at this
   exact this
 have hk':sa+k<=sb:=by lia
 have hsk:sa+k<=sb+m:=Nat.le_add_right_of_le hk'
 unfold ma2
 have fin:∀ r st',Un (setPending st P) st'->RS ky ((arrOf st).extract (sa+k) sb) ((arrOf st).extract sb (sb+m)) r->wpS (model prog w) A E s (do modify fun u=>setArr u (wr (arrOf u) (sa+k) r.toList.zipIdx);let u ←get;return (failedOf u).isNone) Q st':=fun r st' U R=>by
  refine wpS_bind (wpS_modify (wpS_bind (wpS_get ?_)))
  have ar:arrOf st'=arrOf st:=U.arr
  have rl:r.toList.length=sb+m - (sa+k):=by
   have:=R.perm.length_eq
   rw[List.length_append,Array.length_toList,Array.length_toList,Array.length_toList,zx,zy] at this
   rw[Array.length_toList,this,Nat.sub_add_comm hk']
  have e:=wr_list (sa+k) r.toList 0 (arrOf st') (by rw[ar,rl,Nat.add_zero,Nat.add_sub_of_le hsk];lia)
  rw[Nat.add_zero,rl,Nat.add_sub_of_le hsk] at e
  have cut:(arrOf st).toList=(arrOf st).toList.take (sa+k)++(((arrOf st).extract (sa+k) sb).toList++((arrOf st).extract sb (sb+m)).toList)++(arrOf st).toList.drop (sb+m):=by
   rw[ext_mid,ext_mid]
   have c1:=drop_cut (arrOf st).toList (n:=sa+k) (i:=sb) (by lia)
   have c2:=drop_cut (arrOf st).toList (n:=sb) (i:=sb+m) (by lia)
   have c0:(arrOf st).toList=(arrOf st).toList.take (sa+k)++(arrOf st).toList.drop (sa+k):=(List.take_append_drop _ _).symm
   rw[List.append_assoc,List.append_assoc,←c2,←c1];exact c0
  generalize hW:wr (arrOf st') (sa+k) r.toList.zipIdx=W at e ⊢
  rw[ar] at e
  have WP:W.Perm (arrOf st):=by
   refine Array.perm_iff_toList_perm.mpr ?_
   rw[e]
   conv=>rhs;rw[cut]
   exact (R.perm.append_left _).append_right _
  have Wz:W.size=a₀.size:=by rw[WP.size_eq,sz]
  have lt:((arrOf st).toList.take (sa+k)).length=sa+k:=by rw[List.length_take,Array.length_toList];lia
  have wA:∀ u,u<sa+k->W[u]? = (arrOf st)[u]? := fun u hu=>by
   rw[←Array.getElem?_toList,e,List.append_assoc,List.getElem?_append_left (by rw[lt];exact hu),List.getElem?_take_of_lt hu,Array.getElem?_toList]
  have wC:∀ u,sb+m<=u->W[u]? = (arrOf st)[u]? := fun u hu=>by
   rw[←Array.getElem?_toList,e,List.getElem?_append_right (by rw[List.length_append,lt,rl,Nat.add_sub_of_le hsk];exact hu),List.length_append,lt,rl,List.getElem?_drop,show sb+m+(u - (sa+k+(sb+m - (sa+k))))=u by rw[Nat.add_sub_of_le hsk,Nat.add_sub_of_le hu],Array.getElem?_toList]
  have wB:∀ u,sa+k<=u->u<sb+m->∃ hu:u - (sa+k)<r.toList.length,K ky W u=ky r.toList[u - (sa+k)]:=fun u u1 u2=>by
   have ul:u - (sa+k)<sb+m - (sa+k):=Nat.sub_lt_sub_right u1 u2
   refine⟨by rw[rl];exact ul,?_⟩
   unfold K
   rw[←Array.getElem?_toList,e,List.append_assoc,List.getElem?_append_right (by rw[lt];exact u1),lt,List.getElem?_append_left (by rw[rl];exact ul),List.getElem?_eq_getElem (by rw[rl];exact ul)]
  have mem:∀ u,sa+k<=u->u<sb+m->∃ v,sa+k<=v/\v<sb+m/\K ky W u=K ky (arrOf st) v:=fun u u1 u2=>by
   obtain⟨hu,eu⟩:=wB u u1 u2
   have hm:=R.perm.mem_iff.mp (List.getElem_mem hu)
   rcases List.mem_append.mp hm with hm | hm
   ·obtain⟨v,v1,v2,v3,_⟩:=hx _ hm
    exact⟨v,v1,by lia,by rw[eu,v3]⟩
   ·obtain⟨v,v1,v2,v3,_⟩:=hy _ hm
    exact⟨v,by lia,v2,by rw[eu,v3]⟩
  have low:∀ u v,sa<=u->u<sa+k->sa+k<=v->v<sb+nb->K ky (arrOf st) u<K ky (arrOf st) v:=fun u v u1 u2 v1 v2=>by
   by_cases c:v<sb
   ·exact s1 u v u1 (by lia) c
   ·have a1:=k2 (u - sa) (by lia)
    rw[show sa+(u - sa)=u by lia] at a1
    by_cases c3:v=sb
    ·rw[c3];exact a1
    ·have:=s2 sb v (Nat.le_refl _) (by lia) v2
     lia
  have high:∀ u v,sa<=u->u<sb+m->sb+m<=v->v<sb+nb->K ky (arrOf st) u<K ky (arrOf st) v:=fun u v u1 u2 v1 v2=>by
   by_cases c:sb<=u
   ·exact s2 u v c (by lia) v2
   ·have a1:=m3 (v - sb) (by lia) (by lia)
    rw[show sb+(v - sb)=v by lia] at a1
    by_cases c3:u=sb - 1
    ·rw[c3];exact a1
    ·have:=s1 u (sb - 1) u1 (by lia) (by lia)
     lia
  have ok:(failedOf (setArr st' W)).isNone=true:=by
   show (failedOf st').isNone=true
   rw[U.fail,show failedOf (setPending st P)=none from B2.ok];rfl
  show wpS (model prog w) A E s (pure (failedOf (setArr st' W)).isNone) Q (setArr st' W)
  rw[ok]
  refine wpS_pure (h _ ⟨WP.trans B.perm,by show failedOf st'=none;rw[U.fail];exact B2.ok,U.kind.trans B2.kind⟩ U.pend (fun u hu => ?_) fun u v u1 u2 u3 => ?_)
  ·rcases hu with hu | hu
   ·exact wA u (by lia)
   ·exact wC u (by lia)
  ·show K ky W u<K ky W v
   by_cases cu:u<sa+k
   ·rw[K_congr (wA u cu)]
    by_cases cv:v<sa+k
    ·rw[K_congr (wA v cv)];exact s1 u v u1 u2 (by lia)
    ·by_cases cw:v<sb+m
     ·obtain⟨x,x1,x2,x3⟩:=mem v (by lia) cw
      rw[x3];exact low u x u1 cu x1 (by lia)
     ·rw[K_congr (wC v (by lia))];exact low u v u1 cu (by lia) u3
   ·by_cases cu2:u<sb+m
    ·by_cases cw:v<sb+m
     ·obtain⟨hu,eu⟩:=wB u (by lia) cu2
      obtain⟨hv,ev⟩:=wB v (by lia) cw
      rw[eu,ev]
      exact asc_at R.srt (by lia) hv
     ·obtain⟨x,x1,x2,x3⟩:=mem u (by lia) cu2
      rw[x3,K_congr (wC v (by lia))]
      exact high x v (by lia) x2 (by lia) u3
    ·rw[K_congr (wC u (by lia)),K_congr (wC v (by lia))]
     exact s2 u v (by lia) u2 u3
 by_cases c:na - k<=m
 ·rw[if_pos c]
  exact wpS_bind (mlo T B2.kind fin)
 ·rw[if_neg c]
  exact wpS_bind (mhi T B2.kind fin)
end
end Srt
namespace Srt
open PySem PyProof.Rows
theorem ite_le {p:Prop} [Decidable p] {a b n:Nat} (h1:a+1<n) (h2:b+1<n):(if p then a else b)+1<n:=by split<;>assumption
noncomputable def addp (sz lo n : Nat) : StateT SortSt Sem (ForInStep (Option Unit × Nat)) := do
      let t ← get
      match (pendingOf t).back? with
      | some (s1, n1, _) => do
        let c ← forIn [:sz] ((none : Option Unit), ()) fun _ _ => (do
          let u ← get
          match (if (pendingOf u).size > 1 then (pendingOf u)[(pendingOf u).size - 2]? else none) with
          | some (_, _, older) =>
            if older ≤ power' sz (2 * s1 + n1) (2 * s1 + n1 + n1 + n) sz then pure (ForInStep.done (none, ())) else do
              let r ← mergeAt' ((pendingOf u).size - 2)
              if (!r) = true then pure (ForInStep.done (some (), ())) else pure (ForInStep.yield (none, ()))
          | _ => pure (ForInStep.done (none, ())))
        match c.1 with
        | some r => pure (ForInStep.done (some r, lo))
        | none => do
          modify fun u => setPending u ((pendingOf u).modify ((pendingOf u).size - 1) fun x => (x.1, x.2.1, power' sz (2 * s1 + n1) (2 * s1 + n1 + n1 + n) sz))
          modify fun u => setPending u ((pendingOf u).push (lo, n, 0))
          pure (ForInStep.yield (none, lo + n))
      | _ => do
        modify fun u => setPending u ((pendingOf u).push (lo, n, 0))
        pure (ForInStep.yield (none, lo + n))
theorem wpS_as {α:Type} {m m':StateT SortSt Sem α} {Q:α->SortSt->Prop} {st:SortSt} {M:Model} {A:Around} {E:Value->Shared->Prop} {s:Shared} (e:m=m') (h:wpS M A E s m' Q st):wpS M A E s m Q st:=by rw[e];exact h
section
variable {prog:Program} {w:World} {A:Around} {E:Value->Shared->Prop} {s:Shared}
variable {ky:Keyed->Int} {κ:SortKind} {a₀:Array Keyed}
noncomputable def Runs (ky:Keyed->Int) (arr:Array Keyed):Nat->List (Nat×Nat×Nat)->Nat->Prop
 | lo,[],hi=>lo=hi
 | lo,p::r,hi=>p.1=lo/\0<p.2.1/\Srtd ky arr lo (lo+p.2.1)/\Runs ky arr (lo+p.2.1) r hi
theorem Runs.le {arr:Array Keyed} : ∀ {p:List (Nat×Nat×Nat)} {lo hi:Nat},Runs ky arr lo p hi->lo+p.length<=hi
 | [],lo,hi,h=>by rw[show lo=hi from h];simp
 | p::r,lo,hi,h=>by
  have:=Runs.le h.2.2.2
  have:=h.2.1
  rw[List.length_cons];lia
theorem Runs.app {arr:Array Keyed} : ∀ {p q:List (Nat×Nat×Nat)} {lo hi:Nat},Runs ky arr lo (p++q) hi ↔ ∃ m,Runs ky arr lo p m/\Runs ky arr m q hi
 | [],q,lo,hi=>⟨fun h=>⟨lo,rfl,h⟩,fun ⟨m,h1,h2⟩=>by rw[show lo=m from h1];exact h2⟩
 | x::p,q,lo,hi=>by
  constructor
  ·rintro ⟨h1,h2,h3,h4⟩
   obtain⟨m,a1,a2⟩:=Runs.app.mp h4
   exact⟨m,⟨h1,h2,h3,a1⟩,a2⟩
  ·rintro ⟨m,⟨h1,h2,h3,h4⟩,h5⟩
   exact⟨h1,h2,h3,Runs.app.mpr ⟨m,h4,h5⟩⟩
theorem Runs.keep {a b:Array Keyed} {l h:Nat} (sm:Same a b l h):∀ {p:List (Nat×Nat×Nat)} {lo hi:Nat},Runs ky a lo p hi->hi<=l\/h<=lo->Runs ky b lo p hi
 | [],lo,hi,r,_=>r
 | x::p,lo,hi,⟨h1,h2,h3,h4⟩,d=>by
  have:=Runs.le h4
  exact⟨h1,h2,h3.keep sm (by lia),Runs.keep sm h4 (by lia)⟩
structure RI (ky:Keyed->Int) (κ:SortKind) (a₀:Array Keyed) (st:SortSt) (lo:Nat):Prop where
 b:SB κ a₀ st
 r:Runs ky (arrOf st) 0 (pendingOf st).toList lo
theorem merge_RI (C:Cmp prog w A E s ky κ a₀) {st:SortSt} {i lo:Nat} {Q:Bool->SortSt->Prop} (R:RI ky κ a₀ st lo) (hlo:lo<=a₀.size) (hi:i+1<(pendingOf st).size)
  (h:∀ st',RI ky κ a₀ st' lo->(pendingOf st').size+1=(pendingOf st).size->Same (arrOf st) (arrOf st') 0 lo->Q true st'):wpS (model prog w) A E s (mergeAt' i) Q st:=by
 obtain⟨B,r⟩:=R
 have hl:i+1<(pendingOf st).toList.length:=by simpa using hi
 obtain⟨l1,x,y,l2,e,el⟩:∃ l1 x y l2,(pendingOf st).toList=l1++x::y::l2/\l1.length=i:=by
  refine⟨(pendingOf st).toList.take i,(pendingOf st).toList[i],(pendingOf st).toList[i+1],(pendingOf st).toList.drop (i+2),?_,by rw[List.length_take];lia⟩
  rw[←List.drop_eq_getElem_cons,←List.drop_eq_getElem_cons,List.take_append_drop]
 obtain⟨sa,na,pw⟩:=x
 obtain⟨sb,nb,pv⟩:=y
 rw[e] at r
 obtain⟨m,r1,h1,h2,h3,h4,h5,h6,r2⟩:=Runs.app.mp r
 dsimp only at h1 h2 h3 h4 h5 h6 r2
 subst h1
 have hle:=Runs.le r2
 have p1:(pendingOf st)[i]? = some (sa,na,pw):=by rw[←Array.getElem?_toList,e,List.getElem?_append_right (by lia),el];simp
 have p2:(pendingOf st)[i+1]? = some (sb,nb,pv):=by rw[←Array.getElem?_toList,e,List.getElem?_append_right (by lia),el];simp
 refine merge_at C B p1 p2 h4 h2 h5 (by lia) (by rw[h4];exact h3) (by rw[h4];exact h6) fun st' B' pe sm so => ?_
 have ne:(pendingOf st').toList=l1++(sa,na+nb,pw)::l2:=by
  rw[pe]
  rw[Array.toList_eraseIdxIfInBounds,Array.toList_setIfInBounds,e]
  rw[List.set_append_right _ _ (by lia),el,Nat.sub_self,List.set_cons_zero]
  rw[List.eraseIdx_append_of_length_le (by lia),el,show i+1 - i=1 by lia]
  rfl
 refine h st' ⟨B',?_⟩ ?_ (sm.wide (Nat.zero_le _) (by lia))
 ·rw[ne]
  refine Runs.app.mpr ⟨sa,Runs.keep sm r1 (.inl (Nat.le_refl _)),rfl,by dsimp only;lia,?_,?_⟩
  ·dsimp only;rw[show sa+(na+nb)=sb+nb by lia];exact so
  ·dsimp only;rw[show sa+(na+nb)=sa+na+nb by lia]
   exact Runs.keep sm r2 (.inr (by lia))
 ·have e1:=congrArg List.length ne
  have e2:=congrArg List.length e
  simp at e1 e2
  lia
theorem merge_RI' (C:Cmp prog w A E s ky κ a₀) {st:SortSt} {i lo:Nat} {Q:Bool->SortSt->Prop} (R:RI ky κ a₀ st lo) (hlo:lo<=a₀.size) (hi:i+1<(pendingOf st).size) (h:∀ st',RI ky κ a₀ st' lo->Same (arrOf st) (arrOf st') 0 lo->Q true st'):wpS (model prog w) A E s (mergeAt' i) Q st:=merge_RI C R hlo hi fun st' a _ c=>h st' a c
theorem Runs.pow {arr:Array Keyed} (f:Nat×Nat×Nat->Nat×Nat×Nat) (hf:∀ p,(f p).1=p.1/\(f p).2.1=p.2.1):∀ {p:List (Nat×Nat×Nat)} {lo hi:Nat} (n:Nat),Runs ky arr lo p hi->Runs ky arr lo (p.modify n f) hi
 | [],lo,hi,n,h=>by cases n<;>exact h
 | x::p,lo,hi,0,⟨h1,h2,h3,h4⟩=>by
  show Runs ky arr lo (f x::p) hi
  obtain⟨e1,e2⟩:=hf x
  exact⟨by rw[e1];exact h1,by rw[e2];exact h2,by rw[e2];exact h3,by rw[e2];exact h4⟩
 | x::p,lo,hi,n+1,⟨h1,h2,h3,h4⟩=>⟨h1,h2,h3,Runs.pow f hf n h4⟩
theorem push_RI {st:SortSt} {lo n pw:Nat} (R:RI ky κ a₀ st lo) (n0:0<n) (hs:Srtd ky (arrOf st) lo (lo+n)):RI ky κ a₀ (setPending st ((pendingOf st).push (lo,n,pw))) (lo+n):=by
 refine⟨⟨R.b.perm,R.b.ok,R.b.kind⟩,?_⟩
 show Runs ky (arrOf st) 0 ((pendingOf st).push (lo,n,pw)).toList (lo+n)
 rw[Array.toList_push]
 exact Runs.app.mpr ⟨lo,R.r,rfl,n0,hs,rfl⟩
theorem add_run (C:Cmp prog w A E s ky κ a₀) {st:SortSt} {lo n sz:Nat} {Q:ForInStep (Option Unit×Nat)->SortSt->Prop} (R:RI ky κ a₀ st lo) (n0:0<n) (hz:lo+n<=a₀.size) (hs:Srtd ky (arrOf st) lo (lo+n)) (h:∀ st',RI ky κ a₀ st' (lo+n)->Q (.yield (none,lo+n)) st'):
  wpS (model prog w) A E s (addp sz lo n) Q st:=by
 unfold addp
 refine wpS_bind (wpS_get ?_)
 cases hb:(pendingOf st).back? with
 | none=>
  dsimp only
  exact wpS_bind (wpS_modify (wpS_pure (h _ (push_RI R n0 hs))))
 | some p=>
  obtain⟨s1,n1,pq⟩:=p
  dsimp only
  refine wpS_bind (wpS_mono (wpS_forRange (I:=fun x c st'=>c.1=none/\RI ky κ a₀ st' lo/\Srtd ky (arrOf st') lo (lo+n)) (Q:=fun c st'=>c.1=none/\RI ky κ a₀ st' lo/\Srtd ky (arrOf st') lo (lo+n)) ?step ?fin ⟨rfl,R,hs⟩) ?post)
  case fin=>exact fun c st' h=>h
  case step=>
   rintro x c st' _ _ ⟨c1,c2,c3⟩
   refine wpS_bind (wpS_get ?_)
   by_cases g:(pendingOf st').size > 1
   ·rw[if_pos g]
    cases hq:(pendingOf st')[(pendingOf st').size - 2]? with
    | none=>exact wpS_pure ⟨rfl,c2,c3⟩
    | some q=>
     obtain⟨q1,q2,q3⟩:=q
     dsimp only
     split
     ·exact wpS_pure ⟨rfl,c2,c3⟩
     ·refine wpS_bind (merge_RI' C c2 (by lia) (by lia) fun st2 r2 sm => ?_)
      rw[if_neg (by decide)]
      exact wpS_pure ⟨rfl,r2,c3.keep sm (by lia)⟩
   ·rw[if_neg g]
    exact wpS_pure ⟨rfl,c2,c3⟩
  case post=>
   rintro c st' ⟨c1,c2,c3⟩
   rw[c1]
   dsimp only
   refine wpS_bind (wpS_modify (wpS_bind (wpS_modify (wpS_pure (h _ ?_)))))
   refine push_RI (st:=setPending st' ((pendingOf st').modify ((pendingOf st').size - 1) fun x=>(x.1,x.2.1,power' sz (2 * s1+n1) (2 * s1+n1+n1+n) sz))) ⟨⟨c2.b.perm,c2.b.ok,c2.b.kind⟩,?_⟩ n0 c3
   show Runs ky (arrOf st') 0 ((pendingOf st').modify ((pendingOf st').size - 1) _).toList lo
   rw[Array.toList_modify]
   exact Runs.pow (fun x=>(x.1,x.2.1,power' sz (2 * s1+n1) (2 * s1+n1+n1+n) sz)) (fun p=>⟨rfl,rfl⟩) _ c2.r
theorem sort_runs (C:Cmp prog w A E s ky κ a₀) {st:SortSt} {Q:Unit->SortSt->Prop} (B:SB κ a₀ st) (hp:pendingOf st = #[]) (h2:2<=a₀.size) (h:∀ st',SB κ a₀ st'->Srtd ky (arrOf st') 0 a₀.size->Q () st'):wpS (model prog w) A E s sortRuns' Q st:=by
 rw[sortRuns'_eq]
 refine wpS_bind (wpS_get ?_)
 dsimp only
 rw[B.size]
 generalize minRun' a₀.size a₀.size 0=mr
 refine wpS_bind (wpS_mono (wpS_forRange (I:=fun x c st'=>c.1=none/\c.2<=a₀.size/\min x a₀.size<=c.2/\RI ky κ a₀ st' c.2) (Q:=fun c st'=>c.1=none/\RI ky κ a₀ st' a₀.size) ?step ?fin ?init) ?post)
 case init=>exact⟨rfl,Nat.zero_le _,by dsimp only;lia,⟨B,by rw[hp];rfl⟩⟩
 case fin=>
  rintro c st' ⟨c1,c2,c3,c4⟩
  refine⟨c1,?_⟩
  rw[show c.2=a₀.size by lia] at c4
  exact c4
 case step=>
  rintro x c st' _ hx ⟨c1,c2,c3,c4⟩
  obtain⟨rr,lo⟩:=c
  dsimp only at *
  by_cases g:lo ≥ a₀.size
  ·rw[if_pos g]
   rw[show lo=a₀.size by lia] at c4
   exact wpS_pure ⟨rfl,c4⟩
  ·rw[if_neg g]
   refine wpS_bind (cnt_run C (by lia) (by lia) c4.b fun n st2 n1 n2 b2 pe sm so => ?_)
   have R2:RI ky κ a₀ st2 lo:=⟨b2,by rw[pe];exact Runs.keep sm c4.r (.inl (Nat.le_refl _))⟩
   dsimp only
   by_cases q:n<mr
   ·rw[if_pos q]
    refine wpS_bind (rule_S ?_)
    refine wpS_bind (bin_sort C (by lia) (by lia) b2 so fun st3 b3 pe3 sm3 so3 => ?_)
    rw[if_neg (by decide)]
    have R3:RI ky κ a₀ st3 lo:=⟨b3,by rw[pe3];exact Runs.keep sm3 R2.r (.inl (Nat.le_refl _))⟩
    refine wpS_as (m':=addp a₀.size lo (min (a₀.size - lo) mr)) (by kernel_rfl) ?_
    refine add_run (sz:=a₀.size) C R3 (by lia) (by lia) so3 fun st4 R4=>⟨rfl,by dsimp only;lia,by dsimp only;lia,R4⟩
   ·rw[if_neg q]
    refine wpS_as (m':=addp a₀.size lo n) (by kernel_rfl) ?_
    refine add_run (sz:=a₀.size) C R2 (by lia) (by lia) so fun st4 R4=>⟨rfl,by dsimp only;lia,by dsimp only;lia,R4⟩
 case post=>
  rintro c st' ⟨c1,c4⟩
  rw[c1]
  dsimp only
  have hl:=Runs.le c4.r
  rw[Nat.zero_add,Array.length_toList] at hl
  refine wpS_bind (wpS_mono (wpS_forRange (I:=fun x d st2=>d.1=none/\RI ky κ a₀ st2 a₀.size/\(pendingOf st2).size+x<=a₀.size) (Q:=fun d st2=>d.1=none/\RI ky κ a₀ st2 a₀.size/\(pendingOf st2).size<=1) ?step2 ?fin2 ⟨rfl,c4,by lia⟩) ?post2)
  case fin2=>
   rintro d st2 ⟨d1,d2,d3⟩
   exact⟨d1,d2,by lia⟩
  case step2=>
   rintro x d st2 _ hx ⟨d1,d2,d3⟩
   refine wpS_bind (wpS_get ?_)
   by_cases g:(pendingOf st2).size<=1
   ·rw[if_pos g];exact wpS_pure ⟨rfl,d2,g⟩
   ·rw[if_neg g]
    refine wpS_bind (merge_RI C d2 (Nat.le_refl _) (ite_le (by lia) (by lia)) fun st3 r3 z3 _ => ?_)
    rw[if_neg (by decide)]
    exact wpS_pure ⟨rfl,r3,by lia⟩
  case post2=>
   rintro d st2 ⟨d1,d2,d3⟩
   rw[d1]
   refine wpS_pure (h st2 d2.b ?_)
   have r:=d2.r
   match hp2:(pendingOf st2).toList,r with
   | [],r=>
    have:0=a₀.size:=r
    lia
   | [p],r=>
    obtain⟨e1,e2,e3,e4⟩:=r
    have:0+p.2.1=a₀.size:=e4
    rw[this] at e3
    exact e3
   | p::q::l,_=>
    have:=congrArg List.length hp2
    simp at this
    lia
end
end Srt
namespace Tab
noncomputable def S:Nat->Nat
 | 0=>0
 | n+1=>5 * S n+1
theorem pow5 (n:Nat):5 ^ n=4 * S n+1:=by
 induction n with
 | zero=>rfl
 | succ n ih=>rw[Nat.pow_succ,ih,S];lia
theorem S_add (a b:Nat):S (a+b)=5 ^ b * S a+S b:=by
 induction b with
 | zero=>simp [S]
 | succ b ih=>rw[←Nat.add_assoc,S,ih,S,Nat.pow_succ,Nat.mul_add,←Nat.mul_assoc,Nat.mul_comm 5 (5 ^ b)];lia
theorem S_par (n:Nat):S n % 2=n % 2:=by
 induction n with
 | zero=>rfl
 | succ n ih=>rw[S];lia
theorem S_two (e:Nat):S (2 * e)=2 * (S e * (2 * S e+1)):=by
 rw[Nat.two_mul,S_add,pow5]
 generalize S e=x
 grind
theorem odd_co {k x:Nat} (h:x % 2=1):Nat.Coprime (2 ^ k) x:=by
 apply Nat.Coprime.pow_left
 rw[Nat.coprime_comm,Nat.coprime_iff_gcd_eq_one,Nat.gcd_comm,Nat.gcd_rec,h]
 rfl
theorem dvd_S:∀ (k d:Nat),2 ^ k ∣ S d->2 ^ k ∣ d
 | 0,d,_=>by simp
 | k+1,d,h=>by
  have par:d % 2=0:=by
   rw[←S_par]
   exact Nat.mod_eq_zero_of_dvd (Nat.dvd_trans (by rw[Nat.pow_succ];exact Nat.dvd_mul_left ..) h)
  obtain⟨e,rfl⟩:∃ e,d=2 * e:=⟨d / 2,by lia⟩
  rw[S_two,Nat.pow_succ,Nat.mul_comm] at h
  have h1:2 ^ k ∣ S e * (2 * S e+1):=Nat.dvd_of_mul_dvd_mul_left (by decide) h
  have h2:2 ^ k ∣ S e:=(odd_co (by lia)).dvd_of_dvd_mul_right h1
  rw[Nat.pow_succ,Nat.mul_comm]
  exact Nat.mul_dvd_mul_left 2 (dvd_S k e h2)
noncomputable def it (q:Nat):Nat->Nat->Nat
 | 0,i=>i
 | n+1,i=>(it q n i * 5+1) % q
theorem it_eq {q i:Nat} (h:i<q) (n:Nat):it q n i=(5 ^ n * i+S n) % q:=by
 induction n with
 | zero=>simp [it,S,Nat.mod_eq_of_lt h]
 | succ n ih=>
  rw[it,ih,S,Nat.add_mod,Nat.mul_mod,Nat.mod_mod,←Nat.mul_mod,←Nat.add_mod,Nat.pow_succ]
  congr 1
  rw[Nat.add_mul,Nat.mul_right_comm]
  lia
theorem it_lt {q i:Nat} (h:i<q) (n:Nat):it q n i<q:=by
 rw[it_eq h];exact Nat.mod_lt _ (Nat.lt_of_le_of_lt (Nat.zero_le _) h)
theorem it_add {q i:Nat} (m n:Nat):it q (m+n) i=it q n (it q m i):=by
 induction n with
 | zero=>rfl
 | succ n ih=>rw[←Nat.add_assoc,it,ih,it]
theorem it_back {k i d:Nat} (h:i<2 ^ k) (e:it (2 ^ k) d i=i):2 ^ k ∣ d:=by
 rw[it_eq h,pow5] at e
 have e1:(4 * S d+1) * i+S d=i+S d * (4 * i+1):=by
  rw[Nat.add_mul,Nat.mul_add,Nat.mul_one,Nat.one_mul,Nat.mul_comm 4 (S d),Nat.mul_assoc];lia
 rw[e1] at e
 have e2:2 ^ k ∣ S d * (4 * i+1):=by
  have:=Nat.div_add_mod (i+S d * (4 * i+1)) (2 ^ k)
  rw[e] at this
  exact⟨(i+S d * (4 * i+1)) / 2 ^ k,by lia⟩
 exact dvd_S k d ((odd_co (by lia)).dvd_of_dvd_mul_right e2)
theorem len_le:∀ (b:Nat) (l:List Nat),l.Nodup->(∀ j ∈l,j<b)->l.length<=b
 | 0,l,_,h=>by
  cases l with
  | nil=>exact Nat.le_refl _
  | cons x l=>exact absurd (h x List.mem_cons_self) (Nat.not_lt_zero _)
 | b+1,l,n,h=>by
  have:=len_le b (l.erase b) (n.erase b) fun j m=>by
   have h1:=h j (List.mem_of_mem_erase m)
   have h2:j ≠ b:=fun e=>by subst e;exact (List.Nodup.not_mem_erase n) m
   lia
  have:=List.le_length_erase (a:=b) (l:=l)
  lia
theorem all_in {b:Nat} {l:List Nat} (n:l.Nodup) (h:∀ j ∈l,j<b) (e:l.length=b):∀ j,j<b->j ∈l:=by
 intro j lt
 by_cases m:j ∈l
 ·exact m
 ·have:=len_le b (j::l) (List.nodup_cons.mpr ⟨m,n⟩) fun x mx=>(List.mem_cons.mp mx).elim (fun e=>e ▸ lt) (h x)
  rw[List.length_cons] at this
  lia
theorem le_len:∀ (b:Nat) (l:List Nat),(∀ j,j<b->j ∈l)->b<=l.length
 | 0,_,_=>Nat.zero_le _
 | b+1,l,h=>by
  have hb:=h b (Nat.lt_succ_self _)
  have:=le_len b (l.erase b) fun j lt=>(List.mem_erase_of_ne (by lia)).mpr (h j (by lia))
  rw[List.length_erase_of_mem hb] at this
  have:=List.length_pos_of_mem hb
  lia
theorem reach {k i j:Nat} (hi:i<2 ^ k) (hj:j<2 ^ k):∃ n,n<2 ^ k/\it (2 ^ k) n i=j:=by
 have nd:((List.range (2 ^ k)).map fun n=>it (2 ^ k) n i).Nodup:=by
  rw[List.nodup_iff_pairwise_ne,List.pairwise_map]
  refine List.Pairwise.imp_of_mem ?_ List.pairwise_lt_range
  intro a b ma mb lt e
  have hb:=List.mem_range.mp mb
  obtain⟨d,rfl⟩:=Nat.exists_eq_add_of_lt lt
  rw[show a+d+1=a+(d+1) by lia,it_add] at e
  have:=it_back (it_lt hi a) e.symm
  have:=Nat.le_of_dvd (by lia) this
  lia
 have:=all_in nd (fun j m=>by obtain⟨n,_,rfl⟩:=List.mem_map.mp m;exact it_lt hi n) (by simp) j hj
 obtain⟨n,m,e⟩:=List.mem_map.mp this
 exact⟨n,List.mem_range.mp m,e⟩
end Tab
namespace Tab
open PySem PySem.SetTable
noncomputable def path (t:SetTable) (h:Int):Nat->Probe
 | 0=>t.probeStart h
 | n+1=>t.advance (path t h n)
theorem path_mask {t t':SetTable} (e:t.mask=t'.mask) (h:Int):∀ n,path t h n=path t' h n
 | 0=>by simp only[path,probeStart,e]
 | n+1=>by simp only[path,path_mask e h n,advance,e]
noncomputable def head (mask:Nat) (h:Int):Nat->Nat×Nat
 | 0=>(bits h % (mask+1),bits h)
 | n+1=>leap mask (head mask h n).1 (head mask h n).2
noncomputable def more (mask i:Nat):Nat:=runEnd mask i - i
noncomputable def B (mask:Nat) (h:Int):Nat->Nat
 | 0=>0
 | n+1=>B mask h n+more mask (head mask h n).1+1
theorem more_le (mask i:Nat):more mask i<=9:=by
 unfold more runEnd
 split<;>lia
theorem more_in {mask i:Nat} (h:i<=mask):i+more mask i<=mask:=by
 unfold more runEnd
 split<;>lia
theorem B_le (mask:Nat) (h:Int):∀ n,B mask h n<=10 * n
 | 0=>Nat.le_refl _
 | n+1=>by
  have:=B_le mask h n
  have:=more_le mask (head mask h n).1
  rw[B];lia
noncomputable def st (mask:Nat) (h:Int) (n k:Nat):Probe:={ j:=(head mask h n).1+k,more:=more mask (head mask h n).1 - k,i:=(head mask h n).1,perturb:=(head mask h n).2,dummy:=none }
theorem path_k {t:SetTable} {h:Int} {n:Nat} (e:path t h (B t.mask h n)=st t.mask h n 0):∀ k,k<=more t.mask (head t.mask h n).1->path t h (B t.mask h n+k)=st t.mask h n k
 | 0,_=>e
 | k+1,l=>by
  rw[←Nat.add_assoc,path,path_k e k (by lia),advance,st,st]
  dsimp only
  rw[if_pos (by lia)]
  simp only[Probe.mk.injEq,true_and,and_true,and_self]
  lia
theorem path_B (t:SetTable) (h:Int):∀ n,path t h (B t.mask h n)=st t.mask h n 0
 | 0=>rfl
 | n+1=>by
  have:=path_k (path_B t h n) (more t.mask (head t.mask h n).1) (Nat.le_refl _)
  rw[B,path,this,advance,st,st]
  dsimp only
  rw[if_neg (by lia)]
  simp only[head,more,Nat.add_zero,Nat.sub_zero]
theorem path_at (t:SetTable) (h:Int) (n k:Nat) (l:k<=more t.mask (head t.mask h n).1):path t h (B t.mask h n+k)=st t.mask h n k:=path_k (path_B t h n) k l
theorem path_is (t:SetTable) (h:Int):∀ m,∃ n k,k<=more t.mask (head t.mask h n).1/\m=B t.mask h n+k
 | 0=>⟨0,0,Nat.zero_le _,rfl⟩
 | m+1=>by
  obtain⟨n,k,l,e⟩:=path_is t h m
  rcases Nat.lt_or_eq_of_le l with l | rfl
  ·exact⟨n,k+1,l,by lia⟩
  ·exact⟨n+1,0,Nat.zero_le _,by rw[B];lia⟩
theorem path_none (t:SetTable) (h:Int) (m:Nat):(path t h m).dummy=none:=by
 obtain⟨n,k,l,rfl⟩:=path_is t h m
 rw[path_at t h n k l];rfl
theorem head_lt (mask:Nat) (h:Int):∀ n,(head mask h n).1<=mask
 | 0=>Nat.le_of_lt_succ (Nat.mod_lt _ (Nat.succ_pos _))
 | n+1=>Nat.le_of_lt_succ (Nat.mod_lt _ (Nat.succ_pos _))
theorem path_le (t:SetTable) (h:Int) (m:Nat):(path t h m).j<=t.mask:=by
 obtain⟨n,k,l,rfl⟩:=path_is t h m
 rw[path_at t h n k l]
 have:=more_in (head_lt t.mask h n)
 show (head t.mask h n).1+k<=_
 lia
theorem head_rest (mask:Nat) (h:Int):∀ n,(head mask h n).2=bits h / 32 ^ n
 | 0=>by simp [head]
 | n+1=>by rw[head,leap];dsimp only;rw[head_rest mask h n,Nat.div_div_eq_div_mul,Nat.pow_succ]
theorem bits_lt (h:Int):bits h<2 ^ 64:=by
 unfold bits
 have:=Int.emod_lt_of_pos h (show (0:Int)<2 ^ 64 by decide)
 have:=Int.emod_nonneg h (show (2:Int) ^ 64 ≠ 0 by decide)
 lia
theorem head_zero (mask:Nat) (h:Int) (n:Nat):(head mask h (13+n)).2=0:=by
 rw[head_rest]
 apply Nat.div_eq_of_lt
 have a:=bits_lt h
 have b:(32:Nat) ^ 13<=32 ^ (13+n):=Nat.pow_le_pow_right (by decide) (by lia)
 have c:(2:Nat) ^ 64<32 ^ 13:=by decide
 lia
theorem head_it (mask:Nat) (h:Int):∀ n,(head mask h (13+n)).1=it (mask+1) n (head mask h 13).1
 | 0=>rfl
 | n+1=>by
  rw[←Nat.add_assoc,head,leap]
  dsimp only
  rw[head_zero,it,head_it mask h n]
theorem visited {mask k:Nat} (e:mask+1=2 ^ k) (h:Int) {j:Nat} (l:j<=mask):∃ n,n<=13+mask/\(head mask h n).1=j:=by
 obtain⟨n,ln,en⟩:=reach (k:=k) (i:=(head mask h 13).1) (j:=j) (by have:=head_lt mask h 13;lia) (by lia)
 exact⟨13+n,by lia,by rw[head_it,e];exact en⟩
end Tab
namespace Tab
open PySem PySem.SetTable
noncomputable def Rise (xs:Array Nat):Prop:=xs.toList.Pairwise (· < ·)
theorem Rise.lt {xs:Array Nat} (r:Rise xs) {a b x y:Nat} (l:a<b) (ha:xs[a]? = some x) (hb:xs[b]? = some y):x<y:=by
 rw[←Array.getElem?_toList] at ha hb
 obtain⟨la,ea⟩:=List.getElem?_eq_some_iff.mp ha
 obtain⟨lb,eb⟩:=List.getElem?_eq_some_iff.mp hb
 rw[←ea,←eb]
 exact List.pairwise_iff_getElem.mp r a b la lb l
theorem below_go {xs:Array Nat} {j:Nat} (r:Rise xs):∀ fuel lo hi,hi - lo<=fuel->lo<=hi->hi<=xs.size->(∀ i x,i<lo->xs[i]? = some x->x<j)->(∀ i x,hi<=i->xs[i]? = some x->j<=x) →
  below.go xs j fuel lo hi<=xs.size/\(∀ i x,i<below.go xs j fuel lo hi->xs[i]? = some x->x<j)/\(∀ i x,below.go xs j fuel lo hi<=i->xs[i]? = some x->j<=x)
 | 0,lo,hi,f,l,s,a,b=>by
  rw[below.go]
  have:lo=hi:=by lia
  subst this
  exact⟨s,a,b⟩
 | fuel+1,lo,hi,f,l,s,a,b=>by
  rw[below.go]
  by_cases lh:lo<hi
  ·rw[if_pos lh]
   dsimp only
   have lm:(lo+hi) / 2<xs.size:=by lia
   have em:xs[(lo+hi) / 2]? = some (xs[(lo+hi) / 2]'lm):=Array.getElem?_eq_getElem lm
   have eg:xs.getD ((lo+hi) / 2) j=xs[(lo+hi) / 2]'lm:=by rw[Array.getD_eq_getD_getElem?,em];rfl
   rw[eg]
   split
   ·rename_i c
    refine below_go r fuel _ _ (by lia) (by lia) s (fun i x li ei => ?_) b
    rcases Nat.lt_or_ge i ((lo+hi) / 2) with l1 | l1
    ·exact Nat.lt_trans (r.lt l1 ei em) c
    ·have:i=(lo+hi) / 2:=by lia
     subst this
     rw[em] at ei;cases ei;exact c
   ·rename_i c
    refine below_go r fuel _ _ (by lia) (by lia) (by lia) a (fun i x li ei => ?_)
    rcases Nat.lt_or_ge ((lo+hi) / 2) i with l1 | l1
    ·have:=r.lt l1 em ei;lia
    ·have:i=(lo+hi) / 2:=by lia
     subst this
     rw[em] at ei;cases ei;lia
  ·rw[if_neg lh]
   have:lo=hi:=by lia
   subst this
   exact⟨s,a,b⟩
theorem below_is {xs:Array Nat} (r:Rise xs) (j:Nat):below xs j<=xs.size/\(∀ i x,i<below xs j->xs[i]? = some x->x<j)/\(∀ i x,below xs j<=i->xs[i]? = some x->j<=x):=by
 unfold below
 refine below_go r _ _ _ (by lia) (Nat.zero_le _) (Nat.le_refl _) (fun i x l=>absurd l (Nat.not_lt_zero _)) fun i x l e => ?_
 rw[Array.getElem?_eq_none l] at e;cases e
theorem below_at {xs:Array Nat} (r:Rise xs) {i j:Nat} (e:xs[i]? = some j):below xs j=i:=by
 obtain⟨_,a,b⟩:=below_is r j
 rcases Nat.lt_trichotomy i (below xs j) with l | l | l
 ·exact absurd (a i j l e) (Nat.lt_irrefl _)
 ·exact l.symm
 ·have ls:below xs j<xs.size:=Nat.lt_trans l (Array.getElem?_eq_some_iff.mp e).1
  have:=b _ _ (Nat.le_refl _) (Array.getElem?_eq_getElem ls)
  have:=r.lt l (Array.getElem?_eq_getElem ls) e
  lia
theorem mem_at {xs:Array Nat} {j:Nat} (m:j ∈xs.toList):∃ i:Nat,xs[i]? = some j:=by
 obtain⟨i,e⟩:=List.mem_iff_getElem?.mp m
 exact⟨i,by rw[←Array.getElem?_toList];exact e⟩
theorem slot_live {t:SetTable} (r:Rise t.place) {i j:Nat} (e:t.place[i]? = some j):t.slot j=.live i:=by
 unfold slot
 dsimp only
 rw[below_at r e,e]
 simp
theorem slot_empty {t:SetTable} (d:t.dummies = #[]) {j:Nat} (n:j ∉ t.place.toList):t.slot j=.empty:=by
 unfold slot
 dsimp only
 rw[if_neg,if_neg]
 ·rw[d];simp [has,below,below.go]
 ·intro e
  have e:=eq_of_beq e
  rw[←Array.getElem?_toList] at e
  exact n (List.mem_of_getElem? e)
structure Past (t:SetTable) (hashAt:Nat->Int) (h:Int) (n m:Nat):Prop where
 le:n<=m
 live:∀ q,n<=q->q<m->∃ i:Nat,t.place[i]? = some (path t h q).j/\hashAt i ≠ h
theorem go_is {t:SetTable} (r:Rise t.place) (d:t.dummies = #[]) {hashAt:Nat->Int} {h:Int} {N:Nat} (free:(path t h N).j ∉ t.place.toList):
  ∀ fuel n,n<=N->N - n<fuel->∃ m,Past t hashAt h n m/\((probe.go t hashAt h fuel (path t h n)=some (.empty (path t h m).j none)/\(path t h m).j ∉ t.place.toList) ∨
   ∃ i,probe.go t hashAt h fuel (path t h n)=some (.candidate (path t h m).j i (path t h (m+1)))/\t.place[i]? = some (path t h m).j/\hashAt i=h)
 | 0,n,_,l=>absurd l (Nat.not_lt_zero _)
 | fuel+1,n,le,l=>by
  rw[probe.go]
  by_cases m:(path t h n).j ∈t.place.toList
  ·obtain⟨i,e⟩:=mem_at m
   rw[slot_live r e]
   dsimp only
   by_cases c:hashAt i=h
   ·refine⟨n,⟨Nat.le_refl _,fun q a b=>absurd a (by lia)⟩,.inr ⟨i,?_,e,c⟩⟩
    rw[if_pos (by simpa using c)]
    rfl
   ·have ne:n ≠ N:=fun z=>by subst z;exact free m
    obtain⟨m',p,q⟩:=go_is r d (hashAt:=hashAt) free fuel (n+1) (by lia) (by lia)
    refine⟨m',⟨by have:=p.le;lia,fun q' a b => ?_⟩,?_⟩
    ·rcases Nat.lt_or_eq_of_le a with a | rfl
     ·exact p.live q' a b
     ·exact⟨i,e,c⟩
    ·rw[if_neg (by simpa using c)]
     exact q
  ·refine⟨n,⟨Nat.le_refl _,fun q a b=>absurd a (by lia)⟩,.inl ⟨?_,m⟩⟩
   rw[slot_empty d m]
   dsimp only
   rw[path_none]
structure Ok (t:SetTable) (es:Array (Int×Value)):Prop where
 size:t.place.size=es.size
 rise:Rise t.place
 low:∀ j ∈t.place.toList,j<=t.mask
 nod:t.dummies = #[]
 pow:∃ k,3<=k/\t.mask+1=2 ^ k
 room:es.size<=t.mask
 way:∀ (i j:Nat) (e:Int×Value),t.place[i]? = some j->es[i]? = some e->∃ n,(path t e.1 n).j=j/\∀ m,m<n->(path t e.1 m).j ∈t.place.toList
theorem Ok.free {t:SetTable} {es:Array (Int×Value)} (o:Ok t es) (h:Int):∃ N,N<=10 * (13+t.mask)/\(path t h N).j ∉ t.place.toList:=by
 obtain⟨k,_,e⟩:=o.pow
 obtain⟨j,lj,nj⟩:∃ j,j<=t.mask/\j ∉ t.place.toList:=by
  apply Classical.byContradiction
  intro c
  have all:∀ j,j<t.mask+1->j ∈t.place.toList:=fun j l=>Classical.byContradiction fun z=>c ⟨j,by lia,z⟩
  have:=le_len _ _ all
  rw[Array.length_toList,o.size] at this
  have:=o.room
  lia
 obtain⟨n,ln,en⟩:=visited e h lj
 refine⟨B t.mask h n,?_,?_⟩
 ·have:=B_le t.mask h n
  lia
 ·rw[path_B]
  show (head t.mask h n).1+0 ∉ _
  rw[en];exact nj
theorem Ok.odd {t:SetTable} {es:Array (Int×Value)} (o:Ok t es):t.gaveWay=false:=by
 obtain⟨k,l,e⟩:=o.pow
 unfold gaveWay
 obtain⟨q,rfl⟩:∃ q,k=q+1:=⟨k - 1,by lia⟩
 rw[Nat.pow_succ] at e
 have:t.mask % 2=1:=by lia
 rw[this];rfl
end Tab
namespace Tab
open PySem PySem.SetTable
theorem ins_at {α:Type} {xs:Array α} {p:Nat} {x:α} (l:p<=xs.size) (i:Nat):(insertAt xs p x)[i]? = if i<p then xs[i]? else if i=p then some x else xs[i - 1]? := by
 rw[←Array.getElem?_toList,toList_insertAt]
 have lt:(xs.toList.take p).length=p:=by rw[List.length_take,Array.length_toList];lia
 by_cases a:i<p
 ·rw[if_pos a,List.getElem?_append_left (by lia),List.getElem?_take,if_pos a,Array.getElem?_toList]
 ·rw[if_neg a,List.getElem?_append_right (by lia),lt]
  by_cases b:i=p
  ·subst b;simp
  ·rw[if_neg b]
   obtain⟨q,rfl⟩:∃ q,i=p+q+1:=⟨i - p - 1,by lia⟩
   rw[show p+q+1 - p=q+1 by lia,List.getElem?_cons_succ,List.getElem?_drop,←Array.getElem?_toList,show p+q+1 - 1=p+q by lia]
theorem Ok.put {t:SetTable} {es:Array (Int×Value)} (o:Ok t es) {h:Int} {x:Value} {n:Nat} (new:(path t h n).j ∉ t.place.toList) (way:∀ m,m<n->(path t h m).j ∈t.place.toList) (room:es.size+1<=t.mask) (pl:Bool):
  Ok { (t.put (path t h n).j).1 with plain:=pl } (insertAt es (below t.place (path t h n).j) (h,x)):=by
 obtain⟨b1,b2,b3⟩:=below_is o.rise (path t h n).j
 have pe:(t.put (path t h n).j).1 = { t with place:=insertAt t.place (below t.place (path t h n).j) (path t h n).j }:=by
  have:has t.dummies (path t h n).j=false:=by rw[o.nod];simp [has,below,below.go]
  simp only[SetTable.put,this]
  rfl
 rw[pe]
 generalize hj:(path t h n).j=j at *
 generalize hp:below t.place j=p at *
 have mem:∀ {y:Nat},y ∈(insertAt t.place p j).toList ↔ y ∈t.place.toList\/y=j:=by
  intro y
  have:=(insertAt_perm t.place p j).mem_iff (a:=y)
  rw[this,Array.toList_push,List.mem_append,List.mem_singleton]
 have sz:(insertAt es p (h,x)).size=es.size+1:=by
  have:=(insertAt_perm es p (h,x)).length_eq
  simpa using this
 refine⟨?_,?_,?_,o.nod,o.pow,?_,?_⟩
 ·have:=(insertAt_perm t.place p j).length_eq
  rw[Array.length_toList,Array.length_toList,Array.size_push,o.size] at this
  rw[sz];exact this
 ·show List.Pairwise _ (insertAt t.place p j).toList
  rw[toList_insertAt,List.pairwise_append]
  have rd:(t.place.toList.take p++t.place.toList.drop p).Pairwise (· < ·):=by rw[List.take_append_drop];exact o.rise
  rw[List.pairwise_append] at rd
  have lo:∀ y ∈t.place.toList.take p,y<j:=fun y m=>by
   obtain⟨i,e⟩:=List.mem_iff_getElem?.mp m
   rw[List.getElem?_take] at e
   split at e
   ·rename_i c;exact b2 i y c (by rw[←Array.getElem?_toList];exact e)
   ·cases e
  have hi:∀ y ∈t.place.toList.drop p,j<y:=fun y m=>by
   obtain⟨i,e⟩:=List.mem_iff_getElem?.mp m
   rw[List.getElem?_drop] at e
   have h1:=b3 (p+i) y (by lia) (by rw[←Array.getElem?_toList];exact e)
   have h2:j ≠ y:=fun z=>new (z ▸ List.mem_of_mem_drop m)
   lia
  refine⟨rd.1,List.pairwise_cons.mpr ⟨hi,rd.2.1⟩,fun a ma b mb => ?_⟩
  rcases List.mem_cons.mp mb with rfl | mb
  ·exact lo a ma
  ·exact rd.2.2 a ma b mb
 ·intro y m
  rcases mem.mp m with m | rfl
  ·exact o.low y m
  ·rw[←hj];exact path_le t h n
 ·rw[sz];exact room
 ·intro i y e h1 h2
  have pm:∀ (g:Int) (q:Nat),path { t with place:=insertAt t.place p j,plain:=pl } g q=path t g q:=fun g q=>by apply path_mask;rfl
  have old:∀ i0,t.place[i0]? = some y->es[i0]? = some e->∃ n,(path t e.1 n).j=y/\∀ m,m<n->(path t e.1 m).j ∈(insertAt t.place p j).toList:=fun i0 e1 e2=>
   let ⟨n',a,b⟩:=o.way i0 y e e1 e2
   ⟨n',a,fun m l=>mem.mpr (.inl (b m l))⟩
  simp only[pm]
  have h1:(insertAt t.place p j)[i]? = some y:=h1
  rw[ins_at b1] at h1
  rw[ins_at (by rw[←o.size];exact b1)] at h2
  by_cases c:i<p
  ·rw[if_pos c] at h1 h2;exact old i h1 h2
  ·rw[if_neg c] at h1 h2
   by_cases c2:i=p
   ·rw[if_pos c2] at h1 h2
    cases h1;cases h2
    exact⟨n,hj,fun m l=>mem.mpr (.inl (way m l))⟩
   ·rw[if_neg c2] at h1 h2;exact old _ h1 h2
end Tab
namespace Tab
open PySem PySem.SetTable
structure Own (t:SetTable) (hs:List Int) (ow:Array (Option Nat)) (n:Nat):Prop where
 size:ow.size=t.mask+1
 lt:∀ (j k:Nat),ow[j]? = some (some k)->k<n
 all:∀ k,k<n->∃ j:Nat,ow[j]? = some (some k)
 inj:∀ (j j' k:Nat),ow[j]? = some (some k)->ow[j']? = some (some k)->j=j'
 way:∀ (j k:Nat) (g:Int),ow[j]? = some (some k)->hs[k]? = some g->∃ q,(path t g q).j=j/\∀ m,m<q->∃ k':Nat,ow[(path t g m).j]? = some (some k')
theorem Own.some_or {t:SetTable} {hs:List Int} {ow:Array (Option Nat)} {n:Nat} (o:Own t hs ow n) {j:Nat} (l:j<=t.mask):ow[j]? = some none\/∃ k:Nat,ow[j]? = some (some k):=by
 have lt:j<ow.size:=by rw[o.size];lia
 rw[Array.getElem?_eq_getElem lt]
 cases ow[j] with
 | none=>exact .inl rfl
 | some k=>exact .inr ⟨k,rfl⟩
theorem Own.free {t:SetTable} {hs:List Int} {ow:Array (Option Nat)} {n:Nat} (o:Own t hs ow n) (l:n<=t.mask):∃ j,j<=t.mask/\ow[j]? = some none:=by
 apply Classical.byContradiction
 intro c
 have full:∀ j,j<t.mask+1->∃ k:Nat,ow[j]? = some (some k):=fun j lj=>(o.some_or (by lia)).resolve_left fun z=>c ⟨j,by lia,z⟩
 have nd:((List.range (t.mask+1)).map fun j=>(ow.getD j none).getD 0).Nodup:=by
  rw[List.nodup_iff_pairwise_ne,List.pairwise_map]
  refine List.Pairwise.imp_of_mem ?_ List.pairwise_lt_range
  intro a b ma mb lt e
  obtain⟨k,ek⟩:=full a (List.mem_range.mp ma)
  obtain⟨k',ek'⟩:=full b (List.mem_range.mp mb)
  simp only[Array.getD_eq_getD_getElem?,ek,ek',Option.getD_some] at e
  subst e
  exact Nat.ne_of_lt lt (o.inj a b k ek ek')
 have:=len_le n _ nd fun k m=>by
  obtain⟨j,mj,rfl⟩:=List.mem_map.mp m
  obtain⟨k,ek⟩:=full j (List.mem_range.mp mj)
  simp only[Array.getD_eq_getD_getElem?,ek,Option.getD_some]
  exact o.lt j k ek
 rw[List.length_map,List.length_range] at this
 lia
theorem free_is {t:SetTable} {hs:List Int} {ow:Array (Option Nat)} {c:Nat} (o:Own t hs ow c) {h:Int} {N:Nat} (fr:ow[(head t.mask h N).1]? = some none):
  ∀ fuel n,n<=N->N - n<fuel->(∀ m,m<B t.mask h n->∃ k:Nat,ow[(path t h m).j]? = some (some k)) →
  ∃ q,layClean.free t.mask ow fuel (head t.mask h n).1 (head t.mask h n).2=some (path t h q).j/\ow[(path t h q).j]? = some none/\∀ m,m<q->∃ k:Nat,ow[(path t h m).j]? = some (some k)
 | 0,n,_,l,_=>absurd l (Nat.not_lt_zero _)
 | fuel+1,n,le,l,past=>by
  rw[layClean.free]
  have rn:runEnd t.mask (head t.mask h n).1+1 - (head t.mask h n).1=more t.mask (head t.mask h n).1+1:=by
   unfold more runEnd;split<;>lia
  have inb:∀ k,k<=more t.mask (head t.mask h n).1->(head t.mask h n).1+k<=t.mask:=fun k lk=>by
   have:=more_in (head_lt t.mask h n);lia
  have pj:∀ k,k<=more t.mask (head t.mask h n).1->(path t h (B t.mask h n+k)).j=(head t.mask h n).1+k:=fun k lk=>by rw[path_at t h n k lk];rfl
  rw[rn]
  cases f:(List.range (more t.mask (head t.mask h n).1+1)).find? fun k=>(ow.getD ((head t.mask h n).1+k) (some 0)).isNone with
  | some k=>
   dsimp only
   rw[List.find?_eq_some_iff_getElem] at f
   obtain⟨f1,i,li,rfl,f2⟩:=f
   rw[List.length_range] at li
   simp only[List.getElem_range] at f1 f2 ⊢
   refine⟨B t.mask h n+i,by rw[pj i (by lia)],?_,fun m lm => ?_⟩
   ·rw[pj i (by lia)]
    rcases o.some_or (inb i (by lia)) with z | ⟨k,z⟩
    ·exact z
    ·rw[Array.getD_eq_getD_getElem?,z] at f1;cases f1
   ·rcases Nat.lt_or_ge m (B t.mask h n) with l1 | l1
    ·exact past m l1
    ·obtain⟨q,rfl⟩:∃ q,m=B t.mask h n+q:=⟨m - B t.mask h n,by lia⟩
     rw[pj q (by lia)]
     refine (o.some_or (inb q (by lia))).resolve_left fun z => ?_
     have:=f2 q (by lia)
     rw[Array.getD_eq_getD_getElem?,z] at this;cases this
  | none=>
   dsimp only
   rw[List.find?_eq_none] at f
   have occ:∀ k,k<=more t.mask (head t.mask h n).1->∃ k':Nat,ow[(head t.mask h n).1+k]? = some (some k'):=fun k lk=>by
    refine (o.some_or (inb k lk)).resolve_left fun z=>f k (List.mem_range.mpr (by lia)) ?_
    rw[Array.getD_eq_getD_getElem?,z];rfl
   have ne:n ≠ N:=fun z=>by
    subst z
    obtain⟨k,e⟩:=occ 0 (Nat.zero_le _)
    rw[Nat.add_zero,fr] at e;cases e
   refine free_is o fr fuel (n+1) (by lia) (by lia) fun m lm => ?_
   rw[B] at lm
   rcases Nat.lt_or_ge m (B t.mask h n) with l1 | l1
   ·exact past m l1
   ·obtain⟨q,rfl⟩:∃ q,m=B t.mask h n+q:=⟨m - B t.mask h n,by lia⟩
    rw[pj q (by lia)]
    exact occ q (by lia)
noncomputable def layStep (mask : Nat) (acc : Option (Array (Option Nat) × Nat)) (h : Int) : Option (Array (Option Nat) × Nat) := do
  let (owner, k) ← acc
  let j ← layClean.free mask owner (turns mask) (bits h % (mask + 1)) (bits h)
  pure (owner.setIfInBounds j (some k), k + 1)
theorem layClean_eq (mask:Nat) (hs:Array Int):layClean mask hs=(hs.toList.foldl (layStep mask) (some (Array.replicate (mask+1) none,0))).map (·.1):=by
 unfold layClean
 rw[←Array.foldl_toList]
 rfl
theorem lay_step {t:SetTable} {k:Nat} (pw:t.mask+1=2 ^ k) {hs:List Int} {ow:Array (Option Nat)} {n:Nat} (o:Own t hs ow n) (l:n<=t.mask) {h:Int} (eh:hs[n]? = some h):
  ∃ ow',layStep t.mask (some (ow,n)) h=some (ow',n+1)/\Own t hs ow' (n+1):=by
 obtain⟨j,lj,ej⟩:=o.free l
 obtain⟨N,lN,eN⟩:=visited pw h lj
 obtain⟨q,e1,e2,e3⟩:=free_is o (h:=h) (N:=N) (by rw[eN];exact ej) (turns t.mask) 0 (Nat.zero_le _) (by unfold turns;lia) fun m lm=>absurd lm (Nat.not_lt_zero _)
 have e1:layClean.free t.mask ow (turns t.mask) (bits h % (t.mask+1)) (bits h)=some (path t h q).j:=e1
 refine⟨ow.setIfInBounds (path t h q).j (some n),by simp only[layStep,Option.bind_eq_bind,Option.bind_some,e1];rfl,?_⟩
 generalize hj:(path t h q).j=jj at *
 have lw:jj<ow.size:=(Array.getElem?_eq_some_iff.mp e2).1
 have at_:∀ i:Nat,(ow.setIfInBounds jj (some n))[i]? = if jj=i then some (some n) else ow[i]? := fun i=>by
  rw[Array.getElem?_setIfInBounds]
  split
  ·rfl
  ·rfl
 have kept:∀ (i k:Nat),ow[i]? = some (some k)->(ow.setIfInBounds jj (some n))[i]? = some (some k):=fun i k e=>by
  rw[at_,if_neg];exact e
  intro z;subst z;rw[e2] at e;cases e
 refine⟨by rw[Array.size_setIfInBounds];exact o.size,fun i k e => ?_,fun k lk => ?_,fun i i' k e e' => ?_,fun i k g e eg => ?_⟩
 ·rw[at_] at e
  split at e
  ·cases e;exact Nat.lt_succ_self _
  ·exact Nat.lt_succ_of_lt (o.lt i k e)
 ·rcases Nat.lt_or_eq_of_le (Nat.le_of_lt_succ lk) with lk | rfl
  ·obtain⟨i,e⟩:=o.all k lk
   exact⟨i,kept i k e⟩
  ·exact⟨jj,by rw[at_,if_pos rfl]⟩
 ·rw[at_] at e e'
  split at e<;>split at e'
  ·rename_i a b;rw[←a,←b]
  ·cases e;exact absurd (o.lt _ _ e') (Nat.lt_irrefl _)
  ·cases e';exact absurd (o.lt _ _ e) (Nat.lt_irrefl _)
  ·exact o.inj i i' k e e'
 ·rw[at_] at e
  split at e
  ·rename_i a
   cases e
   rw[eh] at eg;cases eg
   exact⟨q,by rw[hj,a],fun m lm=>let ⟨k',z⟩:=e3 m lm;⟨k',kept _ _ z⟩⟩
  ·obtain⟨q',a,b⟩:=o.way i k g e eg
   exact⟨q',a,fun m lm=>let ⟨k',z⟩:=b m lm;⟨k',kept _ _ z⟩⟩
theorem lay_all {t:SetTable} {k:Nat} (pw:t.mask+1=2 ^ k) {hs:List Int} (l:hs.length<=t.mask):∀ (r:List Int) (n:Nat) (ow:Array (Option Nat)),n+r.length=hs.length->hs.drop n=r->Own t hs ow n →
  ∃ ow',r.foldl (layStep t.mask) (some (ow,n))=some (ow',hs.length)/\Own t hs ow' hs.length
 | [],n,ow,e,_,o=>by
  have:n=hs.length:=by simpa using e
  subst this
  exact⟨ow,rfl,o⟩
 | h::r,n,ow,e,d,o=>by
  rw[List.length_cons] at e
  have eh:hs[n]? = some h:=by
   have:=congrArg (·[0]?) d
   simpa using this
  obtain⟨ow',e1,o'⟩:=lay_step pw o (by lia) eh
  rw[List.foldl_cons,e1]
  refine lay_all pw l r (n+1) ow' (by lia) ?_ o'
  rw[←List.drop_drop,d];rfl
end Tab
namespace Tab
open PySem PySem.SetTable
theorem fm_at {α β:Type} {f:α->Option β} : ∀ {l:List α},(∀ x ∈l,∃ y,f x=some y)->∀ i:Nat,(l.filterMap f)[i]? = l[i]?.bind f
 | [],_,i=>by simp
 | x::l,h,i=>by
  obtain⟨y,e⟩:=h x List.mem_cons_self
  rw[List.filterMap_cons,e]
  cases i with
  | zero=>simp [e]
  | succ i=>simpa using fm_at (fun z m=>h z (List.mem_cons_of_mem _ m)) i
noncomputable def live (ow:Array (Option Nat)) (mask:Nat):List (Nat×Nat):=(List.range (mask+1)).filterMap fun j=>(ow.getD j none).map (j,·)
theorem mem_live {t:SetTable} {hs:List Int} {ow:Array (Option Nat)} {n:Nat} (o:Own t hs ow n) {j k:Nat} : (j,k) ∈live ow t.mask ↔ ow[j]? = some (some k):=by
 unfold live
 rw[List.mem_filterMap]
 constructor
 ·rintro ⟨i,m,e⟩
  have lt:=List.mem_range.mp m
  rw[Array.getD_eq_getD_getElem?] at e
  rcases o.some_or (j:=i) (by lia) with z | ⟨k',z⟩
  ·rw[z] at e;cases e
  ·rw[z] at e;cases e;exact z
 ·intro e
  have lt:=(Array.getElem?_eq_some_iff.mp e).1
  rw[o.size] at lt
  exact⟨j,List.mem_range.mpr lt,by rw[Array.getD_eq_getD_getElem?,e];rfl⟩
theorem live_rise (ow:Array (Option Nat)) (mask:Nat):(live ow mask).Pairwise fun a b=>a.1<b.1:=by
 unfold live
 rw[List.pairwise_filterMap]
 refine List.Pairwise.imp ?_ List.pairwise_lt_range
 intro a b lt x ex y ey
 obtain⟨_,_,rfl⟩:=Option.map_eq_some_iff.mp ex
 obtain⟨_,_,rfl⟩:=Option.map_eq_some_iff.mp ey
 exact lt
theorem laid_ok {t:SetTable} {k:Nat} (k3:3<=k) (pw:t.mask+1=2 ^ k) (nod:t.dummies = #[]) {es:Array (Int×Value)} (l:es.size<=t.mask):
  ∃ pl ord,laid t.mask t.finger t.moves t.led t.plain (es.map (·.1))=some ({ t with place:=pl },ord)/\(ord.filterMap (es[·]?)).toList.Perm es.toList/\Ok { t with place:=pl } (ord.filterMap (es[·]?)):=by
 have hl:(es.map (·.1)).toList.length=es.size:=by simp
 have no0:∀ (j k:Nat),(Array.replicate (t.mask+1) (none:Option Nat))[j]? = some (some k)->False:=fun j k e=>by
  rw[Array.getElem?_replicate] at e
  split at e<;>cases e
 obtain⟨ow,e1,o⟩:=lay_all (t:=t) pw (hs:=(es.map (·.1)).toList) (by rw[hl];exact l) (es.map (·.1)).toList 0 (Array.replicate (t.mask+1) none) (by simp) rfl
  ⟨by simp,fun j k e=>(no0 j k e).elim,fun k lk=>absurd lk (Nat.not_lt_zero _),fun j _ k e=>(no0 j k e).elim,fun j k g e=>(no0 j k e).elim⟩
 rw[hl] at e1 o
 refine⟨((live ow t.mask).map (·.1)).toArray,((live ow t.mask).map (·.2)).toArray,?_,?_⟩
 ·unfold laid
  rw[layClean_eq,e1]
  simp only[Option.map_some,Option.bind_eq_bind,Option.bind_some]
  rw[←nod]
  rfl
 have nd:((live ow t.mask).map (·.2)).Nodup:=by
  rw[List.nodup_iff_pairwise_ne,List.pairwise_map]
  refine List.Pairwise.imp_of_mem ?_ (live_rise ow t.mask)
  rintro ⟨a,x⟩ ⟨b,y⟩ ma mb lt e
  have e:x=y:=e
  subst e
  exact Nat.ne_of_lt lt (o.inj a b x ((mem_live o).mp ma) ((mem_live o).mp mb))
 have pm:((live ow t.mask).map (·.2)).Perm (List.range es.size):=by
  rw[List.perm_ext_iff_of_nodup nd List.nodup_range]
  intro k
  rw[List.mem_map,List.mem_range]
  constructor
  ·rintro ⟨⟨j,k'⟩,m,rfl⟩
   exact o.lt j k' ((mem_live o).mp m)
  ·intro lk
   obtain⟨j,e⟩:=o.all k lk
   exact⟨(j,k),(mem_live o).mpr e,rfl⟩
 have pe:(((live ow t.mask).map (·.2)).toArray.filterMap (es[·]?)).toList.Perm es.toList:=by
  rw[Array.toList_filterMap]
  have:=pm.filterMap (es[·]?)
  rw[filterMap_getElem?_range] at this
  exact this
 refine⟨pe,?_⟩
 have es_at:∀ i:Nat,(((live ow t.mask).map (·.2)).toArray.filterMap (es[·]?))[i]? = ((live ow t.mask)[i]?.map (·.2)).bind (es[·]?):=by
  intro i
  rw[←Array.getElem?_toList,Array.toList_filterMap,fm_at,List.getElem?_map]
  intro k m
  have lk:k<es.size:=by
   have:=pm.mem_iff.mp m
   exact List.mem_range.mp this
  exact⟨es[k],Array.getElem?_eq_getElem lk⟩
 have pl_at:∀ i:Nat,((live ow t.mask).map (·.1)).toArray[i]? = (live ow t.mask)[i]?.map (·.1):=fun i=>by simp
 have memp:∀ {j:Nat},j ∈((live ow t.mask).map (·.1)).toArray.toList ↔ ∃ k:Nat,ow[j]? = some (some k):=by
  intro j
  rw[List.mem_map]
  constructor
  ·rintro ⟨⟨a,b⟩,m,rfl⟩;exact⟨b,(mem_live o).mp m⟩
  ·rintro ⟨k,e⟩;exact⟨(j,k),(mem_live o).mpr e,rfl⟩
 refine⟨?_,?_,?_,nod,⟨k,k3,pw⟩,?_,?_⟩
 ·have:=pe.length_eq
  have h2:=pm.length_eq
  rw[Array.length_toList,Array.length_toList] at this
  rw[this]
  simpa using h2
 ·show List.Pairwise _ _
  rw[List.pairwise_map]
  exact live_rise ow t.mask
 ·intro j m
  obtain⟨k,e⟩:=memp.mp m
  have lt:=(Array.getElem?_eq_some_iff.mp e).1
  rw[o.size] at lt
  show j<=t.mask
  lia
 ·have:=pe.length_eq
  rw[Array.length_toList,Array.length_toList] at this
  rw[this];exact l
 ·intro i j e h1 h2
  have h1:((live ow t.mask).map (·.1)).toArray[i]? = some j:=h1
  rw[pl_at] at h1
  rw[es_at] at h2
  obtain⟨⟨a,b⟩,e3,rfl⟩:=Option.map_eq_some_iff.mp h1
  rw[e3] at h2
  have h2:es[b]? = some e:=h2
  have eo:=(mem_live o).mp (List.mem_of_getElem? e3)
  obtain⟨q,c1,c2⟩:=o.way a b e.1 eo (by simp [h2])
  have pq:∀ (g:Int) (q:Nat),path { t with place:=((live ow t.mask).map (·.1)).toArray } g q=path t g q:=fun g q=>by apply path_mask;rfl
  simp only[pq]
  exact⟨q,c1,fun m lm=>memp.mpr (c2 m lm)⟩
end Tab
namespace Tab
open PySem PySem.Spec PySem.SetTable L4
section
variable {prog:Program} {w:World} {κ:Type} [DecidableEq κ] {knd:KeyKind prog w κ} {A:Around} {E:Value->Shared->Prop} {s:Shared}
abbrev ent (knd:KeyKind prog w κ) (x:List κ×Addr):Int×Value:=((tupleKind knd).hash x.1,.ref x.2)
structure SetAt (knd:KeyKind prog w κ) (h:Heap) (a:Addr) (kv:List (List κ×Addr)) (o:Obj) (es:Array (Int×Value)) (ep:Nat) (t:SetTable):Prop where
 got:h.get? a=some o
 ex:o.ExactSet
 dat:o.data=.set es ep t
 ok:Ok t es
 msk:t.mask ∈[7,31,127,511,2047,8191]
 room:es.size * 5<t.mask * 3
 led:t.led = !(w.params.followText "set-order")
 plain:t.plain=true
 rows:es.toList=kv.map (ent knd)
 tups:∀ x ∈kv,IsTupleKey knd h x.1 x.2
 uniq:(kv.map (·.1)).Nodup
theorem Ok.fits {t:SetTable} {es:Array (Int×Value)} (o:Ok t es):t.fits es.size=true:=by
 unfold SetTable.fits SetTable.fill
 rw[o.nod,o.size]
 simp [o.room]
section
variable {a:Addr} {kv:List (List κ×Addr)} {o:Obj} {es:Array (Int×Value)} {ep:Nat} {t:SetTable}
theorem SetAt.row (S:SetAt knd s.heap a kv o es ep t) (i:Nat):es[i]? = kv[i]?.map (ent knd):=by rw[←Array.getElem?_toList,S.rows,List.getElem?_map]
theorem SetAt.state (S:SetAt knd s.heap a kv o es ep t) {A:Around} {Q:Array (Int×Value)×Nat×SetTable->Shared->Prop} {E:Value->Shared->Prop} (q:Q (es,ep,t) s):wpAny (model prog w) A (setState a) Q E s:=wpAny_setState_of S.got S.dat S.ok.fits q
theorem plain_tuple {k:List κ} {b:Addr} (tup:IsTupleKey knd s.heap k b) {Q:Bool->Shared->Prop} (q:Q false s):wpAny (model prog w) A (ofAClassStatement 8 (.ref b)) Q E s:=by
 have ty:=tup.typeIs
 obtain⟨ob,its,n,got,cls,dat,is⟩:=tup
 unfold ofAClassStatement
 wp_walk using wpAny_typeOf ty,wpAny_seqItems got dat,idle_rows
 ·intro y m R r
  have by_:=is.byValue y m
  have:ofAClassStatement 7 y=pure false:=by
   cases y with
   | ref c=>cases by_
   | _=>rfl
  rw[this]
  wp_walk
  exact r
 ·wp_walk
  exact q
theorem unseen {k:List κ} {b:Addr} (rm:(tupleKind knd).room A) (tup:IsTupleKey knd s.heap k b):∀ (l:List (List κ×Addr)),(∀ x ∈l,IsTupleKey knd s.heap x.1 x.2)->∀ {Q:Bool->Shared->Prop},Q false s->wpAny (model prog w) A (searchCouldBeSeen (.ref b) (l.map fun x=>Value.ref x.2)) Q E s:=by
 intro l all Q q
 unfold searchCouldBeSeen
 apply wpAny_bind
 apply idle_loop
 ·wp_walk
  exact q
 ·intro y m R r
  obtain⟨x,mx,rfl⟩:=List.mem_map.mp m
  have tx:=all x mx
  have qb:∀ {R:Bool->Shared->Prop},R true s->wpAny (model prog w) A (eqIsQuiet 8 (.ref b)) R E s:=fun r=>(tupleKind knd).quiet tup r
  have qx:∀ {R:Bool->Shared->Prop},R true s->wpAny (model prog w) A (eqIsQuiet 8 (.ref x.2)) R E s:=fun r=>(tupleKind knd).quiet tx r
  dsimp only
  refine wpAny_ite_split (fun _=>wpAny_pure r) fun _ => ?_
  wp_walk using qb,qx,plain_tuple tup,plain_tuple tx
  exact r
noncomputable def hashAt (es:Array (Int×Value)) (i:Nat):Int:=(es[i]?.map (·.1)).getD 0
theorem same_i {t:SetTable} (r:Rise t.place) {i i' j:Nat} (e:t.place[i]? = some j) (e':t.place[i']? = some j):i=i':=by
 rw[←below_at r e,below_at r e']
theorem search_from (S:SetAt knd s.heap a kv o es ep t) (rm:(tupleKind knd).room A) {k:List κ} {b:Addr} (tup:IsTupleKey knd s.heap k b) {Q:SetFound->Shared->Prop} {N:Nat} (lN:N<=10 * (13+t.mask)) (fr:(path t ((tupleKind knd).hash k) N).j ∉ t.place.toList)
  (there:k ∈kv.map (·.1)->Q (.there none) s)
  (free:∀ n,(path t ((tupleKind knd).hash k) n).j ∉ t.place.toList->(∀ m,m<n->(path t ((tupleKind knd).hash k) m).j ∈t.place.toList)->k ∉ kv.map (·.1)->Q (.free (path t ((tupleKind knd).hash k) n).j false) s):
  ∀ (fuel n:Nat) (stand:Option Probe),stand.getD (t.probeStart ((tupleKind knd).hash k))=path t ((tupleKind knd).hash k) n->n<=N->N - n<fuel →
   (∀ m,m<n->∃ i:Nat,t.place[i]? = some (path t ((tupleKind knd).hash k) m).j/\∀ x,kv[i]? = some x->x.1 ≠ k) →
   wpAny (model prog w) A (setSearchFrom a (.ref b) ((tupleKind knd).hash k) true fuel stand) Q E s
 | 0,n,stand,_,_,l,_=>absurd l (Nat.not_lt_zero _)
 | fuel+1,n,stand,es_,ln,lf,past=>by
  have hg:=S.ok.odd
  obtain⟨m,p,c⟩:=go_is S.ok.rise S.ok.nod (hashAt:=hashAt es) fr (10 * turns t.mask) n ln (by unfold turns;lia)
  have mem:∀ q,q<m->(path t ((tupleKind knd).hash k) q).j ∈t.place.toList:=fun q l=>by
   rcases Nat.lt_or_ge q n with l1 | l1
   ·obtain⟨i,e,_⟩:=past q l1
    exact List.mem_of_getElem? (by rw[Array.getElem?_toList];exact e)
   ·obtain⟨i,e,_⟩:=p.live q l1 l
    exact List.mem_of_getElem? (by rw[Array.getElem?_toList];exact e)
  unfold setSearchFrom
  wp_walk using S.state
  rw[es_]
  generalize pr:t.probe _ ((tupleKind knd).hash k) (path t ((tupleKind knd).hash k) n)=met
  rcases c with ⟨e1,e2⟩ | ⟨i,e1,e2,e3⟩
  ·have:=pr.symm.trans e1
   subst this
   wp_walk
   refine free m e2 mem fun mk => ?_
   obtain⟨x,mx,rfl⟩:=List.mem_map.mp mk
   obtain⟨i,ei⟩:=List.mem_iff_getElem?.mp mx
   have row:es[i]? = some (ent knd x):=by rw[S.row,ei];rfl
   have lt:i<t.place.size:=by rw[S.ok.size];exact (Array.getElem?_eq_some_iff.mp row).1
   obtain⟨n',j',w'⟩:=S.ok.way i _ _ (Array.getElem?_eq_getElem lt) row
   have lt':n'<m:=by
    rcases Nat.lt_trichotomy n' m with l | rfl | l
    ·exact l
    ·refine absurd ?_ e2
     rw[j']
     exact List.mem_of_getElem? (by rw[Array.getElem?_toList];exact Array.getElem?_eq_getElem lt)
    ·exact absurd (w' m l) e2
   rcases Nat.lt_or_ge n' n with l | l
   ·obtain⟨i',e',ne⟩:=past n' l
    have:i=i':=same_i S.ok.rise (Array.getElem?_eq_getElem lt) (by rw[e'];exact congrArg some j')
    subst this
    exact ne x ei rfl
   ·obtain⟨i',e',ne⟩:=p.live n' l lt'
    have:i=i':=same_i S.ok.rise (Array.getElem?_eq_getElem lt) (by rw[e'];exact congrArg some j')
    subst this
    exact ne (by rw[hashAt,row];rfl)
  ·have:=pr.symm.trans e1
   subst this
   have li:i<kv.length:=by
    have:i<t.place.size:=(Array.getElem?_eq_some_iff.mp e2).1
    rw[S.ok.size,←Array.length_toList,S.rows,List.length_map] at this
    exact this
   have ei:kv[i]? = some kv[i]:=List.getElem?_eq_getElem li
   generalize kv[i]=x at ei
   have row:es[i]? = some (ent knd x):=by rw[S.row,ei];rfl
   have tx:=S.tups x (List.mem_of_getElem? ei)
   have eqx:∀ {R:Bool->Shared->Prop},R (decide (x.1=k)) s->wpAny (model prog w) A (eqBool (.ref x.2) (.ref b)) R E s:=fun r=>(tupleKind knd).eqBool rm tx tup r
   have hid:∀ {R:Bool->Shared->Prop},R false s->wpAny (model prog w) A (searchCouldBeSeen (.ref b) ((es.filter (·.1 == (tupleKind knd).hash k)).toList.map (·.2))) R E s:=fun r=>by
    rw[Array.toList_filter,S.rows,List.filter_map,List.map_map]
    exact unseen rm tup _ (fun y my=>S.tups y (List.mem_filter.mp my).1) r
   have sm:t.sameMemory t.moves t.mask=some true:=by unfold sameMemory;rw[if_pos (by simp)]
   have sl:=slot_live S.ok.rise e2
   have on:∀ q,q<m+1->∃ i:Nat,t.place[i]? = some (path t ((tupleKind knd).hash k) q).j/\∀ y,kv[i]? = some y->x.1 ≠ k->y.1 ≠ k:=fun q l=>by
    rcases Nat.lt_or_ge q n with l1 | l1
    ·obtain⟨i',e',ne⟩:=past q l1
     exact⟨i',e',fun y ey _=>ne y ey⟩
    ·rcases Nat.lt_or_eq_of_le (Nat.le_of_lt_succ l) with l2 | rfl
     ·obtain⟨i',e',ne⟩:=p.live q l1 l2
      refine⟨i',e',fun y ey _ z=>ne ?_⟩
      rw[hashAt,S.row,ey,←z];rfl
     ·refine⟨i,e2,fun y ey c => ?_⟩
      rw[ei] at ey;cases ey;exact c
   have lm:m+1<=N:=by
    rcases Nat.lt_or_ge m N with l | l
    ·exact l
    ·obtain⟨i',e',_⟩:=on N (by lia)
     exact absurd (List.mem_of_getElem? (by rw[Array.getElem?_toList];exact e')) fr
   wp_walk
   rw[row]
   cases t.led
   all_goals
    wp_walk using hid,eqx,S.state
    by_cases c:x.1=k
    ·rw[decide_eq_true c]
     wp_walk
     exact there (List.mem_map.mpr ⟨x,List.mem_of_getElem? ei,c⟩)
    ·rw[decide_eq_false c]
     wp_walk
     rw[sm]
     wp_walk
     rw[if_pos rfl,sl]
     dsimp only
     rw[row]
     wp_walk
     have lp:=p.le
     exact search_from S rm tup lN fr there free fuel (m+1) _ rfl lm (by lia) fun q l=>let ⟨i',e',f⟩:=on q l;⟨i',e',fun y ey=>f y ey c⟩
end
end
end Tab
namespace Tab
open PySem PySem.Spec PySem.SetTable L4
theorem msk_next {m u:Nat} (hm:m ∈[7,31,127,511,2047,8191]) (h1:(u - 1) * 5<m * 3) (h2:m * 3<=u * 5) (h3:u<=4000):
  sizeAbove (grown u) - 1 ∈[7,31,127,511,2047,8191]/\u * 5<(sizeAbove (grown u) - 1) * 3/\(∃ k,3<=k/\sizeAbove (grown u) - 1+1=2 ^ k)/\¬ sizeAbove (grown u) > sizeLine/\u<=sizeAbove (grown u) - 1:=by
 simp only[List.mem_cons,List.not_mem_nil,or_false] at hm
 rcases hm with rfl | rfl | rfl | rfl | rfl | rfl
 ·obtain rfl:u=5:=by lia
  exact⟨by decide,by decide,⟨5,by decide,by decide⟩,by rw[sizeLine_eq];decide,by decide⟩
 ·obtain rfl:u=19:=by lia
  exact⟨by decide,by decide,⟨7,by decide,by decide⟩,by rw[sizeLine_eq];decide,by decide⟩
 ·obtain rfl:u=77:=by lia
  exact⟨by decide,by decide,⟨9,by decide,by decide⟩,by rw[sizeLine_eq];decide,by decide⟩
 ·obtain rfl:u=307:=by lia
  exact⟨by decide,by decide,⟨11,by decide,by decide⟩,by rw[sizeLine_eq];decide,by decide⟩
 ·obtain rfl:u=1229:=by lia
  exact⟨by decide,by decide,⟨13,by decide,by decide⟩,by rw[sizeLine_eq];decide,by decide⟩
 ·lia
section
variable {prog:Program} {w:World} {κ:Type} [DecidableEq κ] {knd:KeyKind prog w κ} {A:Around} {E:Value->Shared->Prop} {s:Shared}
variable {a:Addr} {kv:List (List κ×Addr)} {o:Obj} {es:Array (Int×Value)} {ep:Nat} {t:SetTable}
noncomputable def Ints (h:Heap) (b:Addr):Prop:=∃ ob its n,h.get? b=some ob/\ob.cls=.type "tuple" ∧ ob.data=.seq its n/\∀ v ∈its.toList,∃ i u,v=Value.int i u
theorem by_value {b:Addr} (hi:Ints s.heap b) {Q:Bool->Shared->Prop} (q:Q true s):wpAny (model prog w) A (hashByValue 8 (.ref b)) Q E s:=by
 obtain⟨ob,its,n,got,cls,dat,is⟩:=hi
 have ty:s.TypeIs (.ref b) "tuple":=⟨ob,got,cls⟩
 unfold hashByValue
 apply wpAny_bind
 apply wpAny_specialOf ty F.slot_tuple_hash.lookup
 wp_walk using wpAny_seqItems got dat,idle_rows
 ·intro y m R r
  obtain⟨i,u,rfl⟩:=is y m
  wp_walk
  exact r
 ·wp_walk
  exact q
theorem tup_keeps {h h':Heap} {k:List κ} {b:Addr} (tup:IsTupleKey knd h k b) (g:∀ o,h.get? b=some o->h'.get? b=some o):IsTupleKey knd h' k b:=
 let ⟨ob,its,n,got,r⟩:=tup;⟨ob,its,n,g _ got,r⟩
theorem not_set {h:Heap} {k:List κ} {b:Addr} (tup:IsTupleKey knd h k b) (got:h.get? a=some o) (dat:o.data=.set es ep t):b ≠ a:=fun z=>by
 obtain⟨ob,its,n,g,_,d,_⟩:=tup
 subst z
 rw[got] at g;cases g;rw[dat] at d;cases d
theorem perm_back {α β:Type} {f:α->β} {l l':List β} (p:l'.Perm l):∀ kv:List α,l=kv.map f->∃ kv':List α,l'=kv'.map f/\kv'.Perm kv:=by
 induction p with
 | nil=>intro kv e;exact⟨kv,e,.refl _⟩
 | cons x _ ih=>
  intro kv e
  cases kv with
  | nil=>cases e
  | cons y kv=>
   rw[List.map_cons,List.cons.injEq] at e
   obtain⟨kv',e',p'⟩:=ih kv e.2
   exact⟨y::kv',by rw[List.map_cons,←e',e.1],p'.cons y⟩
 | swap x y l=>
  intro kv e
  match kv,e with
  | a::b::kv,e=>
   simp only[List.map_cons,List.cons.injEq] at e
   exact⟨b::a::kv,by simp only[List.map_cons,e.1,e.2.1,e.2.2],.swap a b kv⟩
 | trans _ _ ih1 ih2=>
  intro kv e
  obtain⟨k1,e1,p1⟩:=ih2 kv e
  obtain⟨k2,e2,p2⟩:=ih1 k1 e1
  exact⟨k2,e2,p2.trans p1⟩
structure SetIn (knd:KeyKind prog w κ) (h:Heap) (a:Addr) (kv:List (List κ×Addr)) (o:Obj) (es:Array (Int×Value)) (ep:Nat) (t:SetTable):Prop where
 got:h.get? a=some o
 ex:o.ExactSet
 dat:o.data=.set es ep t
 ok:Ok t es
 led:t.led = !(w.params.followText "set-order")
 plain:t.plain=true
 rows:es.toList=kv.map (ent knd)
 tups:∀ x ∈kv,IsTupleKey knd h x.1 x.2
 uniq:(kv.map (·.1)).Nodup
theorem SetIn.at {h:Heap} (S:SetIn knd h a kv o es ep t) (msk:t.mask ∈[7,31,127,511,2047,8191]) (room:es.size * 5<t.mask * 3):SetAt knd h a kv o es ep t:=⟨S.got,S.ex,S.dat,S.ok,msk,room,S.led,S.plain,S.rows,S.tups,S.uniq⟩
theorem SetIn.store {h:Heap} (S:SetIn knd h a kv o es ep t) {kv':List (List κ×Addr)} {es':Array (Int×Value)} {t':SetTable} (ok:Ok t' es') (led:t'.led=t.led) (plain:t'.plain=t.plain) (rows:es'.toList=kv'.map (ent knd)) (tups:∀ x ∈kv',IsTupleKey knd h x.1 x.2) (uniq:(kv'.map (·.1)).Nodup):
  SetIn knd (h.update a (Obj.putSet es' t')) a kv' { o with data:=.set es' (ep+1) t' } es' (ep+1) t':=by
 have g:(h.update a (Obj.putSet es' t')).get? a=some { o with data:=.set es' (ep+1) t' }:=by
  have:=Heap.get?_update_self (Obj.putSet es' t') S.got (by rw[putSet_of es' t' S.dat];rfl)
  rw[putSet_of es' t' S.dat] at this
  exact this
 refine⟨g,S.ex,rfl,ok,led.trans S.led,plain.trans S.plain,rows,fun x m=>tup_keeps (tups x m) fun ob gb => ?_,uniq⟩
 exact (Heap.get?_update_other _ _ (Ne.symm (not_set (tups x m) S.got S.dat))).trans gb
theorem relay (S:SetIn knd s.heap a kv o es ep t) {m:Nat} (hm:t.mask=m) (msk:m ∈[7,31,127,511,2047,8191]) (r1:(es.size - 1) * 5<m * 3) (r2:m * 3<=es.size * 5) (few:es.size<=4000) {Q:Unit->Shared->Prop}
  (q:∀ h' kv' o' es' ep' t',SetAt knd h' a kv' o' es' ep' t'->kv'.Perm kv->Heap.SameBut a s.heap h'->Q () { s with heap:=h' }):wpAny (model prog w) A (setRelay a (grown es.size)) Q E s:=by
 obtain⟨n1,n2,⟨k,n3,n4⟩,n5,n6⟩:=msk_next msk r1 r2 few
 have state:∀ {A:Around} {Q:Array (Int×Value)×Nat×SetTable->Shared->Prop} {E:Value->Shared->Prop},Q (es,ep,t) s->wpAny (model prog w) A (setState a) Q E s:=fun q=>wpAny_setState_of S.got S.dat S.ok.fits q
 obtain⟨pl,ord,e1,pe,ok⟩:=laid_ok (t:={ t with mask:=sizeAbove (grown es.size) - 1,moves:=t.movedTo (sizeAbove (grown es.size) - 1) }) n3 n4 S.ok.nod (es:=es) n6
 have e1:t.relaid (es.map (·.1)) (grown es.size)=some ({ t with mask:=sizeAbove (grown es.size) - 1,moves:=t.movedTo (sizeAbove (grown es.size) - 1),place:=pl },ord):=e1
 have sz:(ord.filterMap (es[·]?)).size=es.size:=by
  have:=pe.length_eq
  rw[Array.length_toList,Array.length_toList] at this
  exact this
 obtain⟨kv',rows,pk⟩:∃ kv':List (List κ×Addr),(ord.filterMap (es[·]?)).toList=kv'.map (ent knd)/\kv'.Perm kv:=perm_back pe kv S.rows
 unfold setRelay
 wp_walk using state
 rw[e1]
 wp_walk using wpAny_storeSet_of S.got S.dat
 have now:=S.store (kv':=kv') ok rfl rfl rows (fun x m=>S.tups x (pk.mem_iff.mp m)) ((pk.map _).nodup_iff.mpr S.uniq)
 exact q _ kv' _ _ _ _ (now.at n1 (by rw[sz];exact n2)) pk (Heap.SameBut.update ..)
theorem set_add (S:SetAt knd s.heap a kv o es ep t) (rm:(tupleKind knd).room A) {k:List κ} {b:Addr} (tup:IsTupleKey knd s.heap k b) (hi:Ints s.heap b) (few:k ∉ kv.map (·.1)->kv.length+1<=4000) {Q:Bool->Shared->Prop}
  (old:∀ tk,k ∈kv.map (·.1)->Q false { s with toks:=tk })
  (new:∀ h' tk kv' o' es' ep' t',k ∉ kv.map (·.1)->SetAt knd h' a kv' o' es' ep' t'->kv'.Perm ((k,b)::kv)->Heap.SameBut a s.heap h'->Q true { s with heap:=h',toks:=tk }):
  wpAny (model prog w) A (setAdd a (.ref b)) Q E s:=by
 have hash:∀ {R:Int->Shared->Prop},R ((tupleKind knd).hash k) { s with toks:=s.toks+(tupleKind knd).draws k } -> wpAny (model prog w) A (pyHash (.ref b)) R E s:=fun r=>(tupleKind knd).pyHash rm tup r
 obtain⟨N,lN,fr⟩:=S.ok.free ((tupleKind knd).hash k)
 have lm:t.mask<=8191:=by
  have:=S.msk
  simp only[List.mem_cons,List.not_mem_nil,or_false] at this
  lia
 let s1:Shared:={ s with toks:=s.toks+(tupleKind knd).draws k }
 have S1:SetAt knd s1.heap a kv o es ep t:=S
 have find:∀ {R:SetFound->Shared->Prop},(k ∈kv.map (·.1)->R (.there none) s1)->(∀ n,(path t ((tupleKind knd).hash k) n).j ∉ t.place.toList->(∀ m,m<n->(path t ((tupleKind knd).hash k) m).j ∈t.place.toList)->k ∉ kv.map (·.1)->R (.free (path t ((tupleKind knd).hash k) n).j false) s1) →
   wpAny (model prog w) A (setSearch a (.ref b) ((tupleKind knd).hash k) true) R E s1:=fun r1 r2=>search_from S1 rm tup lN fr r1 r2 100000 0 none rfl (Nat.zero_le _) (by lia) fun m l=>absurd l (Nat.not_lt_zero _)
 wp_walk using hash,S1.state,find
 ·intro mk
  wp_walk
  exact old _ mk
 ·intro n nin way nk
  have hi1:Ints s1.heap b:=hi
  have lk:kv.length+1<=4000:=few nk
  have le:es.size=kv.length:=by rw[←Array.length_toList,S.rows,List.length_map]
  have rm1:es.size+1<=t.mask:=by
   have:=S.room
   have:=S.msk
   simp only[List.mem_cons,List.not_mem_nil,or_false] at this
   lia
  have ok2:Ok (t.put (path t ((tupleKind knd).hash k) n).j).1 (insertAt es (t.put (path t ((tupleKind knd).hash k) n).j).2 (ent knd (k,b))):=S.ok.put nin way rm1 t.plain
  have sz2:(insertAt es (t.put (path t ((tupleKind knd).hash k) n).j).2 (ent knd (k,b))).size=es.size+1:=by
   have:=(insertAt_perm es (t.put (path t ((tupleKind knd).hash k) n).j).2 (ent knd (k,b))).length_eq
   simpa using this
  have plain:(t.put (path t ((tupleKind knd).hash k) n).j).1.plain=true:=S.plain
  have rows2:(insertAt es (t.put (path t ((tupleKind knd).hash k) n).j).2 (ent knd (k,b))).toList=(kv.take (t.put (path t ((tupleKind knd).hash k) n).j).2++(k,b)::kv.drop (t.put (path t ((tupleKind knd).hash k) n).j).2).map (ent knd):=by
   rw[toList_insertAt,S.rows,List.map_append,List.map_cons,List.map_take,List.map_drop]
  have pk2:(kv.take (t.put (path t ((tupleKind knd).hash k) n).j).2++(k,b)::kv.drop (t.put (path t ((tupleKind knd).hash k) n).j).2).Perm ((k,b)::kv):=by
   have:=List.perm_middle (a:=(k,b)) (l₁:=kv.take (t.put (path t ((tupleKind knd).hash k) n).j).2) (l₂:=kv.drop (t.put (path t ((tupleKind knd).hash k) n).j).2)
   rw[List.take_append_drop] at this
   exact this
  have in1:SetIn knd s1.heap a kv o es ep t:=⟨S.got,S.ex,S.dat,S.ok,S.led,S.plain,S.rows,S.tups,S.uniq⟩
  have uq:(((k,b)::kv).map (·.1)).Nodup:=List.nodup_cons.mpr ⟨nk,S.uniq⟩
  have in2:=in1.store (kv':=kv.take (t.put (path t ((tupleKind knd).hash k) n).j).2++(k,b)::kv.drop (t.put (path t ((tupleKind knd).hash k) n).j).2) ok2 rfl rfl rows2 (fun x m=>by
   rcases List.mem_cons.mp (pk2.mem_iff.mp m) with rfl | m
   ·exact tup
   ·exact S.tups x m) ((pk2.map _).nodup_iff.mpr uq)
  have store:∀ {R:Unit->Shared->Prop} (T:SetTable),T=(t.put (path t ((tupleKind knd).hash k) n).j).1->R () { s1 with heap:=s1.heap.update a (Obj.putSet (insertAt es (t.put (path t ((tupleKind knd).hash k) n).j).2 (ent knd (k,b))) (t.put (path t ((tupleKind knd).hash k) n).j).1) } →
    wpAny (model prog w) A (storeSet a (insertAt es (t.put (path t ((tupleKind knd).hash k) n).j).2 ((tupleKind knd).hash k,.ref b)) T) R E s1:=fun T e r=>by
   subst e
   exact wpAny_storeSet_of S1.got S1.dat r (by rw[sz2,sizeLine_eq];lia)
  wp_walk using S1.state,by_value hi1,store _ (if_pos rfl)
  rw[if_pos (rfl:true=true)]
  have full:(t.put (path t ((tupleKind knd).hash k) n).j).1.tooFull=decide ((es.size+1) * 5 ≥ t.mask * 3):=by
   unfold tooFull fill
   rw[ok2.nod,ok2.size,sz2]
   rfl
  rw[full]
  by_cases c:(es.size+1) * 5 ≥ t.mask * 3
  ·rw[decide_eq_true c]
   have rel:∀ {R:Unit->Shared->Prop},(∀ h' kv' o' es' ep' t',SetAt knd h' a kv' o' es' ep' t'->kv'.Perm _->Heap.SameBut a _ h'->R () { s1 with heap:=h' }) →
     wpAny (model prog w) A (setRelay a (grown (es.size+1))) R E { s1 with heap:=s1.heap.update a (Obj.putSet (insertAt es (t.put (path t ((tupleKind knd).hash k) n).j).2 (ent knd (k,b))) (t.put (path t ((tupleKind knd).hash k) n).j).1) }:=fun r=>by
    have:=relay (A:=A) (E:=E) (s:={ s1 with heap:=s1.heap.update a (Obj.putSet (insertAt es (t.put (path t ((tupleKind knd).hash k) n).j).2 (ent knd (k,b))) (t.put (path t ((tupleKind knd).hash k) n).j).1) }) (t:=(t.put (path t ((tupleKind knd).hash k) n).j).1) (m:=t.mask) in2 rfl S.msk (by rw[sz2];exact S.room) (by rw[sz2];exact c) (by lia) r
    rw[sz2] at this
    exact this
   wp_walk using rel
   intro h' kv' o' es' ep' t' S' p' sb
   wp_walk
   exact new h' _ kv' o' es' ep' t' nk S' (p'.trans pk2) ((Heap.SameBut.update ..).trans sb)
  ·rw[decide_eq_false c]
   wp_walk
   exact new _ _ _ _ _ _ _ nk (in2.at S.msk (by rw[sz2];exact Nat.not_le.mp c)) pk2 (Heap.SameBut.update ..)
end
end Tab
namespace Tab
open PySem PySem.Spec PySem.SetTable L4 PyProof.Rows
section
variable {prog:Program} {w:World} {κ:Type} [DecidableEq κ] {knd:KeyKind prog w κ} {A:Around} {E:Value->Shared->Prop} {s:Shared}
variable {a it:Addr} {kv xs:List (List κ×Addr)} {o:Obj} {es:Array (Int×Value)} {ep:Nat} {t:SetTable} {foot out:List Addr} {len:Nat} {Is:Nat->Value->Prop} {At:Nat->Heap->Prop} {R:Result->Shared->Prop}
structure Src (knd:KeyKind prog w κ) (h:Heap) (xs:List (List κ×Addr)):Prop where
 tup:∀ x ∈xs,IsTupleKey knd h x.1 x.2
 int:∀ x ∈xs,Ints h x.2
theorem Src.keeps {h h':Heap} (S:Src knd h xs) (k:∀ x ∈xs,∀ o,h.get? x.2=some o->h'.get? x.2=some o):Src knd h' xs:=
 ⟨fun x m=>tup_keeps (S.tup x m) (k x m),fun x m=>let ⟨ob,its,n,g,r⟩:=S.int x m;⟨ob,its,n,k x m _ g,r⟩⟩
theorem fill_go (W:Walks prog w A.in1 it foot out len (fun i v=>∃ x,xs[i]? = some x/\v=.ref x.2) At) (na:a ∉ foot) (nx:∀ x ∈xs,x.2 ∉ out) (hl:len=xs.length) (rm:(tupleKind knd).room A.in1)
  (few:∀ ks:List (List κ),ks.Nodup->(∀ k ∈ks,k ∈xs.map (·.1))->ks.length<=4000):
  ∀ (left i:Nat) (s:Shared) (kv:List (List κ×Addr)) (o:Obj) (es:Array (Int×Value)) (ep:Nat) (t:SetTable),left+i=len->At i s.heap->SetAt knd s.heap a kv o es ep t->Src knd s.heap xs->(∀ x ∈kv,x ∈xs)->(∀ j x,j<i->xs[j]? = some x->x.1 ∈kv.map (·.1)) →
  (∀ h' tk kv' o' es' ep' t',SetAt knd h' a kv' o' es' ep' t'->(∀ x ∈kv',x ∈xs)->(∀ x ∈xs,x.1 ∈kv'.map (·.1))->(∀ b o,b ∉ out->b ≠ a->s.heap.get? b=some o->h'.get? b=some o)->R (.ok (.ret .none)) { s with heap:=h',toks:=tk }) →
  codeAny (model prog w) A (.builtin "set.update.loop" ⟨[.ref a,.ref it],[]⟩) R s
 | 0,i,s,kv,o,es,ep,t,ll,here,S,src,sub,all,fin=>by
  have no:a ∉ out:=fun z=>na (W.sub _ z)
  have here':At len s.heap:=by rw[←ll,Nat.zero_add];exact here
  apply codeAny_builtin F.entry_set_update_loop
  rw[Around.under_plainId F.plain_set_update_loop _]
  wp_walk using W.done _ _ _ here'
  intro h' tk kept
  wp_walk
  refine fin h' tk kv o es ep t ⟨kept a _ no S.got,S.ex,S.dat,S.ok,S.msk,S.room,S.led,S.plain,S.rows,fun x m=>tup_keeps (S.tups x m) fun ob g=>kept _ _ (nx x (sub x m)) g,S.uniq⟩ sub (fun x m => ?_) fun b o n1 _ e=>kept b o n1 e
  obtain⟨j,e⟩:=List.mem_iff_getElem?.mp m
  exact all j x (by have:=(List.getElem?_eq_some_iff.mp e).1;lia) e
 | left+1,i,s,kv,o,es,ep,t,ll,here,S,src,sub,all,fin=>by
  have no:a ∉ out:=fun z=>na (W.sub _ z)
  have more:i<len:=by lia
  apply codeAny_builtin F.entry_set_update_loop
  rw[Around.under_plainId F.plain_set_update_loop _]
  wp_walk using W.item _ _ _ _ more here
  rintro v h' tk ⟨x,ex,rfl⟩ next kept
  have mx:x ∈xs:=List.mem_of_getElem? ex
  have S1:SetAt knd h' a kv o es ep t:=⟨kept a _ no S.got,S.ex,S.dat,S.ok,S.msk,S.room,S.led,S.plain,S.rows,fun x m=>tup_keeps (S.tups x m) fun ob g=>kept _ _ (nx x (sub x m)) g,S.uniq⟩
  have src1:Src knd h' xs:=src.keeps fun y m ob g=>kept _ _ (nx y m) g
  have add:∀ {Q:Bool->Shared->Prop} {E:Value->Shared->Prop},_:=fun {Q} {E} => set_add (A:=A.in1) (E:=E) (s:={ s with heap:=h',toks:=tk }) S1 rm (src1.tup x mx) (src1.int x mx) (fun nk=>by
   have:=few (x.1::kv.map (·.1)) (List.nodup_cons.mpr ⟨nk,S.uniq⟩) fun k mk=>by
    rcases List.mem_cons.mp mk with rfl | mk
    ·exact List.mem_map.mpr ⟨x,mx,rfl⟩
    ·obtain⟨y,my,rfl⟩:=List.mem_map.mp mk
     exact List.mem_map.mpr ⟨y,sub y my,rfl⟩
   simpa using this) (Q:=Q)
  wp_walk using add
  ·intro tk' mk
   wp_walk
   refine⟨plainId_quiet F.plain_set_update_loop _,fill_go W na nx hl rm few left (i+1) _ kv o es ep t (by lia) next S1 src1 sub (fun j y l e => ?_) ?_⟩
   ·rcases Nat.lt_or_eq_of_le (Nat.le_of_lt_succ l) with l | rfl
    ·exact all j y l e
    ·rw[ex] at e;cases e;exact mk
   ·exact fun h2 tk2 kv' o' es' ep' t' S' a1 a2 a3=>fin h2 tk2 kv' o' es' ep' t' S' a1 a2 fun b o n1 n2 e=>a3 b o n1 n2 (kept b o n1 e)
  ·intro h2 tk2 kv' o' es' ep' t' nk S' p' sb
   wp_walk
   have mp:∀ y,y ∈kv' ↔ y=x\/y ∈kv:=fun y=>by rw[p'.mem_iff,List.mem_cons]
   have away:∀ y ∈xs,∀ ob,h'.get? y.2=some ob->h2.get? y.2=some ob:=fun y m ob g=>(sb.2 _ (not_set (src1.tup y m) S1.got S1.dat)).trans g
   refine⟨plainId_quiet F.plain_set_update_loop _,fill_go W na nx hl rm few left (i+1) _ kv' o' es' ep' t' (by lia) (W.frame _ _ _ next fun b m ob g=>(sb.2 b fun z=>na (z ▸ m)).trans g) S' (src1.keeps away) (fun y m => ?_) (fun j y l e => ?_) ?_⟩
   ·rcases (mp y).mp m with rfl | m
    ·exact mx
    ·exact sub y m
   ·have inn:∀ k,k ∈kv.map (·.1)->k ∈kv'.map (·.1):=fun k m=>let ⟨z,mz,ez⟩:=List.mem_map.mp m;List.mem_map.mpr ⟨z,(mp z).mpr (.inr mz),ez⟩
    rcases Nat.lt_or_eq_of_le (Nat.le_of_lt_succ l) with l | rfl
    ·exact inn _ (all j y l e)
    ·rw[ex] at e;cases e;exact List.mem_map.mpr ⟨x,(mp x).mpr (.inl rfl),rfl⟩
   ·exact fun h3 tk3 kv3 o3 es3 ep3 t3 S3 a1 a2 a3=>fin h3 tk3 kv3 o3 es3 ep3 t3 S3 a1 a2 fun b o n1 n2 e=>a3 b o n1 n2 ((sb.2 b n2).trans (kept b o n1 e))
abbrev noSet (w:World):Obj:={ cls:=.type "set",dict:=none,data:=.set #[] 0 (.fresh 0 0 (!(w.params.followText "set-order"))),slots:=#[] }
theorem new_at (h:Heap):SetAt knd (h.push (noSet w)) h.objs.size [] (noSet w) #[] 0 (.fresh 0 0 (!(w.params.followText "set-order"))):=
 ⟨Heap.get?_push_size _ rfl,⟨rfl,rfl,rfl⟩,rfl,⟨rfl,.nil,fun _ m=>absurd m (by simp [SetTable.fresh]),rfl,⟨3,by decide,rfl⟩,Nat.zero_le _,fun i j e h1=>by simp [SetTable.fresh] at h1⟩,(show 7 ∈[7,31,127,511,2047,8191] by decide),(show 0 * 5<7 * 3 by decide),rfl,rfl,rfl,fun _ m=>absurd m (by simp),.nil⟩
theorem set_new {l:Addr} {R:Result->Shared->Prop} (r:R (.ok (.ret (.ref s.heap.objs.size))) { s with heap:=s.heap.push (noSet w) }):codeAny (model prog w) A (.call (.builtin "set.__new__") ⟨[.type "set",.ref l],[]⟩) R s:=by
 have sub:=sub_set_self
 apply codeAny_call_builtin PySem.F.plain_set_new PySem.F.entry_set_new
 apply wpAny_of_eq (PySem.F.newCall_set_1 (.ref l))
 wp_walk using wpAny_askSetting
 exact r
theorem set_init {l : Addr} {its : Array Value} {R : Result → Shared → Prop} (calm : A.handled = none) (low : A.units + 2 < cLine) (S : SetAt knd s.heap a [] (noSet w) #[] 0 (.fresh 0 0 (!(w.params.followText "set-order")))) (hl : s.heap.IsList l its) (rows : its.toList = xs.map fun x => Value.ref x.2) (src : Src knd s.heap xs)
    (few : ∀ ks : List (List κ), ks.Nodup → (∀ k ∈ ks, k ∈ xs.map (·.1)) → ks.length ≤ 4000)
    (q : ∀ h' tk kv' o' es' ep' t', SetAt knd h' a kv' o' es' ep' t' → (∀ x ∈ kv', x ∈ xs) → (∀ x ∈ xs, x.1 ∈ kv'.map (·.1)) → (∀ b o, b ≠ a → s.heap.get? b = some o → h'.get? b = some o) → R (.ok (.ret .none)) { s with heap := h', toks := tk }) :
    codeAny (model prog w) A (.call (.builtin "set.__init__") ⟨[.ref a, .ref l], []⟩) R s := by
  have ty : s.TypeIs (.ref a) "set" := ⟨_, S.got, rfl⟩
  have tl : s.TypeIs (.ref l) "list" := let ⟨o, g, c, _⟩ := hl; ⟨o, g, c⟩
  apply codeAny_call_builtin PySem.F.called_set.init.plain PySem.F.entry_set_init
  apply check_set_init_1 ty
  have s1 := PySem.F.sub_list_set
  have s2 := PySem.F.sub_list_frozenset
  wp_walk using S.state, wpAny_isInstance tl s1, wpAny_isInstance tl s2, wpAny_typeOf tl, wpAny_pyIter_list hl
  have lt : l < s.heap.objs.size := let ⟨_, g, _⟩ := hl; Heap.lt_size g
  have W0 := Walks.list (prog := prog) (w := w) (A := A.in1.in1) calm s.heap.objs.size l (Nat.ne_of_lt lt) its
  have its_at : ∀ (i : Nat) (v : Value), its[i]? = some v → ∃ x, xs[i]? = some x ∧ v = .ref x.2 := fun i v e => by
    rw [← Array.getElem?_toList, rows, List.getElem?_map] at e
    obtain ⟨x, e1, e2⟩ := Option.map_eq_some_iff.mp e
    exact ⟨x, e1, e2.symm⟩
  have W : Walks prog w A.in1.in1 s.heap.objs.size [s.heap.objs.size, l] [s.heap.objs.size] its.size (fun i v => ∃ x, xs[i]? = some x ∧ v = Value.ref x.2) (fun i h => h.IsListIter s.heap.objs.size l i ∧ h.IsList l its) :=
    { W0 with item := fun i s Q E lt st k => W0.item i s Q E lt st fun v h' tk e => k v h' tk (its_at i v e) }
  have up : ∀ {b : Addr} {o : Obj}, s.heap.get? b = some o → (s.heap.push { cls := .type "list_iterator", data := .fields #[.ref l, .int 0 0] }).get? b = some o := fun e => Heap.get?_push_of_some _ e
  have la : a < s.heap.objs.size := Heap.lt_size S.got
  have nl : a ≠ l := fun z => by
    obtain ⟨o, g, _, n, d⟩ := hl
    subst z
    rw [S.got] at g; cases g; cases d
  have S1 : SetAt knd (s.heap.push { cls := .type "list_iterator", data := .fields #[.ref l, .int 0 0] }) a [] (noSet w) #[] 0 (.fresh 0 0 (!(w.params.followText "set-order"))) := ⟨up S.got, S.ex, S.dat, S.ok, S.msk, S.room, S.led, S.plain, S.rows, fun x m => absurd m (by simp), S.uniq⟩
  refine fill_go W ?_ ?_ ?_ ?_ few its.size 0 _ [] _ _ _ _ rfl ⟨⟨_, Heap.get?_push_size _ rfl, rfl, rfl⟩, hl.push _⟩ S1 (src.keeps fun x m o e => up e) (fun x m => absurd m (by simp)) (fun j x l => absurd l (Nat.not_lt_zero _)) ?_
  · simp only [List.mem_cons, List.not_mem_nil, or_false, not_or]
    exact ⟨Nat.ne_of_lt la, nl⟩
  · intro x m z
    obtain ⟨ob, _, _, g, _⟩ := src.int x m
    exact Nat.ne_of_lt (Heap.lt_size g) (List.mem_singleton.mp z)
  · rw [← Array.length_toList, rows, List.length_map]
  · show A.units + 2 < cLine
    exact low
  · intro h' tk kv' o' es' ep' t' S' a1 a2 a3
    wp_walk
    exact q h' tk kv' o' es' ep' t' S' a1 a2 fun b o nb e => a3 b o (fun z => Nat.ne_of_lt (Heap.lt_size e) (List.mem_singleton.mp z)) nb (up e)
set_option maxHeartbeats 4000000 in
theorem call_set {l:Addr} {its:Array Value} {Q:Value->Shared->Prop} (calm:A.handled=none) (low:A.units+3<cLine) (hl:s.heap.IsList l its) (rows:its.toList=xs.map fun x=>Value.ref x.2) (src:Src knd s.heap xs)
  (few:∀ ks:List (List κ),ks.Nodup->(∀ k ∈ks,k ∈xs.map (·.1))->ks.length<=4000)
  (q:∀ h' tk kv' o' es' ep' t',SetAt knd h' s.heap.objs.size kv' o' es' ep' t'->(∀ x ∈kv',x ∈xs)->(∀ x ∈xs,x.1 ∈kv'.map (·.1))->(∀ b o,s.heap.get? b=some o->h'.get? b=some o)->Q (.ref s.heap.objs.size) { s with heap:=h',toks:=tk }):
  wpAny (model prog w) A (call (.type "set") [.ref l]) Q E s:=by
 have F:=F.called_set
 obtain⟨c,tl,mro⟩:=F.mro
 have made:=F.made
 have sub:=F.sub
 have not:=F.notType
 have can:=F.canCreate
 have tc:=PySem.F.typeCall_set_1 (.ref l)
 apply wpAny_call
 apply codeAny_of_tree
 wp_walk
 refine⟨Code.quiet_builtin _ (by decide +kernel),?_⟩
 apply codeAny_builtin PySem.F.entry_type_call
 rw[Around.under_plain (weight_type_call_type "set" [.ref l] []) rfl]
 wp_walk
 apply set_new
 have S:=new_at (knd:=knd) s.heap
 have ty:Shared.TypeIs { s with heap:=s.heap.push (noSet w) } (.ref s.heap.objs.size) "set":=⟨_,S.got,rfl⟩
 have li:=F.init.lookup
 have bi:=F.init.bind (.ref s.heap.objs.size)
 wp_walk
 have up:∀ {b:Addr} {o:Obj},s.heap.get? b=some o->(s.heap.push (noSet w)).get? b=some o:=fun e=>Heap.get?_push_of_some _ e
 apply set_init (s:={ s with heap:=s.heap.push (noSet w) }) (A:=A.in1) calm (show A.units+1+2<cLine by lia) S (hl.push _) rows (src.keeps fun x m o e=>up e) few
 intro h' tk kv' o' es' ep' t' S' a1 a2 a3
 wp_walk
 exact q h' tk kv' o' es' ep' t' S' a1 a2 fun b o e=>a3 b o (Nat.ne_of_lt (Heap.lt_size e)) (up e)
end
end Tab
namespace Tab
open PySem PySem.Spec PySem.SetTable L4 PyProof.Rows
theorem pick_go {α:Type} (next:Nat->Nat):∀ (fuel k:Nat) (left:List α) (out:Array α),left.length=fuel->(pickOrder.go next fuel k left out).toList.Perm (out.toList++left)
 | 0,k,left,out,e=>by
  rw[List.length_eq_zero_iff.mp e,pickOrder.go,List.append_nil]
 | fuel+1,k,left,out,e=>by
  have lt:next k % left.length<left.length:=Nat.mod_lt _ (by lia)
  rw[pickOrder.go,List.getElem?_eq_getElem lt]
  dsimp only
  refine (pick_go next fuel (k+1) _ _ (by rw[List.length_eraseIdx,if_pos lt];lia)).trans ?_
  rw[Array.toList_push,List.append_assoc]
  refine List.Perm.append_left _ ?_
  rw[List.singleton_append]
  generalize next k % left.length=j at lt ⊢
  rw[List.eraseIdx_eq_take_drop_succ]
  have:=List.perm_middle (a:=left[j]) (l₁:=left.take j) (l₂:=left.drop (j+1))
  rw[←List.drop_eq_getElem_cons lt,List.take_append_drop] at this
  exact this.symm
theorem pick_perm {α:Type} (next:Nat->Nat) (xs:Array α):(pickOrder next xs).toList.Perm xs.toList:=by
 have:=pick_go next xs.size 0 xs.toList #[] (by simp)
 simpa [pickOrder] using this
noncomputable def walkOf (w:World) (a:Addr) (ep:Nat) (es:Array (Int×Value)):Array (Int×Value):=if w.params.followText "set-order" = true then pickOrder (w.params.setOrder a ep) es else es
theorem walk_perm (w:World) (a:Addr) (ep:Nat) (es:Array (Int×Value)):(walkOf w a ep es).toList.Perm es.toList:=by
 unfold walkOf
 split
 ·exact pick_perm _ _
 ·exact .refl _
theorem en_set_iter:entryFor table "set.__iter__" = some Builtin.«frozenset.__iter__»:=entryFor_alias (id':="frozenset.__iter__") (by kernel_rfl) rfl (by decide +kernel) (by kernel_rfl)
theorem sl_si_next:Slot "set_iterator" "__next__" "set_iterator.__next__":=
 .of (owner:="set_iterator") (n:="__next__") (by rw[typeLookup_type,builtinLookup_eq_fast];kernel_rfl) (by decide +kernel) (by decide +kernel) (by decide +kernel) (by first | exact .inl (by decide +kernel) | exact .inr (by decide +kernel)) (by rw[isSubtype_type];kernel_rfl)
theorem sl_si_iter:Slot "set_iterator" "__iter__" "set_iterator.__iter__":=
 .of (owner:="set_iterator") (n:="__iter__") (by rw[typeLookup_type,builtinLookup_eq_fast];kernel_rfl) (by decide +kernel) (by decide +kernel) (by decide +kernel) (by first | exact .inl (by decide +kernel) | exact .inr (by decide +kernel)) (by rw[isSubtype_type];kernel_rfl)
theorem en_si_next:entryFor table "set_iterator.__next__" = some Builtin.«set_iterator.__next__»:=entryFor_of_tree (by kernel_rfl)
theorem en_si_iter:entryFor table "set_iterator.__iter__" = some Builtin.«dict_keyiterator.__iter__»:=entryFor_alias (id':="dict_keyiterator.__iter__") (by kernel_rfl) rfl (by decide +kernel) (by kernel_rfl)
theorem ar_si_next (a:Value):argsOk "set_iterator.__next__" ⟨[a],[]⟩:=by unfold argsOk;kernel_rfl
theorem ar_si_iter (a:Value):argsOk "set_iterator.__iter__" ⟨[a],[]⟩:=by unfold argsOk;kernel_rfl
structure ItAt (w:World) (h:Heap) (it a:Addr) (t:SetTable) (i n ep:Nat):Prop where
 ex:∃ o slot,h.get? it=some o/\o.cls=.type "set_iterator" ∧ o.data=.fields #[.int (slot:Nat) 0,.int i 0,.ref a,.int n 0,.int ep 0]/\(w.params.followText "set-order" = false->below t.place slot=i)
theorem ItAt.ty {w:World} {s:Shared} {it a:Addr} {t:SetTable} {i n ep:Nat} (I:ItAt w s.heap it a t i n ep):s.TypeIs (.ref it) "set_iterator":=let ⟨o,_,g,c,_⟩:=I.ex;⟨o,g,c⟩
theorem ItAt.keeps {w:World} {h h':Heap} {it a:Addr} {t:SetTable} {i n ep:Nat} (I:ItAt w h it a t i n ep) (k:∀ o,h.get? it=some o->h'.get? it=some o):ItAt w h' it a t i n ep:=let ⟨o,j,g,r⟩:=I.ex;⟨o,j,k _ g,r⟩
section
variable {prog:Program} {w:World} {κ:Type} [DecidableEq κ] {knd:KeyKind prog w κ} {A:Around} {E:Value->Shared->Prop} {s:Shared}
variable {a it:Addr} {kv:List (List κ×Addr)} {o:Obj} {es:Array (Int×Value)} {ep:Nat} {t:SetTable}
structure Bare (w:World) (h:Heap) (a:Addr) (o:Obj) (es:Array (Int×Value)) (ep:Nat) (t:SetTable):Prop where
 got:h.get? a=some o
 ex:o.ExactSet
 dat:o.data=.set es ep t
 ok:Ok t es
 led:t.led = !(w.params.followText "set-order")
 plain:t.plain=true
theorem SetAt.bare {h:Heap} (S:SetAt knd h a kv o es ep t):Bare w h a o es ep t:=⟨S.got,S.ex,S.dat,S.ok,S.led,S.plain⟩
theorem Bare.state (S:Bare w s.heap a o es ep t) {A:Around} {Q:Array (Int×Value)×Nat×SetTable->Shared->Prop} {E:Value->Shared->Prop} (q:Q (es,ep,t) s):wpAny (model prog w) A (setState a) Q E s:=wpAny_setState_of S.got S.dat S.ok.fits q
theorem undrawn (S:Bare w s.heap a o es ep t):¬ (!t.plain && decide (es.size > 1))=true:=by rw[S.plain];simp
theorem set_iter (S:Bare w s.heap a o es ep t) {Q:Value->Shared->Prop}
  (q:Q (.ref s.heap.objs.size) { s with heap:=s.heap.push { cls:=.type "set_iterator",data:=.fields #[.int 0 0,.int 0 0,.ref a,.int es.size 0,.int ep 0] } }):wpAny (model prog w) A (pyIter (.ref a)) Q E s:=by
 have ty:s.TypeIs (.ref a) "set":=⟨o,S.got,S.ex.1⟩
 have epoch:∀ {A:Around} {Q:Nat->Shared->Prop} {E:Value->Shared->Prop},Q ep s->wpAny (model prog w) A (setEpoch a) Q E s:=fun q=>wpAny_setEpoch_of S.got S.dat S.ok.fits q
 apply wpAny_pyIter_slot ty PySem.F.slot_set_iter
 apply wpAny_call_entry PySem.F.slot_set_iter ty en_set_iter (ha:=PySem.F.args_set_iter_1 _)
 wp_walk using S.state,epoch,wpAny_askSetting
 refine wpAny_ite_split (fun yes=>absurd (Bool.and_eq_true_iff.mp yes).2 (undrawn S)) fun _ => ?_
 wp_walk using epoch
 exact⟨_,rfl,"set_iterator",_,⟨_,Heap.get?_push_size _ rfl,rfl⟩,sl_si_next.lookup,q⟩
theorem set_next (S:Bare w s.heap a o es ep t) {i slot:Nat} (here:w.params.followText "set-order" = false->below t.place slot=i) {Q:Option (Value×Nat)->Shared->Prop}
  (q1:∀ e slot',(walkOf w a ep es)[i]? = some e->(w.params.followText "set-order" = false->below t.place slot'=i+1)->Q (some (e.2,slot')) s) (q2:es.size<=i->Q none s):wpAny (model prog w) A (setNext a slot i ep) Q E s:=by
 have wsz:(walkOf w a ep es).size=es.size:=by
  have:=(walk_perm w a ep es).length_eq
  simpa using this
 unfold setNext
 wp_walk using S.state,wpAny_askSetting
 refine wpAny_ite_split (fun way => ?_) fun way=>wpAny_ite_split (fun yes=>absurd yes (undrawn S)) fun _ => ?_
 ·have way:w.params.followText "set-order" = true:=way
  have ew:walkOf w a ep es=pickOrder (w.params.setOrder a ep) es:=if_pos way
  wp_walk using S.state,wpAny_askSetting
  refine wpAny_ite_split (fun _ => ?_) fun no=>absurd way no
  wp_walk using wpAny_askSetting
  show Q (Option.map (fun e=>(e.snd,slot)) (pickOrder (w.params.setOrder a ep) es)[i]?) s
  rw[←ew]
  cases c:(walkOf w a ep es)[i]? with
  | none=>exact q2 (by rw[←wsz];exact Array.getElem?_eq_none_iff.mp c)
  | some e=>exact q1 e slot c fun z=>absurd z (by rw[way];decide)
 ·have way:w.params.followText "set-order" = false:=Bool.eq_false_iff.mpr way
  have ew:walkOf w a ep es=es:=if_neg (by rw[way];decide)
  have ledt:t.led=true:=by rw[S.led,way];rfl
  wp_walk
  rw[here way]
  rw[ew] at q1
  rcases Nat.lt_or_ge i es.size with l | l
  ·have lp:i<t.place.size:=by rw[S.ok.size];exact l
   have e1:es[i]? = some es[i]:=Array.getElem?_eq_getElem l
   have e2:t.place[i]? = some t.place[i]:=Array.getElem?_eq_getElem lp
   rw[e1,e2]
   refine q1 es[i] (t.place[i]+1) e1 fun _ => ?_
   obtain⟨b1,b2,b3⟩:=below_is S.ok.rise (t.place[i]+1)
   generalize below t.place (t.place[i]+1)=p at *
   rcases Nat.lt_trichotomy p (i+1) with c | c | c
   ·have:=b3 i _ (by lia) e2;lia
   ·exact c
   ·have lq:i+1<t.place.size:=by lia
    have e3:t.place[i+1]? = some t.place[i+1]:=Array.getElem?_eq_getElem lq
    have:=b2 (i+1) _ c e3
    have:=S.ok.rise.lt (Nat.lt_succ_self i) e2 e3
    lia
  ·rw[Array.getElem?_eq_none l]
   exact q2 l
theorem si_item (S:Bare w s.heap a o es ep t) {i:Nat} (I:ItAt w s.heap it a t i es.size ep) (l:i<es.size) {Q:Option Value->Shared->Prop}
  (q:∀ e h',(walkOf w a ep es)[i]? = some e->ItAt w h' it a t (i+1) es.size ep->Heap.SameBut it s.heap h'->Q (some e.2) { s with heap:=h' }):wpAny (model prog w) A (pyNext (.ref it)) Q E s:=by
 have ty:=I.ty
 obtain⟨oi,slot,gi,ci,di,here⟩:=I.ex
 have next:∀ {R:Option (Value×Nat)->Shared->Prop} {E:Value->Shared->Prop},(∀ e slot',(walkOf w a ep es)[i]? = some e->(w.params.followText "set-order" = false->below t.place slot'=i+1)->R (some (e.2,slot')) s)->(es.size<=i->R none s) →
   wpAny (model prog w) A.in1 (setNext a (slot:Int).toNat (i:Int).toNat (ep:Int).toNat) R E s:=fun r1 r2=>set_next S here r1 r2
 unfold pyNext
 apply wpAny_bind
 apply wpAny_attempt
 apply wpAny_callSpecial?_slot (name:=Str.ofString "__next__") ty sl_si_next
 apply wpAny_call_entry sl_si_next ty en_si_next (ha:=ar_si_next _)
 wp_walk using wpAny_fieldsOf gi di,S.state,next
 ·intro e slot' ee here'
  have g1:∀ u:Value,(s.heap.update it (Obj.mapFields (·.setIfInBounds 0 u))).get? it=some (oi.mapFields (·.setIfInBounds 0 u)):=fun u=>Heap.get?_update_self _ gi (Obj.isFreed_of_fields (Obj.data_mapFields di _))
  have d1:∀ u:Value,(oi.mapFields (·.setIfInBounds 0 u)).data=.fields #[u,.int i 0,.ref a,.int es.size 0,.int ep 0]:=fun u=>by rw[Obj.data_mapFields di];simp
  wp_walk using wpAny_setField gi di
  ·simp
  ·wp_walk using wpAny_setField (g1 _) (d1 _)
   ·simp
   ·wp_walk
    refine⟨_,rfl,wpAny_pure (q e _ ee ⟨_,slot',Heap.get?_update_self _ (g1 _) (Obj.isFreed_of_fields (Obj.data_mapFields (d1 _) _)),?_,?_,here'⟩ ((Heap.SameBut.update ..).trans (Heap.SameBut.update ..)))⟩
    ·rw[Obj.cls_mapFields,Obj.cls_mapFields,ci]
    ·rw[Obj.data_mapFields (d1 _)]
     simp [rawInt]
 ·exact fun z=>absurd z (Nat.not_le.mpr l)
theorem si_done (S:Bare w s.heap a o es ep t) (hh:A.handled=none) (I:ItAt w s.heap it a t es.size es.size ep) {Q:Option Value->Shared->Prop} (q:∀ h',Heap.ExtBut it s.heap h'->Q none { s with heap:=h' }):wpAny (model prog w) A (pyNext (.ref it)) Q E s:=by
 have ty:=I.ty
 obtain⟨oi,slot,gi,ci,di,here⟩:=I.ex
 have calm:A.in1.handled=none:=hh
 have wsz:(walkOf w a ep es).size=es.size:=by
  have:=(walk_perm w a ep es).length_eq
  simpa using this
 have next:∀ {R:Option (Value×Nat)->Shared->Prop} {E:Value->Shared->Prop},R none s->wpAny (model prog w) A.in1 (setNext a (slot:Int).toNat (es.size:Int).toNat (ep:Int).toNat) R E s:=fun r=>set_next S here (fun e _ ee _=>by rw[Array.getElem?_eq_none (Nat.le_of_eq wsz)] at ee;cases ee) fun _=>r
 unfold pyNext
 apply wpAny_bind
 apply wpAny_attempt
 apply wpAny_callSpecial?_slot (name:=Str.ofString "__next__") ty sl_si_next
 apply wpAny_call_entry sl_si_next ty en_si_next (ha:=ar_si_next _)
 wp_walk using wpAny_fieldsOf gi di,S.state,next,wpAny_setField gi di
 ·simp
 ·wp_walk
  unfold raiseNew
  wp_walk using wpAny_isInstance (T:="StopIteration") ⟨_,Heap.get?_push_size _ rfl,rfl⟩ isSubtype_stop
  refine wpAny_of_eq isSubtype_stop ?_
  wp_walk
  exact q _ fun b o ne e=>Heap.get?_push_of_some _ (Heap.get?_push_of_some _ ((Heap.get?_update_other _ _ (Ne.symm ne)).trans e))
theorem si_self {i n:Nat} (I:ItAt w s.heap it a t i n ep) {Q:Value->Shared->Prop} (q:Q (.ref it) s):wpAny (model prog w) A (pyIter (.ref it)) Q E s:=by
 have ty:=I.ty
 apply wpAny_pyIter_slot ty sl_si_iter
 apply wpAny_call_entry sl_si_iter ty en_si_iter (ha:=ar_si_iter _)
 wp_walk
 exact⟨_,rfl,"set_iterator",_,ty,sl_si_next.lookup,q⟩
theorem hint_set (ty:s.TypeIs (.ref a) "set") {Q:Bool->Shared->Prop} (q:Q false s):wpAny (model prog w) A (Builtin.List.listLengthHint (.ref a)) Q E s:=by
 have cut:splitId "set.__len__" = some ("set","__len__"):=by decide +kernel
 have sub:isSubtype (.type "set") (.type "set")=pure true:=sub_set_self
 unfold Builtin.List.listLengthHint
 apply wpAny_bind
 apply wpAny_specialOf ty PySem.F.slot_set_len.lookup
 generalize hid:("set.__len__" : String)=id0 at cut ⊢
 wp_walk
 rw[cut]
 wp_walk using wpAny_isInstance ty sub
 subst hid
 refine wpAny_ite_split (fun _ => ?_) fun no=>absurd (by decide +kernel) no
 wp_walk using wpAny_typeOf ty
 exact q
theorem set_src : PySem.W.KdlSrc prog w "set" a a es.size (fun i v => ∃ e, (walkOf w a ep es)[i]? = some e ∧ v = e.2) (fun h => Bare w h a o es ep t) where
  type := fun s S => ⟨o, S.got, S.ex.1⟩
  there := fun h S => ⟨Heap.lt_size S.got, Heap.lt_size S.got⟩
  keep := fun h h' S k => { S with got := k a (.inl rfl) o S.got }
  notList := by decide
  notTuple := by decide
  hint := fun _ _ s _ S q => hint_set ⟨o, S.got, S.ex.1⟩ q
  iter := fun A s hh S => ⟨_, fun i h => ItAt w h s.heap.objs.size a t i es.size ep ∧ Bare w h a o es ep t, (fun _ _ q => set_iter S q),
    { sub := fun b m => List.mem_cons.mpr (.inl (List.mem_singleton.mp m))
      frame := fun i h h' st k => ⟨st.1.keeps fun o e => k _ List.mem_cons_self o e, { st.2 with got := k a (List.mem_cons_of_mem _ List.mem_cons_self) o st.2.got }⟩
      item := fun i s2 Q E l st q => si_item st.2 st.1 l fun e h' ee I' sb => q e.2 h' s2.toks ⟨e, ee, rfl⟩ ⟨I', { st.2 with got := sb.extBut a o (Nat.ne_of_lt (Heap.lt_size S.got)) st.2.got }⟩ fun b o nb eb => sb.extBut b o (fun z => nb (List.mem_singleton.mpr z)) eb
      done := fun s2 Q E st q => si_done st.2 hh st.1 fun h' xb => q h' s2.toks fun b o nb eb => xb b o (fun z => nb (List.mem_singleton.mpr z)) eb
      self := fun i s2 Q E st q => si_self st.1 q },
    ⟨_, 0, Heap.get?_push_size _ rfl, rfl, rfl, fun _ => Nat.le_zero.mp (Classical.byContradiction fun c => by
      have := (below_is S.ok.rise 0).2.1 0
      have lt : 0 < t.place.size := by have := (below_is S.ok.rise 0).1; lia
      exact absurd (this _ (by lia) (Array.getElem?_eq_getElem lt)) (Nat.not_lt_zero _))⟩, { S with got := Heap.get?_push_of_some _ S.got }⟩
end
end Tab
namespace Tab
open PySem PySem.Spec PySem.SetTable L4 PyProof.Rows Srt
noncomputable def PairAt (h:Heap) (v:Value) (r c:Int):Prop:=∃ b o n t u,v=.ref b/\h.get? b=some o/\o.cls=.type "tuple" ∧ o.data=.seq #[.int r t,.int c u] n
noncomputable def rank (r c:Int):Int:=r * 2097152+c
noncomputable def rk (h:Heap) (v:Value):Int:=match v with
 | .ref b=>(match h.get? b with
  | some o=>(match o.data with
   | .seq its _=>(match its.toList with
    | [.int r _,.int c _]=>rank r c
    | _=>0)
   | _=>0)
  | none=>0)
 | _=>0
theorem PairAt.rk {h:Heap} {v:Value} {r c:Int} (p:PairAt h v r c):Tab.rk h v=rank r c:=by
 obtain⟨b,o,n,t,u,rfl,g,_,d⟩:=p
 simp only[Tab.rk,g,d]
noncomputable def Small (c:Int):Prop:=-1048576<=c/\c<1048576
theorem rank_lt {r c r' c':Int} (h:Small c) (h':Small c'):rank r c<rank r' c' ↔ r<r'\/r=r'/\c<c':=by
 unfold rank Small at *
 lia
theorem rank_inj {r c r' c':Int} (h:Small c) (h':Small c') (e:rank r c=rank r' c'):r=r'/\c=c':=by
 unfold rank Small at *
 lia
theorem PairAt.keeps {h h':Heap} {v:Value} {r c:Int} (p:PairAt h v r c) (k:∀ b o,v=.ref b->h.get? b=some o->h'.get? b=some o):PairAt h' v r c:=
 let ⟨b,o,n,t,u,e,g,rest⟩:=p;⟨b,o,n,t,u,e,k b o e g,rest⟩
section
variable {prog:Program} {w:World} {A:Around} {E:Value->Shared->Prop} {s:Shared}
theorem pair_lt {x y:Value} {r c r' c':Int} (px:PairAt s.heap x r c) (py:PairAt s.heap y r' c') (hc:Small c) (hc':Small c') {Q:Bool->Shared->Prop} (q:Q (decide (rank r c<rank r' c')) s):wpAny (model prog w) A (keyLt' (tuples' true) x y) Q E s:=by
 obtain⟨b,o,n,t,u,rfl,g,cl,d⟩:=px
 obtain⟨b',o',n',t',u',rfl,g',cl',d'⟩:=py
 apply PySem.W.kat_lt g d g' d'
 apply PySem.W.kat_cons
 apply wpAny_eqBool_int
 apply PySem.W.kat_go
 ·intro e
  have e:r=r':=eq_of_beq e
  apply PySem.W.kat_yes
  apply PySem.W.kat_cons
  apply wpAny_eqBool_int
  apply PySem.W.kat_go
  ·intro e2
   have e2:c=c':=eq_of_beq e2
   apply PySem.W.kat_yes
   apply PySem.W.kat_nil
   have:decide (rank r c<rank r' c')=false:=by rw[e,e2];simp
   rw[this] at q
   exact q
  ·intro e2
   apply PySem.W.kat_no
   apply PySem.W.kat_one
   apply PyProof.Rows.lt_int
   show Q _ s
   have:decide (rank r c<rank r' c')=decide (c<c'):=by
    congr 1
    rw[rank_lt hc hc',e]
    exact propext ⟨fun z=>z.elim (fun y=>absurd y (Int.lt_irrefl _)) (·.2),fun z=>.inr ⟨rfl,z⟩⟩
   rw[this] at q
   exact q
 ·intro e
  have e:r ≠ r':=fun z=>by rw[z] at e;simp at e
  apply PySem.W.kat_no
  apply oneLt_int
  have:decide (rank r c<rank r' c')=decide (r<r'):=by
   congr 1
   rw[rank_lt hc hc']
   exact propext ⟨fun z=>z.elim id fun y=>absurd y.1 e,.inl⟩
  rw[this] at q
  exact q
structure Pairs (h:Heap) (vs:List Value):Prop where
 pair:∀ v ∈vs,∃ r c,PairAt h v r c/\Small c
 diff:(vs.map (rk h)).Nodup
theorem Pairs.cmp {vs:List Value} (P:Pairs s.heap vs):Cmp prog w A E s (fun p=>rk s.heap p.1) (tuples' true) (vs.toArray.zip vs.toArray) where
 lt:=fun x y st Q mx my k q=>by
  have mem:∀ {z:Keyed},z ∈(vs.toArray.zip vs.toArray).toList->z.1 ∈vs:=fun {z} m=>by
   rw[Array.toList_zip] at m
   exact (List.of_mem_zip m).1
  obtain⟨r,c,p,sc⟩:=P.pair _ (mem mx)
  obtain⟨r',c',p',sc'⟩:=P.pair _ (mem my)
  rw[p.rk,p'.rk] at q
  rw[lt'_eq]
  apply wpS_bind
  apply wpS_get
  rw[k]
  apply wpS_bind
  apply wpS_lift
  apply wpAny_attempt
  apply pair_lt p p' sc sc'
  exact⟨rfl,wpS_pure q⟩
 nd:=by
  have:(vs.toArray.zip vs.toArray).toList.map (fun p=>rk s.heap p.1)=vs.map (rk s.heap):=by
   rw[Array.toList_zip]
   have:∀ l:List Value,(l.zip l).map (fun p=>rk s.heap p.1)=l.map (rk s.heap):=fun l=>by
    induction l with
    | nil=>rfl
    | cons v l ih=>rw[List.zip_cons_cons,List.map_cons,List.map_cons,ih]
   exact this vs
  rw[this]
  exact P.diff
theorem kind_pairs {vs:List Value} (P:∀ v ∈vs,∃ r c,PairAt s.heap v r c) (ne:vs ≠ []) {Q:SortKind->Shared->Prop} (q:Q (tuples' true) s):wpAny (model prog w) A (keyKind' vs.toArray) Q E s:=by
 have:∀ vs:List Value,(∀ v ∈vs,∃ r c,PairAt s.heap v r c)->∃ fs:List Value,PySem.W.KatTups s.heap vs fs/\fs.length=vs.length/\∀ f ∈fs,∃ i t,f=Value.int i t:=by
  intro vs
  induction vs with
  | nil=>exact fun _=>⟨[],.nil,rfl,fun f m=>absurd m (by simp)⟩
  | cons v vs ih=>
   intro h
   obtain⟨fs,a,b,c⟩:=ih fun v m=>h v (List.mem_cons_of_mem _ m)
   obtain⟨r,cc,b',o,n,t,u,rfl,g,cl,d⟩:=h v List.mem_cons_self
   exact⟨.int r t::fs,.cons g cl d rfl a,by simp [b],fun f m=>(List.mem_cons.mp m).elim (fun e=>⟨r,t,e⟩) (c f)⟩
 obtain⟨fs,a,b,c⟩:=this vs P
 apply PySem.W.kat_kind (T:=.type "int") a (by rw[b];exact List.length_pos_iff.mpr ne) _ (by decide) q
 intro v m
 obtain⟨i,t,rfl⟩:=c v m
 exact PySem.W.Looks.now
theorem sort_pairs {a:Addr} {vs:List Value} {n:Nat} {Q:Fin->Shared->Prop} (ho:s.heap.get? a=some (seqObj "list" vs.toArray n)) (P:Pairs s.heap vs) (len:vs.length<=100000)
  (q:∀ out:Array Value,out.toList.Perm vs->(out.toList.map (rk s.heap)).Pairwise (· < ·)->Q (.done (.ret .none)) { s with heap:=sortedHeap s.heap a vs out }):wpAny (model prog w) A (Builtin.«list.sort» ⟨[.ref a],[]⟩) Q E s:=by
 have la:a<s.heap.objs.size:=Heap.lt_size ho
 have small:∀ k,k<=vs.length->k<=sizeLine:=fun k l=>by rw[sizeLine_eq];lia
 have tup:∀ {R:Value->Shared->Prop} {E:Value->Shared->Prop} {s:Shared},R (.ref s.heap.objs.size) { s with heap:=s.heap.push (seqObj "tuple" vs.toArray 0) } -> wpAny (model prog w) A (newTuple vs.toArray.toList) R E s:=fun r=>wpAny_newTuple r (small _ (by simp))
 have lst:∀ {R:Value->Shared->Prop} {E:Value->Shared->Prop} {s:Shared},R (.ref s.heap.objs.size) { s with heap:=s.heap.push (seqObj "list" #[] 0) } -> wpAny (model prog w) A (newList []) R E s:=fun r=>wpAny_newList r
 obtain⟨e1,ho1⟩:∃ e1,(s.heap.update a (Obj.mapSeq fun _ => #[])).get? a=some (seqObj "list" #[] e1):=⟨_,get?_update_seq ho (fun _ => #[])⟩
 generalize h2e:((s.heap.update a (Obj.mapSeq fun _ => #[])).push (seqObj "tuple" vs.toArray 0)).push (seqObj "list" #[] 0)=h2
 have ho2:h2.get? a=some (seqObj "list" #[] e1):=by
  rw[←h2e]
  exact Heap.get?_push_of_some _ (Heap.get?_push_of_some _ ho1)
 have keep:∀ {v:Value} {r c:Int},PairAt s.heap v r c->PairAt h2 v r c:=fun {v r c} p=>p.keeps fun b o _ g=>by
  have ne:b ≠ a:=fun z=>by
   obtain⟨b',o',n',t,u,ev,g',cl,_⟩:=p
   subst ev
   rename_i ev
   cases ev
   subst z
   rw[ho] at g';cases g'
   exact absurd (Value.type.inj cl) (by decide)
  rw[←h2e]
  exact Heap.get?_push_of_some _ (Heap.get?_push_of_some _ ((Heap.get?_update_other _ _ (Ne.symm ne)).trans g))
 rw[list_sort_plain]
 wp_walk using listItems_at ho rfl,listUpdate_at ho rfl,seqEpoch_at ho1 rfl,tup,lst
 show wpAny _ _ _ _ _ ({ s with heap:=((s.heap.update a (Obj.mapSeq fun _ => #[])).push (seqObj "tuple" vs.toArray 0)).push (seqObj "list" #[] 0) } : Shared)
 rw[h2e]
 have ranks:∀ v ∈vs,rk h2 v=rk s.heap v:=fun v m=>by
  obtain⟨r,c,p,_⟩:=P.pair v m
  rw[p.rk,(keep p).rk]
 have P2:Pairs ({ s with heap:=h2 } : Shared).heap vs:=⟨fun v m=>let ⟨r,c,p,sc⟩:=P.pair v m;⟨r,c,keep p,sc⟩,by
  rw[List.map_congr_left ranks]
  exact P.diff⟩
 have ending:∀ (st:SortSt),(arrOf st).Perm (vs.toArray.zip vs.toArray)->Srtd (fun p=>rk h2 p.1) (arrOf st) 0 (vs.toArray.zip vs.toArray).size →
   ((arrOf st).map (·.2)).toList.Perm vs/\(((arrOf st).map (·.2)).toList.map (rk s.heap)).Pairwise (· < ·):=by
  intro st p so
  have zs:(vs.toArray.zip vs.toArray).toList=vs.zip vs:=Array.toList_zip ..
  have pl:(arrOf st).toList.Perm (vs.zip vs):=zs ▸ perm_list p
  have zip2:∀ l:List Value,(l.zip l).map (·.2)=l/\∀ z ∈l.zip l,z.1=z.2/\z.1 ∈l:=fun l=>by
   induction l with
   | nil=>exact⟨rfl,fun z m=>absurd m (by simp)⟩
   | cons v l ih=>
    rw[List.zip_cons_cons]
    refine⟨by rw[List.map_cons,ih.1],fun z m => ?_⟩
    rcases List.mem_cons.mp m with rfl | m
    ·exact⟨rfl,List.mem_cons_self⟩
    ·exact⟨(ih.2 z m).1,List.mem_cons_of_mem _ (ih.2 z m).2⟩
  have same:∀ z ∈(arrOf st).toList,rk s.heap z.2=rk h2 z.1:=fun z m=>by
   obtain⟨e,mz⟩:=(zip2 vs).2 z (pl.mem_iff.mp m)
   rw[←e,ranks z.1 mz]
  rw[Array.toList_map]
  refine⟨by have:=pl.map (·.2);rwa [(zip2 vs).1] at this,?_⟩
  rw[List.map_map,List.pairwise_iff_getElem]
  intro x y lx ly lt
  rw[List.length_map,Array.length_toList] at lx ly
  have:=so x y (Nat.zero_le _) lt (by rw[←p.size_eq];exact ly)
  rw[K_at lx,K_at ly] at this
  simp only[List.getElem_map,Function.comp,Array.getElem_toList]
  rw[same _ (by simp),same _ (by simp)]
  exact this
 have size:∀ (st:SortSt),(arrOf st).Perm (vs.toArray.zip vs.toArray)->((arrOf st).map (·.2)).size<=sizeLine+1:=fun st p=>by
  rw[Array.size_map,p.size_eq,Array.size_zip,List.size_toArray,Nat.min_self]
  exact Nat.le_succ_of_le (small _ (Nat.le_refl _))
 have heap:∀ out:Array Value,h2.update a (Obj.mapSeq fun _=>out)=sortedHeap s.heap a vs out:=fun out=>by rw[←h2e];rfl
 have put:∀ {R:Unit->Shared->Prop} (st:SortSt) (_:(arrOf st).Perm (vs.toArray.zip vs.toArray)),R () { s with heap:=sortedHeap s.heap a vs ((arrOf st).map (·.2)) } -> wpAny (model prog w) A (Builtin.List.listUpdate (.ref a) fun _=>(arrOf st).map (·.2)) R E { s with heap:=h2 }:=fun st p r=>by
  rw[←heap] at r
  exact listUpdate_at (s:={ s with heap:=h2 }) ho2 rfl r (Nat.zero_le _) (size st p)
 by_cases two:vs.toArray.size<2
 ·rw[if_pos two,if_pos two]
  wp_walk
  refine wpAny_pure (a:=((),SortSt.mk' general' (vs.toArray.zip vs.toArray) #[] 7 none)) ?_
  have p0:(arrOf (SortSt.mk' general' (vs.toArray.zip vs.toArray) #[] 7 none)).Perm (vs.toArray.zip vs.toArray):=Array.Perm.refl _
  wp_walk using seqEpoch_at ho2 rfl,put (SortSt.mk' general' (vs.toArray.zip vs.toArray) #[] 7 none) p0
  have e0:=ending (SortSt.mk' general' (vs.toArray.zip vs.toArray) #[] 7 none) p0 fun i j _ l1 l2=>by
   rw[Array.size_zip,Nat.min_self] at l2
   lia
  exact q _ e0.1 e0.2
 ·rw[if_neg two,if_neg two]
  have run:∀ {R:Unit×SortSt->Shared->Prop},(∀ st',(arrOf st').Perm (vs.toArray.zip vs.toArray)->failedOf st'=none->Srtd (fun p=>rk h2 p.1) (arrOf st') 0 (vs.toArray.zip vs.toArray).size->R ((),st') { s with heap:=h2 }) →
    wpAny (model prog w) A (sortRuns'.run (SortSt.mk' (tuples' true) (vs.toArray.zip vs.toArray) #[] 7 none)) R E { s with heap:=h2 }:=fun r=>
   wpAny_mono (sort_runs (s:={ s with heap:=h2 }) P2.cmp (Q:=fun _ st'=>SB (tuples' true) (vs.toArray.zip vs.toArray) st'/\Srtd (fun p=>rk h2 p.1) (arrOf st') 0 (vs.toArray.zip vs.toArray).size) ⟨Array.Perm.refl _,rfl,rfl⟩ rfl (by rw[Array.size_zip,Nat.min_self];lia) fun st' b so=>⟨b,so⟩)
    (fun p s' e=>by obtain⟨rfl,b,so⟩:=e;exact r p.2 b.perm b.ok so) fun _ _ e=>e
  have kind:∀ {R:SortKind->Shared->Prop},R (tuples' true) { s with heap:=h2 } -> wpAny (model prog w) A (keyKind' vs.toArray) R E { s with heap:=h2 }:=fun r=>kind_pairs (fun v m=>let ⟨r,c,p,_⟩:=P2.pair v m;⟨r,c,p⟩) (fun z=>by subst z;exact two (by decide)) r
  wp_walk using kind,run
  intro st' p ok so
  wp_walk using seqEpoch_at ho2 rfl,put st' p
  rw[ok]
  wp_walk
  exact q _ (ending st' p so).1 (ending st' p so).2
end
end Tab
namespace Tab
open PySem PySem.Spec PySem.SetTable L4 PyProof.Rows Srt
section
variable {prog:Program} {w:World} {A:Around} {E:Value->Shared->Prop} {s:Shared} {T:String} {r d:Addr} {n:Nat} {P:Nat->Value->Prop} {OK:Heap->Prop}
theorem sorted_src {Q:Value->Shared->Prop} (K:PySem.W.KdlSrc prog w T r d n P OK) (hh:A.handled=none) (hok:OK s.heap) (ln:n<=100000)
  (prs:∀ (h1:Heap) (vs:List Value),(∀ b o,s.heap.get? b=some o->h1.get? b=some o)->vs.length=n->(∀ (i:Nat) (v:Value),vs[i]? = some v->P i v)->Pairs h1 vs)
  (q:∀ (h1:Heap) (tk:Nat) (h2:Heap) (e:Nat) (vs:List Value) (out:Array Value),(∀ b o,s.heap.get? b=some o->h1.get? b=some o)->vs.length=n->(∀ (i:Nat) (v:Value),vs[i]? = some v->P i v)->out.toList.Perm vs->(out.toList.map (rk h1)).Pairwise (· < ·) →
   (∀ b o,h1.get? b=some o->h2.get? b=some o)->h2.get? h1.objs.size=some (seqObj "list" out e)->Q (.ref h1.objs.size) { s with heap:=h2,toks:=tk }):
  wpAny (model prog w) A (call (.builtin "sorted") [.ref r]) Q E s:=by
 have line:n<=sizeLine:=by rw[sizeLine_eq];lia
 apply Calls.call_function_entry kind_sorted plain_sorted entry_sorted (args_sorted1 _)
 have all:∀ {R:List Value->Shared->Prop} {E:Value->Shared->Prop},(∀ (h1:Heap) (tk:Nat) (acc:Array Value),(∀ b o,s.heap.get? b=some o->h1.get? b=some o)->ItemsOf P acc n->R acc.toList { s with heap:=h1,toks:=tk }) →
   wpAny (model prog w) A.in1 (collect ((⟨[.ref r],[]⟩:Args).pos.headD .none)) R E s:=fun k=>PySem.W.kdu_collect (A:=A.in1) K hh hok line k
 wp_walk using all
 intro h1 tk acc old many
 have lv:acc.toList.length=n:=by rw[Array.length_toList];exact many.1
 have at_:∀ (i:Nat) (v:Value),acc.toList[i]? = some v->P i v:=fun i v e=>many.2 i v (by rw[←Array.getElem?_toList];exact e)
 have lst:∀ {R:Value->Shared->Prop} {E:Value->Shared->Prop},R (.ref h1.objs.size) { s with heap:=h1.push (seqObj "list" acc.toList.toArray 0),toks:=tk } -> wpAny (model prog w) A.in1 (newList acc.toList) R E { s with heap:=h1,toks:=tk }:=fun k=>wpAny_newList k (by rw[lv];exact line)
 have new:(h1.push (seqObj "list" acc.toList.toArray 0)).get? h1.objs.size=some (seqObj "list" acc.toList.toArray 0):=Heap.get?_push_size _ rfl
 have up:∀ {b:Addr} {o:Obj},h1.get? b=some o->(h1.push (seqObj "list" acc.toList.toArray 0)).get? b=some o:=fun e=>Heap.get?_push_of_some _ e
 have P1:=prs h1 acc.toList old lv at_
 have ranks:∀ v ∈acc.toList,rk (h1.push (seqObj "list" acc.toList.toArray 0)) v=rk h1 v:=fun v m=>by
  obtain⟨r,c,p,_⟩:=P1.pair v m
  rw[p.rk,(p.keeps fun b o _ g=>up g).rk]
 have P2:Pairs (h1.push (seqObj "list" acc.toList.toArray 0)) acc.toList:=⟨fun v m=>let ⟨r,c,p,sc⟩:=P1.pair v m;⟨r,c,p.keeps fun b o _ g=>up g,sc⟩,by rw[List.map_congr_left ranks];exact P1.diff⟩
 have sort:∀ {R:Value->Shared->Prop} {E:Value->Shared->Prop},(∀ h2 e out,out.toList.Perm acc.toList->(out.toList.map (rk h1)).Pairwise (· < ·)->(∀ b o,h1.get? b=some o->h2.get? b=some o)->h2.get? h1.objs.size=some (seqObj "list" out e)->R .none { s with heap:=h2,toks:=tk }) →
   wpAny (model prog w) A.in1 (call (.builtin "list.sort") [.ref h1.objs.size]) R E { s with heap:=h1.push (seqObj "list" acc.toList.toArray 0),toks:=tk }:=by
  intro R E k
  have ty:Shared.TypeIs { s with heap:=h1.push (seqObj "list" acc.toList.toArray 0),toks:=tk } (.ref h1.objs.size) "list":=⟨_,new,rfl⟩
  apply wpAny_call_entry slot_list_sort ty entry_list_sort (ha:=args_list_sort _)
  apply sort_pairs new P2 (by lia)
  intro out perm rise
  obtain⟨e,here⟩:=sortedHeap_at (out:=out) new
  refine⟨_,rfl,k _ e out perm ?_ (fun b o g => ?_) here⟩
  ·have:out.toList.map (rk h1)=out.toList.map (rk (h1.push (seqObj "list" acc.toList.toArray 0))):=List.map_congr_left fun v m=>(ranks v (perm.mem_iff.mp m)).symm
   rw[this]
   exact rise
  ·have lt:=Heap.lt_size g
   rw[sortedHeap_old (Nat.ne_of_lt lt) (Nat.lt_of_lt_of_eq (Nat.lt_succ_of_lt lt) (size_push' ..).symm)]
   exact up g
 wp_walk using lst,sort
 intro h2 e out perm rise kept here
 exact wpAny_pure ⟨_,rfl,q h1 tk h2 e acc.toList out old lv at_ perm rise kept here⟩
end
end Tab
namespace L4
open PySem L2 PySem.Spec PyProof.Rows
noncomputable def ltP (x y:Int×Int):Prop:=x.1<y.1\/x.1=y.1/\x.2<y.2
instance (x y:Int×Int):Decidable (ltP x y):=by unfold ltP;infer_instance
noncomputable def insP (x:Int×Int):List (Int×Int)->List (Int×Int)
 | []=>[x]
 | y::l=>if x=y then y::l else if ltP x y then x::y::l else y::insP x l
noncomputable def ordP:List (Int×Int)->List (Int×Int)
 | []=>[]
 | x::l=>insP x (ordP l)
theorem ltP_irr (x:Int×Int):¬ ltP x x:=by unfold ltP;lia
theorem ltP_tr {x y z:Int×Int} (a:ltP x y) (b:ltP y z):ltP x z:=by unfold ltP at *; lia
theorem ltP_as {x y:Int×Int} (a:ltP x y) (b:ltP y x):False:=by unfold ltP at *; lia
theorem ltP_or {x y:Int×Int} (ne:x ≠ y):ltP x y\/ltP y x:=by
 unfold ltP
 have:x.1 ≠ y.1\/x.2 ≠ y.2:=by
  apply Classical.byContradiction
  intro c
  rw[not_or,Classical.not_not,Classical.not_not] at c
  exact ne (Prod.ext c.1 c.2)
 lia
theorem mem_insP {x y:Int×Int} : ∀ {l:List (Int×Int)},y ∈insP x l ↔ y=x\/y ∈l
 | []=>by simp [insP]
 | z::l=>by
  rw[insP]
  split
  ·rename_i e;subst e;simp
  ·split
   ·simp
   ·rw[List.mem_cons,mem_insP,List.mem_cons]
    exact⟨fun h=>h.elim (fun a=>.inr (.inl a)) fun h=>h.elim .inl fun a=>.inr (.inr a),fun h=>h.elim (fun a=>.inr (.inl a)) fun h=>h.elim .inl fun a=>.inr (.inr a)⟩
theorem mem_ordP {y:Int×Int} : ∀ {l:List (Int×Int)},y ∈ordP l ↔ y ∈l
 | []=>Iff.rfl
 | x::l=>by rw[ordP,mem_insP,mem_ordP,List.mem_cons]
theorem ins_rise {x:Int×Int} : ∀ {l:List (Int×Int)},l.Pairwise ltP->(insP x l).Pairwise ltP
 | [],_=>by simp [insP]
 | y::l,h=>by
  rw[insP]
  rw[List.pairwise_cons] at h
  split
  ·exact List.pairwise_cons.mpr h
  ·rename_i ne
   split
   ·rename_i lt
    exact List.pairwise_cons.mpr ⟨fun z m=>(List.mem_cons.mp m).elim (fun e=>e ▸ lt) fun m=>ltP_tr lt (h.1 z m),List.pairwise_cons.mpr h⟩
   ·rename_i nl
    exact List.pairwise_cons.mpr ⟨fun z m=>(mem_insP.mp m).elim (fun e=>e ▸ (ltP_or ne).resolve_left nl) (h.1 z),ins_rise h.2⟩
theorem zd6:∀ l:List (Int×Int),(ordP l).Pairwise ltP
 | []=>.nil
 | x::l=>ins_rise (zd6 l)
theorem rise_eq:∀ {l l':List (Int×Int)},l.Pairwise ltP->l'.Pairwise ltP->(∀ x,x ∈l ↔ x ∈l')->l=l'
 | [],[],_,_,_=>rfl
 | [],y::l',_,_,h=>absurd ((h y).mpr List.mem_cons_self) (by simp)
 | x::l,[],_,_,h=>absurd ((h x).mp List.mem_cons_self) (by simp)
 | x::l,y::l',a,b,h=>by
  rw[List.pairwise_cons] at a b
  have e:x=y:=by
   rcases List.mem_cons.mp ((h x).mp List.mem_cons_self) with e | m
   ·exact e
   ·rcases List.mem_cons.mp ((h y).mpr List.mem_cons_self) with e | m'
    ·exact e.symm
    ·exact (ltP_as (b.1 x m) (a.1 y m')).elim
  subst e
  rw[rise_eq a.2 b.2 fun z=>⟨fun m=>((List.mem_cons.mp ((h z).mp (List.mem_cons_of_mem _ m))).resolve_left fun e=>ltP_irr x (e ▸ a.1 z m)),fun m=>((List.mem_cons.mp ((h z).mpr (List.mem_cons_of_mem _ m))).resolve_left fun e=>ltP_irr x (e ▸ b.1 z m))⟩]
theorem nodup_le {α:Type} [DecidableEq α]:∀ {k l:List α},k.Nodup->(∀ x ∈k,x ∈l)->k.length<=l.length
 | [],l,_,_=>Nat.zero_le _
 | x::k,l,n,h=>by
  rw[List.nodup_cons] at n
  have mx:=h x List.mem_cons_self
  have:=nodup_le (k:=k) (l:=l.erase x) n.2 fun y m=>(List.mem_erase_of_ne (fun (e:y=x)=>n.1 (e ▸ m))).mpr (h y (List.mem_cons_of_mem _ m))
  rw[List.length_erase_of_mem mx] at this
  have:=List.length_pos_of_mem mx
  rw[List.length_cons]
  lia
noncomputable def zaj (p:Int×Int):D:=.tup [.int p.1,.int p.2]
noncomputable def placeOf:D->Option (Int×Int)
 | .tup ds=>(match ds with
  | [.int r,.int c]=>some (r,c)
  | _=>none)
 | _=>none
noncomputable def placesOf:List D->Option (List (Int×Int))
 | []=>some []
 | d::ds=>(match placeOf d,placesOf ds with | some p,some ps=>some (p::ps) | _,_=>none)
theorem placeOf_is {d:D} {p:Int×Int} (h:placeOf d=some p):d=zaj p:=by
 unfold placeOf at h
 split at h
 ·split at h
  ·cases h;rfl
  ·cases h
 ·cases h
theorem placesOf_is:∀ {ds:List D} {ps:List (Int×Int)},placesOf ds=some ps->ds=ps.map zaj
 | [],ps,h=>by cases h;rfl
 | d::ds,ps,h=>by
  rw[placesOf] at h
  split at h
  ·rename_i p ps' e1 e2
   cases h
   rw[List.map_cons,←placeOf_is e1,←placesOf_is e2]
  ·cases h
theorem placesOf_map (ps:List (Int×Int)):placesOf (ps.map zaj)=some ps:=by
 induction ps with
 | nil=>rfl
 | cons p ps ih=>rw[List.map_cons,placesOf,ih];rfl
noncomputable def zeq (d:D):Option Sl:=match d with
 | .lst ds=>(match placesOf ds with
  | some ps=>if ps.all (fun p=>decide (-1048576<=p.2) && decide (p.2<1048576)) && decide ((ordP ps).length<=4000) then some (.own (.lst ((ordP ps).map zaj))) else none
  | none=>none)
 | _=>none
end L4
namespace L4
open PySem L2 PySem.Spec PyProof.Rows Tab
abbrev keyP (p:Int×Int):List Key:=[.inl p.1,.inl p.2]
abbrev Spots:=List ((Int×Int)×Addr)
noncomputable def Spots.keys (xs:Spots):List (List Key×Addr):=xs.map fun x=>(keyP x.1,x.2)
noncomputable def SpotsAt (H:Hp) (xs:Spots):Prop:=∀ x ∈xs,H x.2=some (.tup [.int x.1.1,.int x.1.2])
noncomputable def SmallP (xs:Spots):Prop:=∀ x ∈xs,Small x.1.2
noncomputable def SetX (P:Program) (w:World) (a:Addr) (xs:Spots) (h:Heap):Prop:=
 ∃ o es ep t,∃ kv:Spots,Bare w h a o es ep t/\es.toList=kv.keys.map (ent (mixKind P w))/\(kv.map (·.1)).Nodup/\(∀ x ∈kv,x ∈xs)/\(∀ x ∈xs,x.1 ∈kv.map (·.1))/\kv.length<=4000
theorem keyP_inj {p q:Int×Int} (h:keyP p=keyP q):p=q:=by
 simp only[keyP,List.cons.injEq,Sum.inl.injEq,and_true] at h
 exact Prod.ext h.1 h.2
section
variable {X:Cx} {pins:List (Addr×Obj)} {σ:L2.St} {H:Hp} {s:Shared}
theorem spot_tup (I:Inv X pins σ H s) {p:Int×Int} {b:Addr} (h:H b=some (.tup [.int p.1,.int p.2])):IsTupleKey (mixKind X.prog X.w) s.heap (keyP p) b/\Ints s.heap b/\PairAt s.heap (.ref b) p.1 p.2:=by
 obtain⟨_,its,rel,ob,g,cl,n,d⟩:=(show ObjOk X.prog X.w H s.heap b (.tup [.int p.1,.int p.2]) from I.hok b _ h)
 cases rel with
 | cons r1 rel=>
  cases rel with
  | cons r2 rel=>
   cases rel
   obtain⟨t,rfl⟩:=r1
   obtain⟨u,rfl⟩:=r2
   refine⟨⟨ob,_,n,g,cl,d,?_⟩,⟨ob,_,n,g,cl,d,fun v m => ?_⟩,b,ob,n,t,u,rfl,g,cl,d⟩
   ·exact .cons (by simp [mixKind,keyIs,Value.isInt]) (.cons (by simp [mixKind,keyIs,Value.isInt]) .nil)
   ·rcases List.mem_cons.mp m with rfl | m
    ·exact⟨_,_,rfl⟩
    ·rcases List.mem_cons.mp m with rfl | m
     ·exact⟨_,_,rfl⟩
     ·exact absurd m (by simp)
theorem refs_are:∀ {bs:List Addr} {us:List Value},Vals (bs.map V.ref) us->us=bs.map Value.ref
 | [],_,.nil=>rfl
 | b::bs,_,.cons r rest=>by
  cases r
  rw[List.map_cons,refs_are rest]
theorem spots_back {xs:Spots} : ∀ {kv:List (List Key×Addr)},(∀ x ∈kv,x ∈xs.keys)->∃ ys:Spots,kv=ys.keys/\∀ y ∈ys,y ∈xs
 | [],_=>⟨[],rfl,fun y m=>absurd m (by simp)⟩
 | x::kv,h=>by
  obtain⟨ys,e,sub⟩:=spots_back fun y m=>h y (List.mem_cons_of_mem _ m)
  obtain⟨z,mz,rfl⟩:=List.mem_map.mp (h x List.mem_cons_self)
  exact⟨z::ys,by rw[e];rfl,fun y m=>(List.mem_cons.mp m).elim (fun e=>e ▸ mz) (sub y)⟩
theorem keys_fst (xs:Spots):xs.keys.map (·.1)=(xs.map (·.1)).map keyP:=by
 unfold Spots.keys
 rw[List.map_map,List.map_map]
 rfl
theorem keys_nodup {xs:Spots} : (xs.keys.map (·.1)).Nodup ↔ (xs.map (·.1)).Nodup:=by
 rw[keys_fst,List.nodup_iff_pairwise_ne,List.nodup_iff_pairwise_ne,List.pairwise_map]
 exact⟨fun h=>h.imp fun ne e=>ne (congrArg keyP e),fun h=>h.imp fun ne e=>ne (keyP_inj e)⟩
noncomputable def FewP (xs:Spots):Prop:=∀ ks:List (Int×Int),ks.Nodup->(∀ k ∈ks,k ∈xs.map (·.1))->ks.length<=4000
noncomputable def rSetP (P:Program) (w:World) (K:PySem.W.Frag):List V->Hp->VK->Prop:=fun vs H Q=>∃ a,∃ xs:Spots,vs=[.ref a]/\LsK K H a (xs.map fun x=>V.ref x.2)/\SpotsAt H xs/\FewP xs/\∀ p,H p=none->Q (.ref p) (upd H p (.ext (SetX P w p xs)))
theorem call_setP (hc:X.calm=true) (hu:X.A.units+3<cLine):CallR X (.type "set") (rSetP X.prog X.w X.K):=by
 intro pins s σ H vs us Q I r h
 obtain⟨a,xs,rfl,hl,sp,few,q⟩:=h
 obtain⟨u,rfl,ru⟩:=vals1 r
 cases ru
 obtain⟨hz,its,n,rv,_,ho⟩:=Inv.lstR I hl
 have rv':its=(xs.map (·.2)).map Value.ref:=refs_are (by rw[List.map_map];exact rv)
 apply Tab.call_set (knd:=mixKind X.prog X.w) (xs:=xs.keys) (its:=its.toArray) (I.ok.hd hc) hu ⟨_,ho,rfl,n,rfl⟩
 ·rw[rv']
  unfold Spots.keys
  rw[List.map_map,List.map_map]
  rfl
 ·constructor
  ·intro x m
   obtain⟨y,my,rfl⟩:=List.mem_map.mp m
   exact (spot_tup I (sp y my)).1
  ·intro x m
   obtain⟨y,my,rfl⟩:=List.mem_map.mp m
   exact (spot_tup I (sp y my)).2.1
 ·intro ks nd sub
  have:∃ ps:List (Int×Int),ks=ps.map keyP/\∀ p ∈ps,p ∈xs.map (·.1):=by
   clear nd
   induction ks with
   | nil=>exact⟨[],rfl,fun p m=>absurd m (by simp)⟩
   | cons k ks ih=>
    obtain⟨ps,e,ss⟩:=ih fun k m=>sub k (List.mem_cons_of_mem _ m)
    have:=sub k List.mem_cons_self
    rw[keys_fst] at this
    obtain⟨p,mp,rfl⟩:=List.mem_map.mp this
    exact⟨p::ps,by rw[e];rfl,fun z m=>(List.mem_cons.mp m).elim (fun e=>e ▸ mp) (ss z)⟩
  obtain⟨ps,rfl,ss⟩:=this
  rw[List.length_map]
  refine few ps ?_ ss
  rw[List.nodup_iff_pairwise_ne,List.pairwise_map] at nd
  exact List.nodup_iff_pairwise_ne.mpr (nd.imp fun ne e=>ne (congrArg keyP e))
 ·intro h' tk kv' o es ep t S a1 a2 kept
  obtain⟨kv,rfl,sub⟩:=spots_back a1
  have nd:(kv.map (·.1)).Nodup:=keys_nodup.mp S.uniq
  have fact:SetX X.prog X.w s.heap.objs.size xs h':=⟨o,es,ep,t,kv,S.bare,S.rows,nd,sub,fun x m=>by
   have:=a2 (keyP x.1,x.2) (List.mem_map.mpr ⟨x,m,rfl⟩)
   rw[keys_fst] at this
   obtain⟨p,mp,e⟩:=List.mem_map.mp this
   rw[←keyP_inj e]
   exact mp,by
   have:=few _ nd fun k m=>let ⟨y,my,e⟩:=List.mem_map.mp m;List.mem_map.mpr ⟨y,sub y my,e⟩
   rwa [List.length_map] at this⟩
  refine⟨.ref s.heap.objs.size,_,I.laid (a:=s.heap.objs.size) (o:=.ext (SetX X.prog X.w s.heap.objs.size xs)) (t':=tk) kept (Nat.le_refl _) ⟨fact,⟨o,S.got⟩,?_⟩,rfl,q _ (I.hok.fresh (Nat.le_refl _))⟩
  rintro h1 h2 ⟨o,es,ep,t,kv,B,rest⟩ k
  exact⟨o,es,ep,t,kv,{ B with got:=k _ B.got },rest⟩
noncomputable def rSortX (P:Program) (w:World):List V->Hp->VK->Prop:=fun vs H Q=>∃ p,∃ xs:Spots,vs=[.ref p]/\H p=some (.ext (SetX P w p xs))/\SpotsAt H xs/\SmallP xs ∧
 ∀ (kv:Spots) (l:Addr),(kv.map (·.1)).Pairwise ltP->(∀ x ∈kv,x ∈xs)->(∀ x ∈xs,x.1 ∈kv.map (·.1))->H l=none->Q (.ref l) (upd H l (.lst (kv.map fun x=>V.ref x.2)))
theorem call_sortX (hc:X.calm=true):CallR X (.builtin "sorted") (rSortX X.prog X.w):=by
 intro pins s σ H vs us Q I r h
 obtain⟨p,xs,rfl,hp,sp,sm,q⟩:=h
 obtain⟨u,rfl,ru⟩:=vals1 r
 cases ru
 obtain⟨o,es,ep,t,kv,B,rows,nd,sub,all,few⟩:=(show ObjOk X.prog X.w H s.heap p (.ext (SetX X.prog X.w p xs)) from I.hok p _ hp).1
 have le:es.size=kv.length:=by
  rw[←Array.length_toList,rows]
  simp [Spots.keys]
 have come:∀ vs:List Value,vs.length=es.size->(∀ (i:Nat) (v:Value),vs[i]? = some v->∃ e,(walkOf X.w p ep es)[i]? = some e/\v=e.2)->vs.Perm (kv.map fun y=>Value.ref y.2):=by
  intro vs lv at_
  have e1:vs=(walkOf X.w p ep es).toList.map (·.2):=by
   apply List.ext_getElem?
   intro i
   cases c:vs[i]? with
   | none=>
    have:=List.getElem?_eq_none_iff.mp c
    rw[List.getElem?_map,Array.getElem?_toList,Array.getElem?_eq_none]
    ·rfl
    ·have:=(walk_perm X.w p ep es).length_eq
     simp only[Array.length_toList] at this
     lia
   | some v=>
    obtain⟨e,ee,rfl⟩:=at_ i v c
    rw[List.getElem?_map,Array.getElem?_toList,ee]
    rfl
  have e2:=(walk_perm X.w p ep es).map (·.2)
  rw[←e1,rows] at e2
  simpa [Spots.keys,List.map_map,Function.comp_def,ent] using e2
 have pairs:∀ (h1:Heap),(∀ b o,s.heap.get? b=some o->h1.get? b=some o)->∀ y ∈kv,PairAt h1 (.ref y.2) y.1.1 y.1.2/\Small y.1.2:=fun h1 old y m=>
  ⟨(spot_tup I (sp y (sub y m))).2.2.keeps fun b o _ g=>old b o g,sm y (sub y m)⟩
 apply sorted_src (set_src (o:=o) (es:=es) (ep:=ep) (t:=t)) (I.ok.hd hc) B (by lia)
 ·intro h1 vs old lv at_
  have pm:=come vs lv at_
  constructor
  ·intro v m
   obtain⟨y,my,rfl⟩:=List.mem_map.mp (pm.mem_iff.mp m)
   exact⟨_,_,pairs h1 old y my⟩
  ·rw[(pm.map (rk h1)).nodup_iff,List.map_map,List.nodup_iff_pairwise_ne,List.pairwise_map]
   rw[List.nodup_iff_pairwise_ne,List.pairwise_map] at nd
   refine nd.imp_of_mem ?_
   intro y z my mz ne e
   have e:rk h1 (.ref y.2)=rk h1 (.ref z.2):=e
   rw[(pairs h1 old y my).1.rk,(pairs h1 old z mz).1.rk] at e
   obtain⟨c1,c2⟩:=rank_inj (pairs h1 old y my).2 (pairs h1 old z mz).2 e
   exact ne (Prod.ext c1 c2)
 ·intro h1 tk h2 e vs out old lv at_ perm rise kept here
  obtain⟨kv2,e2,p2⟩:=perm_back (perm.trans (come vs lv at_)) kv rfl
  have I1:Inv X pins σ H { s with heap:=h1,toks:=tk }:=I.kept old
  have sub2:∀ y ∈kv2,y ∈kv:=fun y m=>p2.mem_iff.mp m
  refine⟨.ref h1.objs.size,_,I1.laid (a:=h1.objs.size) (o:=.lst (kv2.map fun x=>V.ref x.2)) (t':=tk) kept (Nat.le_refl _) ⟨?_,out.toList,e,?_,by simpa using here⟩,rfl,q kv2 _ ?_ (fun y m=>sub y (sub2 y m)) (fun x m => ?_) (I1.hok.fresh (Nat.le_refl _))⟩
  ·rw[List.length_map,p2.length_eq,sizeLine_eq];lia
  ·rw[e2]
   refine vals_of (by simp) fun k x u e1 e3 => ?_
   rw[List.getElem?_map] at e1 e3
   cases c:kv2[k]? with
   | none=>rw[c] at e1;cases e1
   | some y=>rw[c] at e1 e3;cases e1;cases e3;rfl
  ·rw[e2,List.map_map,List.pairwise_map] at rise
   rw[List.pairwise_map]
   refine rise.imp_of_mem ?_
   intro y z my mz lt
   have lt:rk h1 (.ref y.2)<rk h1 (.ref z.2):=lt
   rw[(pairs h1 old y (sub2 y my)).1.rk,(pairs h1 old z (sub2 z mz)).1.rk,rank_lt (pairs h1 old y (sub2 y my)).2 (pairs h1 old z (sub2 z mz)).2] at lt
   exact lt
  ·obtain⟨y,my,ey⟩:=List.mem_map.mp (all x m)
   exact List.mem_map.mpr ⟨y,p2.mem_iff.mpr my,ey⟩
end
end L4
namespace L4
open PySem L2 PySem.Spec PyProof.Rows Tab
section
variable {K:PySem.W.Frag} {P:Program} {w:World}
theorem spots_of {G:Hp} : ∀ {ps:List (Int×Int)} {vs:List V},RepL K G vs (ps.map zaj)->∃ sp:Spots,vs=sp.map (fun x=>V.ref x.2)/\sp.map (·.1)=ps/\SpotsAt G sp
 | [],_,.nil=>⟨[],rfl,rfl,fun x m=>absurd m (by simp)⟩
 | p::ps,_,.cons r rest=>by
  obtain⟨sp,e1,e2,at_⟩:=spots_of rest
  generalize hd:zaj p=d at r
  cases r<;>try (cases hd;done)
  rename_i a us ds sq gi rl
  cases hd
  have g:=gi rfl
  cases rl with
  | cons r1 rl=>
   cases rl with
   | cons r2 rl=>
    cases rl
    cases r1
    cases r2
    exact⟨(p,a)::sp,by rw[e1];rfl,by rw[List.map_cons,e2],fun x m=>(List.mem_cons.mp m).elim (fun e=>by subst e;exact g) (at_ x)⟩
theorem reps_of {G:Hp} : ∀ {sp:Spots},SpotsAt G sp->RepL K G (sp.map fun x=>V.ref x.2) ((sp.map (·.1)).map zaj)
 | [],_=>.nil
 | x::sp,h=>.cons (.tup (SqT.of (h x List.mem_cons_self)) (fun _=>h x List.mem_cons_self) (.cons (.int _) (.cons (.int _) .nil))) (reps_of fun y m=>h y (List.mem_cons_of_mem _ m))
noncomputable def rSortSet (P:Program) (w:World) (K:PySem.W.Frag):List V->Hp->VK->Prop:=fun vs H Q=>rSetP P w K vs H fun v H2=>rSortX P w [v] H2 Q
theorem c_sortSet:SndN K (rSortSet P w K) (g1 zeq):=by
 intro M G0 H0 G H σ δ xs ds s Q S r e k
 unfold g1 at e
 split at e
 ·rename_i d
  obtain⟨x,rfl,rr⟩:=repL1 r
  unfold zeq at e
  split at e
  ·rename_i ds
   split at e
   ·rename_i ps hps
    split at e
    ·rename_i c
     cases e
     rw[placesOf_is hps] at rr
     rw[Bool.and_eq_true,List.all_eq_true,decide_eq_true_eq] at c
     obtain⟨a,vs,rfl,hl,rl⟩:=zd9 rr
     obtain⟨sp,rfl,e2,at_⟩:=spots_of rl
     have few:FewP sp:=fun ks nd sub=>Nat.le_trans (nodup_le nd fun z m=>by rw[mem_ordP,←e2];exact sub z m) c.2
     have small:SmallP sp:=fun x m=>by
      have:=c.1 x.1 (by rw[←e2];exact List.mem_map.mpr ⟨x,m,rfl⟩)
      rw[Bool.and_eq_true,decide_eq_true_eq,decide_eq_true_eq] at this
      exact this
     have atH:SpotsAt H sp:=fun x m=>S.gh _ _ (at_ x m)
     refine⟨a,sp,rfl,zc3 S.gh hl,atH,few,fun p hp=>⟨p,sp,rfl,za4,fun x m => ?_,small,fun kv l rise sub all hn => ?_⟩⟩
     ·rw[za2 (za5 (atH x m) hp)]
      exact atH x m
     ·have ek:kv.map (·.1)=ordP ps:=rise_eq rise (zd6 ps) fun z=>by
       rw[mem_ordP,←e2]
       constructor
       ·intro m
        obtain⟨y,my,rfl⟩:=List.mem_map.mp m
        exact List.mem_map.mpr ⟨y,sub y my,rfl⟩
       ·intro m
        obtain⟨y,my,rfl⟩:=List.mem_map.mp m
        exact all y my
      have rk:RepL K G (kv.map fun x=>V.ref x.2) ((ordP ps).map zaj):=ek ▸ reps_of fun x m=>at_ x (sub x m)
      obtain⟨S1,g1,_⟩:=S.new (o:=.ext (SetX P w p sp)) hp
      obtain⟨S2,g2,r2⟩:=S1.newLst hn rk
      exact k _ _ _ S2 (g1.trans g2) (r2.back g1)
    ·cases e
   ·cases e
  ·cases e
 ·cases e
end
section
variable {X:Cx} {e:Expr} {es:List Expr} {p p2 pos pos2:Pos} {fl:FL}
theorem hu_of4 {A:Around} {k:Nat} (hr:Room k A):A.units+3<cLine:=by have:=hr.un;lia
theorem bo_set:bootBuiltins "set" = some (.type "set"):=by decide +kernel
theorem bo_sorted:bootBuiltins "sorted" = some (.builtin "sorted"):=by decide +kernel
theorem de_sortSet (hc:X.calm=true) (hu:X.A.units+3<cLine) (hg:Gl X "sorted") (hm:X.mg "sorted" = none) (hg2:Gl X "set") (hm2:X.mg "set" = none) (ha:DA X (e::es) fl)
  (he:starEach (e::es) X.env=(false,eval e X.env)::starEach es X.env:=by rfl) (hpl:(backTo pos2 (starEach es X.env)).any (·.1)=false:=by rfl)
  (he1:starEach [.Call (.Name "set" p2) (e::es) [] pos2] X.env=(false,eval (.Call (.Name "set" p2) (e::es) [] pos2) X.env)::starEach [] X.env:=by rfl) (hpl1:(backTo pos (starEach [] X.env)).any (·.1)=false:=by rfl):
  DE X (.Call (.Name "sorted" p) [.Call (.Name "set" p2) (e::es) [] pos2] [] pos) (fArgs (g1 zeq) fl):=
 let ⟨_,a1,a2⟩:=ha
 ⟨_,pe_callB (call_sortX hc) hg hm bo_sorted (pa_cons (pe_callTy (call_setP hc hu) hg2 hm2 bo_set a1 (by decide) (by decide) he hpl) pa_nil he1) (by decide) (by decide) he1 hpl1,snd_cb (r:=rSortSet X.prog X.w X.K) c_sortSet a2⟩
end
end L4
namespace Tab
open PySem PySem.Spec PySem.SetTable L4 PyProof.Rows
section
variable {prog:Program} {w:World} {A:Around} {E:Value->Shared->Prop} {s:Shared}
end
end Tab
namespace Tab
open PySem PySem.Spec PySem.SetTable L4 PyProof.Rows
section
variable {prog:Program} {w:World} {κ:Type} [DecidableEq κ] {knd:KeyKind prog w κ} {A:Around} {E:Value->Shared->Prop} {s:Shared}
structure Two (κ:Type) where
 p:Addr
 k:List κ
 b:Addr
 v:Value
variable {d it:Addr} {ps:List (Two κ)} {foot out:List Addr} {len:Nat} {At:Nat->Heap->Prop} {R:Result->Shared->Prop}
end
end Tab
namespace Tab
open PySem PySem.Spec PySem.SetTable L4 PyProof.Rows
section
variable {prog:Program} {w:World} {κ:Type} [DecidableEq κ] {knd:KeyKind prog w κ} {A:Around} {E:Value->Shared->Prop} {s:Shared} {ps:List (Two κ)}
end
end Tab
namespace L4
open PySem L2 PySem.Spec PyProof.Rows Tab
noncomputable def DictX (a:Addr) (xs:Spots) (h:Heap):Prop:=
 ∃ es ep,∃ kv:Spots,RawAt h a es ep/\es.toList.map (·.key)=kv.map (fun y=>Value.ref y.2)/\(kv.map (·.1)).Nodup/\(∀ x ∈kv,x ∈xs)/\(∀ x ∈xs,x.1 ∈kv.map (·.1))/\kv.length<=4000/\(a == sysModules)=false
section
variable {X:Cx} {pins:List (Addr×Obj)} {σ:L2.St} {H:Hp} {s:Shared}
end
section
variable {K:PySem.W.Frag} {P:Program} {w:World}
end
section
variable {X:Cx} {e:Expr} {es:List Expr} {p p2 pos pos2:Pos} {fl:FL}
end
end L4
namespace L4
open PySem L2 PySem.Spec PyProof.Rows Tab
section
variable {X:Cx} {pins:List (Addr×Obj)} {σ:L2.St} {H:Hp} {s:Shared}
theorem sorted_dx (hc:X.calm=true) (I:Inv X pins σ H s) {p:Addr} {xs:Spots} {Q:VK} (D:DictX p xs s.heap) (sp:SpotsAt H xs) (sm:SmallP xs)
  (q:∀ (kv:Spots) (l:Addr),(kv.map (·.1)).Pairwise ltP->(∀ x ∈kv,x ∈xs)->(∀ x ∈xs,x.1 ∈kv.map (·.1))->H l=none->Q (.ref l) (upd H l (.lst (kv.map fun x=>V.ref x.2)))):
  wpAny (model X.prog X.w) X.A (call (.builtin "sorted") [.ref p]) (EP X pins σ Q) X.xe s:=by
 obtain⟨es,ep,kv,B,rows,nd,sub,all,few,nos⟩:=D
 have le:es.size=kv.length:=by
  have:=congrArg List.length rows
  simpa using this
 have come:∀ vs:List Value,vs.length=es.size->(∀ (i:Nat) (v:Value),vs[i]? = some v->∃ e,es[i]? = some e/\v=e.key)->vs=kv.map fun y=>Value.ref y.2:=by
  intro vs lv at_
  rw[←rows]
  apply List.ext_getElem?
  intro i
  cases c:vs[i]? with
  | none=>
   have:=List.getElem?_eq_none_iff.mp c
   rw[List.getElem?_map,Array.getElem?_toList,Array.getElem?_eq_none (by lia)]
   rfl
  | some v=>
   obtain⟨e,ee,rfl⟩:=at_ i v c
   rw[List.getElem?_map,Array.getElem?_toList,ee]
   rfl
 have pairs:∀ (h1:Heap),(∀ b o,s.heap.get? b=some o->h1.get? b=some o)->∀ y ∈kv,PairAt h1 (.ref y.2) y.1.1 y.1.2/\Small y.1.2:=fun h1 old y m=>
  ⟨(spot_tup I (sp y (sub y m))).2.2.keeps fun b o _ g=>old b o g,sm y (sub y m)⟩
 apply sorted_src (raw_src nos es ep) (I.ok.hd hc) B (by lia)
 ·intro h1 vs old lv at_
  have pm:=come vs lv at_
  subst pm
  constructor
  ·intro v m
   obtain⟨y,my,rfl⟩:=List.mem_map.mp m
   exact⟨_,_,pairs h1 old y my⟩
  ·rw[List.map_map,List.nodup_iff_pairwise_ne,List.pairwise_map]
   rw[List.nodup_iff_pairwise_ne,List.pairwise_map] at nd
   refine nd.imp_of_mem ?_
   intro y z my mz ne e
   have e:rk h1 (.ref y.2)=rk h1 (.ref z.2):=e
   rw[(pairs h1 old y my).1.rk,(pairs h1 old z mz).1.rk] at e
   obtain⟨c1,c2⟩:=rank_inj (pairs h1 old y my).2 (pairs h1 old z mz).2 e
   exact ne (Prod.ext c1 c2)
 ·intro h1 tk h2 e vs out old lv at_ perm rise kept here
  obtain⟨kv2,e2,p2⟩:=perm_back perm kv (come vs lv at_)
  have I1:Inv X pins σ H { s with heap:=h1,toks:=tk }:=I.kept old
  have sub2:∀ y ∈kv2,y ∈kv:=fun y m=>p2.mem_iff.mp m
  refine⟨.ref h1.objs.size,_,I1.laid (a:=h1.objs.size) (o:=.lst (kv2.map fun x=>V.ref x.2)) (t':=tk) kept (Nat.le_refl _) ⟨?_,out.toList,e,?_,by simpa using here⟩,rfl,q kv2 _ ?_ (fun y m=>sub y (sub2 y m)) (fun x m => ?_) (I1.hok.fresh (Nat.le_refl _))⟩
  ·rw[List.length_map,p2.length_eq,sizeLine_eq];lia
  ·rw[e2]
   refine vals_of (by simp) fun k x u e1 e3 => ?_
   rw[List.getElem?_map] at e1 e3
   cases c:kv2[k]? with
   | none=>rw[c] at e1;cases e1
   | some y=>rw[c] at e1 e3;cases e1;cases e3;rfl
  ·rw[e2,List.map_map,List.pairwise_map] at rise
   rw[List.pairwise_map]
   refine rise.imp_of_mem ?_
   intro y z my mz lt
   have lt:rk h1 (.ref y.2)<rk h1 (.ref z.2):=lt
   rw[(pairs h1 old y (sub2 y my)).1.rk,(pairs h1 old z (sub2 z mz)).1.rk,rank_lt (pairs h1 old y (sub2 y my)).2 (pairs h1 old z (sub2 z mz)).2] at lt
   exact lt
  ·obtain⟨y,my,ey⟩:=List.mem_map.mp (all x m)
   exact List.mem_map.mpr ⟨y,p2.mem_iff.mpr my,ey⟩
noncomputable def rSortDT:List V->Hp->VK->Prop:=fun vs H Q=>∃ p kvs,∃ ps:List (Int×Int),vs=[.ref p]/\Rd H p (.dT kvs)/\kvs.map (·.1)=ps.map keyP/\(∀ q ∈ps,Small q.2)/\ps.length<=4000 ∧
 ∀ (kv:Spots) (l:Addr),SpotsAt H kv->(kv.map (·.1)).Pairwise ltP->(∀ q,q ∈kv.map (·.1) ↔ q ∈ps)->H l=none->Q (.ref l) (upd H l (.lst (kv.map fun x=>V.ref x.2)))
theorem spots_kt:∀ {kvs:List (List Key×V)} {xs:List (List Key×Addr×Value)} {ps:List (Int×Int)},KT H kvs xs->kvs.map (·.1)=ps.map keyP->∃ kv:Spots,kv.map (·.1)=ps/\xs.map (·.2.1)=kv.map (·.2)/\SpotsAt H kv
 | [],_,[],.nil,_=>⟨[],rfl,rfl,fun x m=>absurd m (by simp)⟩
 | [],_,_::_,.nil,e=>by cases e
 | _::_,_,[],.cons _ _,e=>by cases e
 | x::kvs,_,q::ps,.cons h t,e=>by
  rw[List.map_cons,List.map_cons,List.cons.injEq] at e
  obtain⟨kv,e1,e2,at_⟩:=spots_kt t e.2
  rename_i y ys
  have g:=h.2.1
  rw[e.1] at g
  exact⟨(q,y.2.1)::kv,by rw[List.map_cons,e1],by rw[List.map_cons,List.map_cons,e2],fun z m=>(List.mem_cons.mp m).elim (fun e=>by subst e;exact g) (at_ z)⟩
theorem call_sortDT (hc:X.calm=true):CallR X (.builtin "sorted") rSortDT:=by
 intro pins s σ H vs us Q I r h
 obtain⟨p,kvs,ps,rfl,hq,ek,sm,few,q⟩:=h
 obtain⟨u,rfl,ru⟩:=vals1 r
 cases ru
 obtain⟨z,nm,xs,kt,o,es,ep,h1,h2,h3,h4,h5⟩:=(show ObjOk X.prog X.w H s.heap p (.dT kvs) from rd_of I.hok hq)
 obtain⟨kv,e1,e2,at_⟩:=spots_kt kt ek
 have nd:(kv.map (·.1)).Nodup:=by
  rw[←kt_keys kt,ek,←e1,List.nodup_iff_pairwise_ne,List.pairwise_map] at h5
  exact List.nodup_iff_pairwise_ne.mpr (h5.imp fun ne e=>ne (congrArg keyP e))
 have lk:kv.length<=4000:=by rw[←List.length_map (f:=(·.1)),e1];exact few
 refine sorted_dx hc I (xs:=kv) ⟨es,ep,kv,⟨o,h1,h2,h3⟩,?_,nd,fun x m=>m,fun x m=>List.mem_map.mpr ⟨x,m,rfl⟩,lk,nm⟩ at_ (fun x m=>sm _ (by rw[←e1];exact List.mem_map.mpr ⟨x,m,rfl⟩)) fun kv' l rise sub all hl=>q kv' l (fun x m=>at_ x (sub x m)) rise (fun y => ?_) hl
 ·have e3:kv.map (fun y=>Value.ref y.2)=(kv.map (·.2)).map Value.ref:=by rw[List.map_map];rfl
  rw[h4,List.map_map,e3,←e2,List.map_map]
  rfl
 ·rw[←e1]
  constructor
  ·intro m
   obtain⟨x,mx,rfl⟩:=List.mem_map.mp m
   exact List.mem_map.mpr ⟨x,sub x mx,rfl⟩
  ·intro m
   obtain⟨x,mx,rfl⟩:=List.mem_map.mp m
   exact all x mx
end
noncomputable def sortDD (d:D):Option Sl:=match d with
 | .dct ks _=>(match placesOf ks with
  | some ps=>if ps.all (fun p=>decide (-1048576<=p.2) && decide (p.2<1048576)) && decide (ps.length<=4000) then some (.own (.lst ((ordP ps).map zaj))) else none
  | none=>none)
 | _=>none
theorem keys_places:∀ {kvs:List (List Key×V)} {ps:List (Int×Int)},kvs.map (fun kv=>D.tup (kv.1.map keyD))=ps.map zaj->kvs.map (·.1)=ps.map keyP
 | [],[],_=>rfl
 | [],_::_,e=>by cases e
 | _::_,[],e=>by cases e
 | x::kvs,q::ps,e=>by
  rw[List.map_cons,List.map_cons,List.cons.injEq] at e
  rw[List.map_cons,List.map_cons,keys_places e.2]
  have e1:=e.1
  simp only[zaj,D.tup.injEq] at e1
  have:intsOf (x.1.map keyD)=some [q.1,q.2]:=by rw[e1];rfl
  rw[ints_key.mp this]
  rfl
section
variable {K:PySem.W.Frag} {P:Program} {w:World}
theorem c_sortDD:SndN K rSortDT (g1 sortDD):=by
 intro M G0 H0 G H σ δ xs ds s Q S r e k
 unfold g1 at e
 split at e
 ·rename_i d
  obtain⟨x,rfl,rr⟩:=repL1 r
  unfold sortDD at e
  split at e
  ·split at e
   ·rename_i ps hps
    split at e
    ·rename_i c
     cases e
     rw[Bool.and_eq_true,List.all_eq_true,decide_eq_true_eq] at c
     obtain⟨a,vs,rfl,⟨kvs,y1,yk,rfl⟩,_⟩:=rep_dct rr
     rw[placesOf_is hps] at yk
     refine⟨a,kvs,ps,rfl,same_rd S.gh y1,keys_places yk.symm,fun q m => ?_,c.2,fun kv l sp rise mem hl => ?_⟩
     ·have:=c.1 q m
      rw[Bool.and_eq_true,decide_eq_true_eq,decide_eq_true_eq] at this
      exact this
     ·have ek:kv.map (·.1)=ordP ps:=rise_eq rise (zd6 ps) fun z=>by rw[mem_ordP];exact mem z
      have kp:∀ kv:Spots,SpotsAt H kv->KeysAt H (kv.map fun x=>(keyP x.1,V.non)) (kv.map (·.2)):=fun kv=>by
       induction kv with
       | nil=>exact fun _=>.nil
       | cons x kv ih=>exact fun h=>.cons (h x List.mem_cons_self) (ih fun y m=>h y (List.mem_cons_of_mem _ m))
      obtain⟨G1,S1,g1,r1⟩:=S.shares (kp kv sp)
      have e1:(kv.map (·.2)).map V.ref=kv.map fun x=>V.ref x.2:=by rw[List.map_map];rfl
      have e2:(kv.map fun x=>(keyP x.1,V.non)).map (fun kv=>D.tup (kv.1.map keyD))=(ordP ps).map zaj:=by rw[←ek,List.map_map,List.map_map];rfl
      rw[e1,e2] at r1
      obtain⟨S2,g2,r2⟩:=S1.newLst hl r1
      exact k _ _ _ S2 (g1.trans g2) r2
    ·cases e
   ·cases e
  ·cases e
 ·cases e
end
section
variable {X:Cx} {e:Expr} {es:List Expr} {p pos:Pos} {fl:FL}
theorem de_sortDD (hc:X.calm=true) (hg:Gl X "sorted") (hm:X.mg "sorted" = none) (ha:DA X (e::es) fl) (he:starEach (e::es) X.env=(false,eval e X.env)::starEach es X.env:=by rfl) (hpl:(backTo pos (starEach es X.env)).any (·.1)=false:=by rfl):
  DE X (.Call (.Name "sorted" p) (e::es) [] pos) (fArgs (g1 sortDD) fl):=
 let ⟨_,a1,a2⟩:=ha
 ⟨_,pe_callB (call_sortDT hc) hg hm bo_sorted a1 (by decide) (by decide) he hpl,snd_cb c_sortDD a2⟩
end
end L4
namespace Tab
open PySem PySem.Spec PySem.SetTable L4 PyProof.Rows
section
variable {prog:Program} {w:World} {A:Around} {E:Value->Shared->Prop} {s:Shared}
variable {it best:Addr} {ys:List ((Int×Int)×Addr)} {foot out:List Addr} {len:Nat} {At:Nat->Heap->Prop} {R:Result->Shared->Prop}
end
end Tab
namespace L4
open PySem L2 PySem.Spec PyProof.Rows Tab
section
variable {X:Cx} {K:PySem.W.Frag}
end
end L4
namespace L4
open PySem L2 PySem.Spec PyProof.Rows
section
variable {prog:Program} {w:World} {κ:Type} [DecidableEq κ] {knd:KeyKind prog w κ} {A:Around} {E:Value->Shared->Prop} {s:Shared}
end
noncomputable def AlikeV (K:PySem.W.Frag) (G:Hp):List V->List V->Prop:=Paired fun v v'=>∃ d d',Rep K G v d/\Rep K G v' d'/\depD d<=100/\za1 d=true/\za1 d'=true/\eqD d d'=true
section
variable {X:Cx} {pins:List (Addr×Obj)} {σ:L2.St} {H G:Hp} {s:Shared}
theorem hits_alike (I:Inv X pins σ H s) (hs:Same G H) (hu:X.A.units+150<cLine) {xb:List (List Key×Addr×Value)} : ∀ {kvs kvs':List (List Key×V)} {xa xb':List (List Key×Addr×Value)} (pre:List (List Key×Addr×Value)),xb=pre++xb'->KT H kvs xa->KT H kvs' xb'->kvs.map (·.1)=kvs'.map (·.1)->AlikeV X.K G (kvs.map (·.2)) (kvs'.map (·.2))->HitsT X.A.in1 s xb xa true
 | [],[],_,_,_,_,.nil,_,_,_=>.nil
 | [],_::_,_,_,_,_,_,_,e,_=>by cases e
 | _::_,[],_,_,_,_,_,_,e,_=>by cases e
 | kv::kvs,kv'::kvs',_,_,pre,e,.cons ha ta,.cons hb tb,ek,al=>by
  rename_i qb xb' qa xa
  rw[List.map_cons,List.map_cons,List.cons.injEq] at ek
  rw[List.map_cons,List.map_cons] at al
  cases al with
  | cons h al=>
   have hj:xb[pre.length]? = some (qa.1,qb.2):=by
    rw[e,List.getElem?_append_right (Nat.le_refl _),Nat.sub_self,List.getElem?_cons_zero,←ha.1,ek.1,hb.1]
   have rest:HitsT X.A.in1 s xb xa true:=hits_alike I hs hu (pre++[qb]) (by rw[e,List.append_assoc];rfl) ta tb ek.2 al
   obtain⟨d,d',r1,r2,dep,p1,p2,eq⟩:=h
   obtain⟨as,q1⟩:=zd7 I hs r1 p1 ha.2.2
   obtain⟨bs,q2⟩:=zd7 I hs r2 p2 hb.2.2
   have ea:=SeqAt.eqAt_reads (toPy d) (toPy d') X.A.in1 s _ _ as bs q1 q2 (toPy_ok d p1) (toPy_ok d' p2) (by
    rw[toPy_depth]
    have:=Nat.min_le_left (depD d) (toPy d').depth
    show X.A.units+1+_<cLine
    lia)
   rw[toPy_eqv d d' p1 p2,eq] at ea
   exact .hit hj ea rest
noncomputable def rEqDD (K:PySem.W.Frag) (neg:Bool):R2:=fun x y H Q=>∃ G a b kvs kvs',Same G H/\x=.ref a/\y=.ref b/\Rd H a (.dT kvs)/\Rd H b (.dT kvs')/\kvs.map (·.1)=kvs'.map (·.1)/\AlikeV K G (kvs.map (·.2)) (kvs'.map (·.2))/\Q (.bl (!neg)) H
theorem op_nePP (hu:X.A.units+150<cLine):OpR X (compareOp .NotEq) (rEqDD X.K true):=by
 intro pins s σ H x y v u Q I rx ry h
 obtain⟨G,a,b,kvs,kvs',hs,rfl,rfl,ea,eb,ek,al,q⟩:=h
 cases rx
 cases ry
 obtain⟨_,la,xa,ra,da⟩:=dt_rd I.hok ea
 obtain⟨_,lb,xb,rb,db⟩:=dt_rd I.hok eb
 have hl:xa.length=xb.length:=by
  rw[←Paired.length ra,←Paired.length rb,←List.length_map (f:=(·.1)),ek,List.length_map]
 refine neT (knd:=mixKind X.prog X.w) (r:=true) (tupleKind_room_in1 (by lia)) la lb da db (by lia) (fun _=>hits_alike I hs hu [] rfl ra rb ek al) ?_
 rw[hl,beq_self_eq_true]
 exact⟨.bl false,H,I.tok _,rfl,q⟩
end
noncomputable def alikeDs:List D->List D->Bool
 | [],[]=>true
 | d::ds,d'::ds'=>(decide (depD d<=100) && za1 d && za1 d' && eqD d d') && alikeDs ds ds'
 | _,_=>false
theorem alike_is {K:PySem.W.Frag} {G:Hp} : ∀ {us us':List V} {ds ds':List D},RepL K G us ds->RepL K G us' ds'->alikeDs ds ds'=true->AlikeV K G us us'
 | _,_,_,_,.nil,.nil,_=>.nil
 | _,_,_,_,.nil,.cons _ _,h=>by cases h
 | _,_,_,_,.cons _ _,.nil,h=>by cases h
 | _,_,_,_,.cons h1 t1,.cons h2 t2,h=>by
  rw[alikeDs,Bool.and_eq_true,Bool.and_eq_true,Bool.and_eq_true,Bool.and_eq_true] at h
  exact .cons ⟨_,_,h1,h2,of_decide_eq_true h.1.1.1.1,h.1.1.1.2,h.1.1.2,h.1.2⟩ (alike_is t1 t2 h.2)
noncomputable def eqDDD (neg:Bool) (a b:D):Option Sl:=match a,b with
 | .dct ks vs,.dct ks' vs'=>if sameKs ks ks'=true/\alikeDs vs vs'=true then some (.val (.bl (!neg))) else none
 | _,_=>none
section
variable {X:Cx} {K:PySem.W.Frag}
theorem o_eqDDD (neg:Bool):SndO K (rEqDD K neg) (eqDDD neg):=by
 intro M G0 H0 G H σ δ x y d1 d2 s Q S r1 r2 e k
 unfold eqDDD at e
 split at e
 ·split at e
  ·rename_i h
   cases e
   obtain⟨a,us,rfl,q1,l1⟩:=rep_dct r1
   obtain⟨b,us',rfl,q2,l2⟩:=rep_dct r2
   obtain⟨kvs,w1,rfl,rfl⟩:=q1
   obtain⟨kvs',w2,rfl,rfl⟩:=q2
   exact⟨G,a,b,kvs,kvs',S.gh,rfl,rfl,same_rd S.gh w1,same_rd S.gh w2,sameKs_is h.1,alike_is l1 l2 h.2,k _ _ _ S (Gr.refl ..) (.val (.bl _))⟩
  ·cases e
 ·cases e
theorem q_neDDD (hu:X.A.units+150<cLine):QR X .NotEq (eqDDD true):=⟨_,op_nePP hu,o_eqDDD true⟩
end
end L4
namespace L4
open PySem L2 PySem.Spec PyProof.Rows
noncomputable def rClearT:V->List V->Hp->VK->Prop:=fun x vs H Q=>∃ p kvs,x=.ref p/\vs=[]/\H p=some (.dT kvs)/\Q .non (upd H p (.dT []))
section
variable {X:Cx}
theorem clear_raw {prog:Program} {w:World} {A:Around} {E:Value->Shared->Prop} {s:Shared} {d:Addr} {es:Array DictEntry} {ep:Nat} {Q:Value->Shared->Prop} (x:RawAt s.heap d es ep) (nm:(d == sysModules)=false) (few:es.size<=sizeLine)
  (q:∀ h' ep',RawAt h' d #[] ep'->Heap.SameBut d s.heap h'->Q .none { s with heap:=h' }):wpAny (model prog w) A (call (.builtin "dict.clear") [.ref d]) Q E s:=by
 have ty:=x.ty
 obtain⟨o,got,ex,dat⟩:=x
 apply wpAny_call_entry PySem.F.slot_dict_clear ty PySem.F.entry_dict_clear (ha:=PySem.F.args_dict_clear_1 _)
 have upd:∀ {R:Unit->Shared->Prop} {E:Value->Shared->Prop},R () { s with heap:=s.heap.update d (Obj.mapDictKeys fun _ => #[]) } -> wpAny (model prog w) A.in1 (updateDictKeys d fun _ => #[]) R E s:=fun k=>wpAny_updateDictKeys got dat k
 wp_walk using wpAny_notOrdered_dict ty,wpAny_dictEntries got dat,upd
 have fin:=q _ (ep+1) ⟨_,Heap.get?_update_self _ got (Obj.isFreed_of_dict (Obj.data_mapDictKeys dat _)),ex.mapDictKeys (fun _ => #[]),Obj.data_mapDictKeys dat (fun _ => #[])⟩ (Heap.SameBut.update ..)
 split
 ·wp_walk
  exact⟨_,rfl,fin⟩
 ·wp_walk
  exact⟨_,rfl,fin⟩
theorem mt_clearT:MtR X "dict.clear" rClearT:=by
 intro pins s σ H x vs v us Q I rx rv h
 obtain⟨p,kvs,rfl,rfl,hH,q⟩:=h
 cases rx
 have hus:=rv.zero
 subst hus
 obtain⟨z,nm,xs,kt,o,es,ep,h1,h2,h3,h4,h5⟩:=(show ObjOk X.prog X.w H s.heap p (.dT kvs) from I.hok p _ hH)
 have l1:es.size=xs.length:=by rw[←Array.length_toList,h4,List.length_map]
 have l2:kvs.length=xs.length:=Paired.length kt
 apply clear_raw ⟨o,h1,h2,h3⟩ nm (by lia)
 intro h' ep' x' sb
 obtain⟨o',g',ex',dat'⟩:=x'
 refine⟨.non,_,d_write (t':=s.toks) (ob:=.dT []) I ?_ sb ⟨o',g'⟩ ?_,rfl,q⟩
 ·rw[hH];exact trivial
 ·exact⟨Nat.zero_le _,nm,[],.nil,o',#[],ep',g',ex',dat',rfl,.nil⟩
end
end L4
namespace Tab
open PySem PySem.Spec PySem.SetTable L4 PyProof.Rows Srt
section
variable {prog:Program} {w:World} {A:Around} {E:Value->Shared->Prop} {s:Shared}
end
end Tab
namespace Tab
open PySem PySem.Spec PySem.SetTable L4 PyProof.Rows Srt
section
variable {prog:Program} {w:World} {A:Around} {E:Value->Shared->Prop} {s:Shared} {T:String} {r d:Addr} {n:Nat} {P:Nat->Value->Prop} {OK:Heap->Prop}
end
end Tab
namespace Tab
open PySem PySem.Spec PySem.SetTable L4 PyProof.Rows Srt
section
variable {prog:Program} {w:World} {A:Around} {E:Value->Shared->Prop} {s:Shared}
end
end Tab
namespace L4
open PySem L2 PySem.Spec PyProof.Rows Tab
section
variable {X:Cx} {e dv:Expr} {f1 f2:FE} {p pos kp:Pos}
end
end L4
namespace Tab
open PySem PySem.Spec PySem.SetTable L4 PyProof.Rows Srt
section
variable {prog:Program} {w:World} {A:Around} {E:Value->Shared->Prop} {s:Shared}
end
end Tab
namespace L4
open PySem L2 PySem.Spec PyProof.Rows Tab
section
variable {X:Cx} {K:PySem.W.Frag} {pins:List (Addr×Obj)} {σ:L2.St} {H:Hp} {s:Shared}
end
end L4
namespace L4
open PySem PySem.W PySem.Calls L2 PySem.Spec PyProof.Rows
section
variable {K:PySem.W.Frag} {M:Nat->Option Addr} {G0 H0 G H:Hp} {σ:L2.St} {δ:DEnv}
theorem set_same {α:Type} : ∀ {l:List α} {i:Nat} {a:α},l[i]? = some a->l.set i a=l
 | [],_,_,e=>by simp at e
 | b::l,0,a,e=>by simp at e;subst e;rfl
 | b::l,i+1,a,e=>by simp at e;simp [set_same e]
theorem StOk.alone (S:StOk K M G0 H0 G H σ δ) {j:Nat} {s:Sl} {p:Addr} (hj:δ[j]? = some (some s)) (os:s.isO=true) (hp:σ[j]? = some (some (.ref p))):¬ Ow σ (δ.set j none) p:=fun z=>by
 obtain⟨i,s',hi,z1,os',z2⟩:=ow_drop (o:=none) (fun s e=>by cases e) (List.getElem?_eq_some_iff.mp hj).1 z
 exact hi (S.env.sep i j p s' _ z1 hj os' os z2 hp)
noncomputable def fFix (j:Nat) (F:FS):FS:=fun δ=>match δ[j]? with
 | some (some (.own (.dct ks vs)))=>F (δ.set j (some (.val (.dcf ks vs))))
 | _=>none
noncomputable def tFix (j:Nat) (t:TS):TS:=fun D σ H=>∃ p kvs,σ[j]? = some (some (.ref p))/\H p=some (.dT kvs)/\∀ o,t D σ (upd H p (.frz o (.dT kvs)))
end
theorem dT_keys {H:Hp} {P:Program} {w:World} {h:Heap} {p:Addr} {kvs:List (List Key×V)} {u:HO} (x:ObjOk P w H h p (.dT kvs)) (e:∀ b xs,H b=some (.tup xs)->u=u/\b ≠ p):ObjOk P w (upd H p u) h p (.dT kvs):=by
 obtain⟨z,nm,xs,kt,r⟩:=x
 exact⟨z,nm,xs,L2.Paired.mapP kt fun a b q=>⟨q.1,by rw[za2 (e _ _ q.2.1).2];exact q.2.1,q.2.2⟩,r⟩
section
variable {X:Cx}
theorem inv_fix {pins:List (Addr×Obj)} {σ:L2.St} {H:Hp} {s:Shared} {p:Addr} {kvs:List (List Key×V)} (I:Inv X pins σ H s) (e:H p=some (.dT kvs)):∃ o,Inv X pins σ (upd H p (.frz o (.dT kvs))) s:=by
 have x:=I.hok p _ e
 obtain⟨z,nm,xs,kt,o,es,ep,h1,h2⟩:=id (show ObjOk X.prog X.w H s.heap p (.dT kvs) from x)
 have mu:Mut (H p):=by rw[e];trivial
 exact⟨o,I.write (t':=s.toks) (h':=s.heap) mu (.inl rfl) (fun _ _ _ q=>q) ⟨o,h1⟩ ⟨h1,dT_keys x fun b xs q=>⟨rfl,fun z=>by rw[z,e] at q;cases q⟩⟩⟩
theorem pss_fix {st:List Stmt} {t:TS} (j:Nat) (h:PSs X st t):PSs X st (tFix j t):=by
 intro pins s σ H D I q
 obtain⟨p,kvs,_,e,k⟩:=q
 obtain⟨o,I'⟩:=inv_fix I e
 exact h pins s σ _ D I' (k o)
end
noncomputable def coD:D->D
 | .dcf ks vs=>.dct ks vs
 | d=>d
noncomputable def coS:Sl->Sl
 | .val d=>.val (coD d)
 | s=>s
noncomputable def fCo (f:FE):FE:=fun δ=>match f δ with
 | some (.ok s,δ')=>some (.ok (coS s),δ')
 | r=>r
theorem rep_co {K:PySem.W.Frag} {G:Hp} {v:V} {d:D} (r:Rep K G v d):Rep K G v (coD d):=by
 cases r with
 | dcf h r=>exact .dct h.k r
 | non=>exact .non
 | bl b=>exact .bl b
 | int i=>exact .int i
 | str x=>exact .str x
 | ty n=>exact .ty n
 | tup a b c=>exact .tup a b c
 | lst a b=>exact .lst a b
 | dct a b=>exact .dct a b
 | tg r=>exact .tg r
theorem de_co {X:Cx} {e:Expr} {f:FE} (h:DE X e f):DE X e (fCo f):=by
 obtain⟨t,a1,a2⟩:=h
 refine⟨t,a1,?_⟩
 intro M G0 H0 G H σ δ q δ' Q S e k
 unfold fCo at e
 split at e
 ·rename_i s δ1 e1
  cases e
  refine a2 M G0 H0 G H σ δ (.ok s) _ _ S e1 fun v G' H' S' g r=>k v G' H' S' g ?_
  cases s with
  | val d=>exact⟨rep_co r.1,fun z=>nomatch z⟩
  | own d=>exact r
  | lnt d=>exact r
 ·exact a2 M G0 H0 G H σ δ _ _ _ S e k
noncomputable def Itf (a:Addr) (o:Obj) (kvs:List (List Key×V)) (bs:List Addr):It:=
 ⟨fun i H=>H a=some (.frz o (.dT kvs))/\i<bs.length,fun i H x H'=>H'=H/\∃ b,bs[i]? = some b/\x=.ref b,fun i H=>H a=some (.frz o (.dT kvs))/\bs.length=i⟩
theorem frz_raw {X:Cx} {pins:List (Addr×Obj)} {σ:L2.St} {H:Hp} {s:Shared} {a:Addr} {o:Obj} {kvs:List (List Key×V)} {es:Array DictEntry} {ep:Nat} (I:Inv X pins σ H s) (e:H a=some (.frz o (.dT kvs))) (hd:o.data=.dict es ep) (hx:o.ExactDict):RawAt s.heap a es ep:=by
 obtain⟨h1,_⟩:=(show ObjOk X.prog X.w H s.heap a (.frz o (.dT kvs)) from I.hok a _ e)
 exact⟨o,h1,hx,hd⟩
theorem turn_dcf {P:Program} {w:World} {K:PySem.W.Frag} {tg:Expr} {a it:Addr} {o:Obj} {kvs:List (List Key×V)} {bs:List Addr} {es:Array DictEntry} {ep:Nat} (hd:o.data=.dict es ep) (hx:o.ExactDict) (hl:es.size=bs.length) (hk:∀ (i:Nat) (e:DictEntry) (b:Addr),es[i]? = some e->bs[i]? = some b->e.key=Value.ref b):
  Turn P w K tg (Itf a o kvs bs) [it] it (fun i h=>h.IsKeyIter it a i es.size ep) where
 mem:=by simp
 obj:=fun i h st b hb=>by
  have e:b=it:=by simpa using hb
  subst e
  obtain⟨o,e,c,d⟩:=st
  exact⟨o,e,fun v z=>by rw[d] at z;cases z⟩
 keep:=fun i h h' st k=>st.at fun o e=>k it (by simp) o e
 item:=by
  intro X hP hw hK hc i pins s σ H E I hf st hg
  subst hP hw hK
  obtain⟨ha,hi⟩:=hg
  obtain⟨f0,f1,f2,f3,f4,f5⟩:=hf it (by simp)
  have hi':i<es.size:=by rw[hl];exact hi
  refine raw_next st (frz_raw I ha hd hx) hi' fun h' st' sb => ?_
  have I1:Inv X pins σ H { s with heap:=h' }:=I.turned (t':=s.toks) (fun b o hb e=>(sb.2 b hb).trans e) f0 f1 f3 f4 f5
  obtain⟨oi,e,c,d⟩:=id st'
  have key:es[i].key=.ref bs[i]:=hk i _ _ (Array.getElem?_eq_getElem hi') (List.getElem?_eq_getElem hi)
  exact⟨_,rfl,go_of (s:={ s with heap:=h' }) e c d (by decide) ⟨.ref bs[i],H,I1,by rw[key];rfl,⟨rfl,_,List.getElem?_eq_getElem hi,rfl⟩,st',fun b hb=>(hf b hb).1⟩⟩
 done:=by
  intro X hP hw hK hc i pins s σ H E I hf st hg
  subst hP hw hK
  obtain⟨ha,hi⟩:=hg
  obtain⟨f0,f1,f2,f3,f4,f5⟩:=hf it (by simp)
  have e:i=es.size:=by lia
  subst e
  exact raw_end (I.ok.hd hc) st (frz_raw I ha hd hx) fun h' eb=>⟨rfl,I.turned (t':=s.toks) (fun b o hb e=>eb b o hb e) f0 f1 f3 f4 f5⟩
 self:=fun _ _ _ _ _ st h=>wpAny_pyIter_keyiter st h
noncomputable def iDcf (te:TE):TI:=fun σ H R=>te σ H fun x H1=>∃ a o kvs,x=.ref a/\H1 a=some (.frz o (.dT kvs))/\∀ bs,KeysAt H1 kvs bs->R (Itf a o kvs bs) H1
theorem pi_dcf {X:Cx} {tg l:Expr} {tl:TE} (hl:PE X l tl):PI X tg l (iDcf tl):=by
 intro pins s σ H R I h
 refine thn (hl pins s σ H _ I h) fun v s1 ⟨x,H1,I1,r1,a,o,kvs,ex,ha,q⟩ => ?_
 subst ex
 cases r1
 obtain⟨g1,z,nm,xs,kt,o',es,ep,h1,h2,h3,h4,h5⟩:=(show ObjOk X.prog X.w H1 s1.heap a (.frz o (.dT kvs)) from I1.hok a _ ha)
 rw[g1] at h1;cases h1
 have hes:es.size=xs.length:=by rw[←Array.length_toList,h4,List.length_map]
 have hk2:∀ {l:List (List Key×V)} {m:List (List Key×Addr×Value)},KT H1 l m->l.length=m.length/\KeysAt H1 l (m.map (·.2.1)):=by
  intro l m q
  induction q with
  | nil=>exact⟨rfl,.nil⟩
  | @cons p q ps qs hq t ih=>exact⟨by simp [ih.1],.cons hq.2.1 ih.2⟩
 obtain⟨l1,l2⟩:=hk2 kt
 refine raw_iter nm ⟨o,g1,h2,h3⟩ ?_
 have hkey:∀ (i:Nat) (e:DictEntry) (b:Addr),es[i]? = some e->(xs.map (·.2.1))[i]? = some b->e.key=Value.ref b:=fun i e b e1 e2=>by
  rw[←Array.getElem?_toList,h4,List.getElem?_map] at e1
  obtain⟨y,e3,rfl⟩:=Option.map_eq_some_iff.mp e1
  rw[List.getElem?_map,e3] at e2
  cases e2;rfl
 exact⟨s1.heap.objs.size,[s1.heap.objs.size],_,Itf a o kvs (xs.map (·.2.1)),H1,rfl,I1.kept (t':=s1.toks) fun b o e=>Heap.get?_push_of_some _ e,turn_dcf h3 h2 (by simpa using hes) hkey,⟨_,Heap.get?_push_size _ rfl,rfl,rfl⟩,fun b hb=>by
  have e:b=s1.heap.objs.size:=by simpa using hb
  subst e
  exact I1.fpOk (Nat.le_refl _) (I1.hok.fresh (Nat.le_refl _)),q _ l2⟩
noncomputable def keysF:D->Option (List D)
 | .dcf ks _=>some ks
 | _=>none
noncomputable def fItF (f:FE):FL:=fun δ=>(f δ).bind fun p δ=>lift (keysF p.fz) δ
theorem keysAt_len {H:Hp} : ∀ {kvs:List (List Key×V)} {bs:List Addr},KeysAt H kvs bs->kvs.length=bs.length
 | _,_,.nil=>rfl
 | _,_,.cons _ t=>congrArg (· + 1) (keysAt_len t)
theorem snd_iDcf {X:Cx} {te:TE} {fe:FE} (he:SndE X te fe):SndI X (iDcf te) (fItF fe):=by
 intro M G0 H0 G H σ δ q δ' R S e k
 obtain⟨s,δ1,e1,e⟩:=Rs.inv e
 obtain⟨ds,e2,rfl,rfl⟩:=zcz e
 refine he.toV M G0 H0 G H σ δ s _ _ S e1 fun x G1 H1 S1 g1 r1 => ?_
 unfold keysF at e2
 split at e2
 ·rename_i ks vs hd
  cases e2
  rw[hd] at r1
  cases r1 with
  | @dcf a vv _ _ h rr=>
   obtain⟨kvs,o,ha,ek,ev⟩:=h
   refine⟨a,o,kvs,rfl,S1.gh _ _ ha,fun bs hb => ?_⟩
   obtain⟨G2,S2,g2,r2⟩:=S1.shares hb
   rw[←ek] at r2
   have hlen:=r2.len
   rw[List.length_map] at hlen
   have ha2:=g2.gg _ _ ha
   refine k _ G2 H1 S2 (g1.trans g2) ⟨fun H' i hh hi=>⟨hh _ _ ha2,by lia⟩,fun H' i x H'' hh hi y => ?_,fun H' hh=>⟨hh _ _ ha2,hlen⟩⟩
   obtain⟨e,b,hb',rfl⟩:=y
   obtain⟨d,e3,r3⟩:=r2.atV (i:=i) (v:=.ref b) (by rw[List.getElem?_map,hb'];rfl)
   exact⟨e,d,e3,r3⟩
 ·cases e2
theorem di_dcf {X:Cx} {tg iter:Expr} {fe:FE} (h:DE X iter fe):DI X tg iter (fItF fe):=let ⟨_,a1,a2⟩:=h;⟨_,pi_dcf a1,snd_iDcf a2⟩
end L4
namespace L4
open PySem L2 PySem.Spec PyProof.Rows
inductive NsL (K:PySem.W.Frag) (G H:Hp):List Addr->List D->Prop where
 | nil:NsL K G H [] []
 | cons {b:Addr} {xs:List V} {es:List D} {bs:List Addr} {vs:List D} : G b=none->H b=some (.lst xs)->RepL K G xs es->b ∉ bs->NsL K G H bs vs->NsL K G H (b::bs) (.lst es::vs)
structure Ns (K:PySem.W.Frag) (G H0 H:Hp) (σ:L2.St) (δ:DEnv) (j:Nat) (p:Addr) (kvs:List (List Key×V)) (bs:List Addr) (ks vs:List D):Prop where
 at':σ[j]? = some (some (.ref p))
 hp:H p=some (.dT kvs)
 ek:ks=kvs.map fun kv=>D.tup (kv.1.map keyD)
 ev:kvs.map (·.2)=bs.map V.ref
 ls:NsL K G H bs vs
 fr:∀ b,b=p\/b ∈bs->G b=none/\H0 b=none/\¬ Ow σ δ b
noncomputable def StN (K:PySem.W.Frag) (M:Nat->Option Addr) (G0 H0 G H:Hp) (σ:L2.St) (δ:DEnv) (j:Nat):Prop:=
 StOk K M G0 H0 G H σ (δ.set j none)/\∃ ks vs p kvs bs,δ[j]? = some (some (.own (.dct ks vs)))/\Ns K G H0 H σ (δ.set j none) j p kvs bs ks vs
section
variable {K:PySem.W.Frag} {M:Nat->Option Addr} {G0 H0 G H G' H':Hp} {σ:L2.St} {δ δ' δ1:DEnv} {j:Nat} {p:Addr} {kvs:List (List Key×V)} {bs:List Addr} {ks vs:List D}
theorem NsL.at:∀ {bs:List Addr} {vs:List D},NsL K G H bs vs->∀ b ∈bs,G b=none/\∃ xs,H b=some (.lst xs)
 | _,_,.nil,b,h=>by cases h
 | _,_,.cons g h _ _ t,b,hb=>by
  rcases List.mem_cons.mp hb with rfl | hb
  ·exact⟨g,_,h⟩
  ·exact t.at b hb
theorem NsL.step:∀ {bs:List Addr} {vs:List D},NsL K G H bs vs->(∀ b ∈bs,∀ xs,H b=some (.lst xs)->H' b=some (.lst xs)/\G' b=none)->Same G G'->NsL K G' H' bs vs
 | _,_,.nil,_,_=>.nil
 | _,_,.cons g h r n t,k,e=>.cons (k _ List.mem_cons_self _ h).2 (k _ List.mem_cons_self _ h).1 (RepL.mono e r) n (t.step (fun b hb=>k b (List.mem_cons_of_mem _ hb)) e)
theorem Ns.some (n:Ns K G H0 H σ δ j p kvs bs ks vs) {b:Addr} (hb:b=p\/b ∈bs):H b ≠ none:=by
 rcases hb with rfl | hb
 ·rw[n.hp];simp
 ·obtain⟨_,xs,e⟩:=n.ls.at b hb
  rw[e];simp
theorem Ns.ne (n:Ns K G H0 H σ δ j p kvs bs ks vs) {b:Addr} (hb:b ∈bs):b ≠ p:=fun z=>by
 obtain⟨_,xs,e⟩:=n.ls.at b hb
 rw[z,n.hp] at e;cases e
theorem Ns.step (n:Ns K G H0 H σ δ j p kvs bs ks vs) (S:StOk K M G0 H0 G' H' σ δ') (g:Gr G H σ δ G' H' δ'):Ns K G' H0 H' σ δ' j p kvs bs ks vs:=by
 have k:∀ b o,b=p\/b ∈bs->H b=Option.some o->(∀ vs,o ≠ .tup vs)->H' b=Option.some o/\G' b=none:=fun b o hb e no=>by
  obtain⟨f1,_,f3⟩:=n.fr b hb
  have e':=g.hs b o e f3
  exact⟨e',(g.fr b (by rw[e];simp) f1 f3).none S.gh e' no⟩
 refine⟨n.at',(k p _ (.inl rfl) n.hp fun _ z=>nomatch z).1,n.ek,n.ev,n.ls.step (fun b hb xs e=>k b _ (.inr hb) e fun _ z=>nomatch z) g.gg,fun b hb => ?_⟩
 obtain⟨f1,f2,f3⟩:=n.fr b hb
 refine⟨?_,f2,fun z=>f3 (g.shr b z)⟩
 rcases hb with rfl | hb
 ·exact (k _ _ (.inl rfl) n.hp fun _ z=>nomatch z).2
 ·obtain⟨_,xs,e⟩:=n.ls.at b hb
  exact (k b _ (.inr hb) e fun _ z=>nomatch z).2
theorem ow_less {b:Addr} (h:Ow σ (δ.set j none) b):Ow σ δ b:=by
 obtain⟨i,s,z1,os,z2⟩:=h
 by_cases hi:i=j
 ·subst hi
  by_cases hl:i<δ.length
  ·rw[List.getElem?_set_self hl] at z1;cases z1
  ·rw[List.getElem?_eq_none (by simpa using Nat.le_of_not_lt hl)] at z1;cases z1
 ·rw[List.getElem?_set_ne (Ne.symm hi)] at z1
  exact⟨i,s,z1,os,z2⟩
theorem Ns.less (n:Ns K G H0 H σ δ j p kvs bs ks vs) (i:Nat):Ns K G H0 H σ (δ.set i none) j p kvs bs ks vs:=⟨n.at',n.hp,n.ek,n.ev,n.ls,fun b hb=>let ⟨a,c,d⟩:=n.fr b hb;⟨a,c,fun z=>d (ow_less z)⟩⟩
noncomputable def hid {α:Type} (j:Nat) (f:DEnv->Rs α):DEnv->Rs α:=fun δ=>match f (δ.set j none) with
 | some (q,δ1)=>some (q,δ1.set j ((δ[j]?).getD none))
 | none=>none
theorem hid_inv {α:Type} {f:DEnv->Rs α} {q:Except XD α} {δ2:DEnv} (h:hid j f δ=some (q,δ2)):∃ δ1,f (δ.set j none)=some (q,δ1)/\δ2=δ1.set j ((δ[j]?).getD none):=by
 unfold hid at h
 split at h
 ·rename_i e;cases h;exact⟨_,e,rfl⟩
 ·cases h
theorem StN.mk' (S:StOk K M G0 H0 G H σ δ1) (n:Ns K G H0 H σ δ1 j p kvs bs ks vs):StN K M G0 H0 G H σ (δ1.set j (some (.own (.dct ks vs)))) j:=by
 have hl:j<δ1.length:=by rw[S.env.len];exact (List.getElem?_eq_some_iff.mp n.at').1
 refine⟨?_,ks,vs,p,kvs,bs,List.getElem?_set_self hl,?_⟩
 ·rw[List.set_set];exact S.empty j
 ·rw[List.set_set];exact n.less j
end
section
variable {X:Cx} {t u:TS} {f1 f2:FS} {te tk:TE} {fe fk:FE} {tc:TT} {fc:FT} {j:Nat}
noncomputable def PostQ (X:Cx) (M:Nat->Option Addr) (G0 H0:Hp) (E:Ends) (j:Nat):Out->Prop
 | .next δ=>∀ σ G H,StN X.K M G0 H0 G H σ δ j->E.nx σ H
 | .cont δ=>∀ σ G H,StN X.K M G0 H0 G H σ δ j->E.ct σ H
 | .brk δ=>∀ σ G H,StN X.K M G0 H0 G H σ δ j->E.bk σ H
 | _=>False
noncomputable def SndQ (X:Cx) (j:Nat) (t:TS) (f:FS):Prop:=∀ (M:Nat->Option Addr) (G0 H0 G H:Hp) (σ:L2.St) (δ:DEnv) (o:Out) (E:Ends),StN X.K M G0 H0 G H σ δ j->f δ=some o->PostQ X M G0 H0 E j o->t E σ H
theorem nest_e (he:SndE X te fe) {M:Nat->Option Addr} {G0 H0 G H:Hp} {σ:L2.St} {δ δ2:DEnv} {s:Sl} {Q:VK} {p:Addr} {kvs:List (List Key×V)} {bs:List Addr} {ks vs:List D}
  (S:StOk X.K M G0 H0 G H σ (δ.set j none)) (hj:δ[j]? = some (some (.own (.dct ks vs)))) (n:Ns X.K G H0 H σ (δ.set j none) j p kvs bs ks vs) (e:hid j fe δ=some (.ok s,δ2))
  (k:∀ v G' H' δ1,δ2=δ1.set j (some (.own (.dct ks vs)))->StOk X.K M G0 H0 G' H' σ δ1->Gr G H σ (δ.set j none) G' H' δ1->Ns X.K G' H0 H' σ δ1 j p kvs bs ks vs->RepR X.K H G' H' v s->Q v H'):te σ H Q:=by
 obtain⟨δ1,e1,rfl⟩:=hid_inv e
 refine he M G0 H0 G H σ _ (.ok s) δ1 _ S e1 fun v G' H' S1 g r=>k v G' H' δ1 (by rw[hj];rfl) S1 g (n.step S1 g) r
theorem nest_v (he:SndE X te fe) {M:Nat->Option Addr} {G0 H0 G H:Hp} {σ:L2.St} {δ δ2:DEnv} {s:Sl} {Q:VK} {p:Addr} {kvs:List (List Key×V)} {bs:List Addr} {ks vs:List D}
  (S:StOk X.K M G0 H0 G H σ (δ.set j none)) (hj:δ[j]? = some (some (.own (.dct ks vs)))) (n:Ns X.K G H0 H σ (δ.set j none) j p kvs bs ks vs) (e:hid j fe δ=some (.ok s,δ2))
  (k:∀ v G' H' δ1,δ2=δ1.set j (some (.own (.dct ks vs)))->StOk X.K M G0 H0 G' H' σ δ1->Gr G H σ (δ.set j none) G' H' δ1->Ns X.K G' H0 H' σ δ1 j p kvs bs ks vs->Rep X.K G' v s.fz->Q v H'):te σ H Q:=by
 obtain⟨δ1,e1,rfl⟩:=hid_inv e
 refine he.toV M G0 H0 G H σ _ s δ1 _ S e1 fun v G' H' S1 g r=>k v G' H' δ1 (by rw[hj];rfl) S1 g (n.step S1 g) r
theorem sn_next:SndQ X j tNext fNext:=by
 intro M G0 H0 G H σ δ o E S e k
 cases e
 exact k σ G H S
theorem sn_if (hc:SndT X tc fc) (h1:SndQ X j t f1) (h2:SndQ X j u f2):SndQ X j (tIfS tc t u) (fIf (hid j fc) f1 f2):=by
 intro M G0 H0 G H σ δ o E S e k
 obtain⟨b,δ1,e1,e⟩:=zb8 e
 ·obtain⟨S,ks,vs,p,kvs,bs,hj,n⟩:=S
  obtain⟨δ2,e2,rfl⟩:=hid_inv e1
  refine hc M G0 H0 G H σ _ (.ok b) δ2 _ S e2 fun G1 H1 S1 g1 => ?_
  have T:=StN.mk' S1 (n.step S1 g1)
  rw[hj] at e
  cases b with
  | true=>rw[if_pos rfl];exact h1 M G0 H0 G1 H1 σ _ o E T (by simpa using e) k
  | false=>rw[if_neg Bool.false_ne_true];exact h2 M G0 H0 G1 H1 σ _ o E T (by simpa using e) k
theorem ow_set {σ:L2.St} {δ:DEnv} {i:Nat} {v:V} {s:Sl} {b:Addr} (hl:δ.length=σ.length) (h:Ow (σ.set i (some v)) (δ.set i (some s)) b):Ow σ δ b\/(v=.ref b/\s.isO=true):=by
 obtain⟨m,s',z1,os,z2⟩:=h
 by_cases hm:m=i
 ·subst hm
  have hl1:m<δ.length:=by have:=(List.getElem?_eq_some_iff.mp z1).1;simpa using this
  rw[List.getElem?_set_self hl1] at z1
  rw[List.getElem?_set_self (by lia)] at z2
  cases z1;cases z2
  exact .inr ⟨rfl,os⟩
 ·rw[List.getElem?_set_ne (Ne.symm hm)] at z1 z2
  exact .inl ⟨m,s',z1,os,z2⟩
theorem StN.set {K:PySem.W.Frag} {M:Nat->Option Addr} {G0 H0 G H:Hp} {σ:L2.St} {δ1:DEnv} {p:Addr} {kvs:List (List Key×V)} {bs:List Addr} {ks vs:List D} {i:Nat} (hij:i ≠ j) {v:V} {s:Sl} (S:StOk K M G0 H0 G H σ δ1) (n:Ns K G H0 H σ δ1 j p kvs bs ks vs) (r:RepN K H0 G H σ δ1 v s)
  (nw:s.isO=true->∀ b,v=.ref b->b ≠ p/\b ∉ bs):StN K M G0 H0 G H (σ.set i (some v)) ((δ1.set j (some (.own (.dct ks vs)))).set i (some s)) j:=by
 rw[List.set_comm _ _ (Ne.symm hij)]
 refine StN.mk' (S.set i r.1 r.2) ⟨by rw[List.getElem?_set_ne hij];exact n.at',n.hp,n.ek,n.ev,n.ls,fun b hb => ?_⟩
 obtain⟨a,c,d⟩:=n.fr b hb
 refine⟨a,c,fun z => ?_⟩
 rcases ow_set S.env.len z with z | ⟨z1,z2⟩
 ·exact d z
 ·obtain⟨w1,w2⟩:=nw z2 b z1
  exact hb.elim w1 w2
theorem StN.rebase {K:PySem.W.Frag} {M:Nat->Option Addr} {G0 H0 G H:Hp} {σ:L2.St} {δ:DEnv} (S:StN K M G0 H0 G H σ δ j):StN K M G H0 G H σ δ j:=⟨S.1.rebase,S.2⟩
theorem StN.unbase {K:PySem.W.Frag} {M:Nat->Option Addr} {G0 H0 G1 H1 G H:Hp} {σ σ1:L2.St} {δ δ1:DEnv} (S:StN K M G0 H0 G1 H1 σ1 δ1 j) (S':StN K M G1 H0 G H σ δ j):StN K M G0 H0 G H σ δ j:=⟨S.1.unbase S'.1,S'.2⟩
theorem sn_for {wi:TI} {fs:FL} {i:Nat} {tb:TS} {F:FS} (hij:i ≠ j) (hi:SndI X wi fs) (hb:SndQ X j tb F):SndQ X j (tFor wi (gName i) tb) (fFor (hid j fs) i F):=by
 intro M G0 H0 G H σ δ o E S e k
 obtain⟨ds,δ1,e1,e⟩:=zb8 e
 obtain⟨S,ks,vs,p,kvs,bs,hj,n⟩:=S
 obtain⟨δ2,e2,rfl⟩:=hid_inv e1
 refine hi M G0 H0 G H σ _ (.ok ds) δ2 _ S e2 fun J G1 H1 S1 g1 io => ?_
 have T:=StN.mk' S1 (n.step S1 g1)
 rw[hj] at e
 have k1:PostQ X M G1 H0 E j o:=by
  cases o with
  | next δ3=>exact fun σ' G' H' S'=>k σ' G' H' (T.unbase S')
  | cont δ3=>exact fun σ' G' H' S'=>k σ' G' H' (T.unbase S')
  | brk δ3=>exact fun σ' G' H' S'=>k σ' G' H' (T.unbase S')
  | ret s δ3=>exact k
 refine⟨fun n m σ' H'=>m=ds.length - n/\n<=ds.length/\∃ G' δ',StN X.K M G1 H0 G' H' σ' δ' j/\forD i F (ds.drop n) δ'=some o,⟨ds.length,by simp,Nat.zero_le _,G1,_,T.rebase,by simpa using e⟩,?_⟩
 rintro m _ σ' H' ⟨rfl,hn,G',δ',S',ef⟩
 by_cases hlt:m<ds.length
 ·refine .inr ⟨io.go H' m (S'.1.g0.trans S'.1.gh) hlt,fun σ2 H2=>∃ G2 δ2,StN X.K M G1 H0 G2 H2 σ2 δ2 j/\forD i F (ds.drop (m+1)) δ2=some o,fun σ2 H2 h=>⟨ds.length - (m+1),by lia,rfl,hlt,h⟩,fun x H2 y => ?_⟩
  obtain⟨rfl,d,hd,rd⟩:=io.yld H' m x H2 (S'.1.g0.trans S'.1.gh) hlt y
  have hde:ds[m]=d:=by rw[List.getElem?_eq_getElem hlt] at hd;exact Option.some.inj hd
  rw[List.drop_eq_getElem_cons hlt,hde] at ef
  obtain⟨o1,e5,ef⟩:=Option.bind_eq_some_iff.mp ef
  obtain⟨S9,ks',vs',p',kvs',bs',hj',n'⟩:=S'
  have T2:=StN.set hij (i:=i) (v:=x) (s:=.val d) S9 n' ⟨Rep.mono S9.g0 rd,fun z=>nomatch z⟩ fun z=>nomatch z
  rw[List.set_set,set_same hj'] at T2
  refine hb M G1 H0 G' H2 _ _ o1 _ T2 e5 ?_
  cases o1 with
  | next δ3=>exact fun σ3 G3 H3 S3=>⟨G3,δ3,S3,ef⟩
  | cont δ3=>exact fun σ3 G3 H3 S3=>⟨G3,δ3,S3,ef⟩
  | brk δ3=>cases ef;exact k1
  | ret s δ3=>cases ef;exact k1
 ·have he:m=ds.length:=by lia
  subst he
  rw[List.drop_length] at ef
  cases ef
  exact .inl ⟨io.stop H' (S'.1.g0.trans S'.1.gh),k1 σ' G' H' S'⟩
end
end L4
namespace L4
open PySem L2 PySem.Spec PyProof.Rows
section
variable {K:PySem.W.Frag} {M:Nat->Option Addr} {G0 H0 G H G' H':Hp} {σ:L2.St} {δ δ' δ1:DEnv} {j:Nat} {p:Addr} {kvs:List (List Key×V)} {bs:List Addr} {ks vs:List D}
theorem NsL.app:∀ {bs:List Addr} {vs:List D},NsL K G H bs vs->∀ {b:Addr} {xs:List V} {es:List D},G b=none->H b=some (.lst xs)->RepL K G xs es->b ∉ bs->NsL K G H (bs++[b]) (vs++[.lst es])
 | _,_,.nil,b,xs,es,g,h,r,n=>.cons g h r (by simp) .nil
 | _,_,.cons g' h' r' n' t,b,xs,es,g,h,r,n=>.cons g' h' r' (fun z=>by
   rcases List.mem_append.mp z with z | z
   ·exact n' z
   ·have e:=List.mem_singleton.mp z
    exact n (by rw[e];exact List.mem_cons_self)) (t.app g h r fun z=>n (List.mem_cons_of_mem _ z))
theorem StN.enter (S:StOk K M G0 H0 G H σ δ) (hj:δ[j]? = some (some (.own (.dct [] [])))):StN K M G0 H0 G H σ δ j:=by
 obtain⟨v,z1,p,rfl,hg,vv,⟨kvs,hp,ek,ev⟩,rr⟩:=S.env.at' j _ hj
 have e:kvs=[]:=by
  cases kvs with
  | nil=>rfl
  | cons a b=>cases ek
 subst e
 exact⟨S.empty j,[],[],p,[],[],hj,z1,hp,rfl,rfl,.nil,fun b hb=>by
  rcases hb with rfl | hb
  ·exact⟨hg,S.own0 b ⟨j,_,hj,rfl,z1⟩,S.alone hj rfl z1⟩
  ·cases hb⟩
end
section
variable {X:Cx} {t u:TS} {f1 f2:FS} {te tk:TE} {fe fk:FE} {tc:TT} {fc:FT} {j:Nat}
noncomputable def fNest (j:Nat) (F:FS):FS:=fun δ=>match δ[j]? with
 | some (some (.own (.dct [] [])))=>(match F δ with | some (.next δ')=>some (.next δ') | _=>none)
 | _=>none
noncomputable def nputD (j:Nat) (es:List D) (q:D) (δ:DEnv):Option Out:=match δ[j]?,q with
 | some (some (.own (.dct ks vs))),.tup kd=>(match intsOf kd with
  | some n=>if n ≠ []/\ks.length<sizeLine/\ks.any (isKey n)=false then some (.next (δ.set j (some (.own (.dct (ks++[.tup kd]) (vs++[.lst es])))))) else none
  | none=>none)
 | _,_=>none
noncomputable def fNPut (j:Nat) (fk fe:FE):FS:=fun δ=>thenS (hid j fe δ) fun s δ=>match s with
 | .own (.lst es)=>thenS (hid j fk δ) fun q δ=>nputD j es q.fz δ
 | _=>none
theorem snd_nput (he:SndE X te fe) (hk:SndE X tk fk):SndQ X j (sDPut (tVar j) tk te) (fNPut j fk fe):=by
 intro M G0 H0 G H σ δ o E T e kk
 obtain⟨S,ks,vs,p,kvs,bs,hj,n⟩:=T
 obtain⟨s,δ1,e1,e⟩:=zb8 e
 refine nest_e he S hj n e1 fun v G1 H1 δ2 hd S1 g1 n1 r => ?_
 subst hd
 split at e
 rotate_left
 ·cases e
 rename_i es
 obtain⟨⟨p',rfl,g3,xs,h3,r3⟩,nw⟩:=r
 obtain⟨_,p'',e4,f4⟩:=nw rfl
 cases e4
 have no1:¬ Ow σ δ2 p':=fun z=>S.noOw f4 (g1.shr _ z)
 refine⟨_,n1.at',?_⟩
 obtain⟨q,δ3,e3,e⟩:=zb8 e
 have T1:=StN.mk' S1 n1
 have hl:j<δ2.length:=by rw[S1.env.len];exact (List.getElem?_eq_some_iff.mp n1.at').1
 have hj1:(δ2.set j (some (.own (.dct ks vs))))[j]? = some (some (.own (.dct ks vs))):=List.getElem?_set_self hl
 have S1':StOk X.K M G0 H0 G1 H1 σ ((δ2.set j (some (.own (.dct ks vs)))).set j none):=by rw[List.set_set];exact S1.empty j
 have n1':Ns X.K G1 H0 H1 σ ((δ2.set j (some (.own (.dct ks vs)))).set j none) j p kvs bs ks vs:=by rw[List.set_set];exact n1.less j
 refine nest_v hk S1' hj1 n1' e3 fun y G2 H2 δ4 hd2 S2 g2 n2 r2 => ?_
 subst hd2
 rw[List.set_set] at g2
 have hl4:j<δ4.length:=by rw[S2.env.len];exact (List.getElem?_eq_some_iff.mp n1.at').1
 unfold nputD at e
 rw[List.getElem?_set_self hl4] at e
 split at e
 ·rename_i ks' vs' kd hjj hkd
  cases hjj
  split at e
  ·rename_i nn hn
   split at e
   ·rename_i hc
    cases e
    rw[hkd] at r2
    obtain⟨b,us,rfl,_,hx,ru⟩:=rep_tupX r2
    have hb:=hx (allI_of hn hc.1)
    rw[key_vals ru hn] at hb
    have hlen:kvs.length<sizeLine:=by have:=hc.2.1;rw[n2.ek] at this;simpa using this
    have hany:¬ (kvs.any fun kv=>decide (kv.1=keyI nn))=true:=by
     have:=hc.2.2
     rw[n2.ek,any_key] at this
     rw[this];exact Bool.false_ne_true
    have ep:putK kvs (keyI nn) (V.ref p')=kvs++[(keyI nn,V.ref p')]:=by unfold putK;rw[if_neg hany]
    refine⟨p,_,rfl,.inr ⟨kvs,keyI nn,b,n2.hp,rfl,S2.gh _ _ hb,hlen,rfl⟩,?_⟩
    rw[ep]
    have no2:¬ Ow σ (δ2.set j none) p':=fun z=>no1 (ow_less z)
    have h5:H2 p'=some (.lst xs):=g2.hs _ _ h3 no2
    have g5:G2 p'=none:=(g2.fr _ (by rw[h3];simp) g3 no2).none S2.gh h5 fun _ z=>nomatch z
    have nep:p' ≠ p:=fun z=>by rw[z,n2.hp] at h5;cases h5
    have neb:p' ∉ bs:=fun z=>n.some (.inr z) f4
    obtain⟨f1,f2,f3⟩:=n2.fr p (.inl rfl)
    have S3:=S2.poke (o:=.dT (kvs++[(keyI nn,V.ref p')])) f1 f3 f2
    have same:∀ c,c ≠ p->upd H2 p (.dT (kvs++[(keyI nn,V.ref p')])) c=H2 c:=fun c hc=>za2 hc
    have n3:Ns X.K G2 H0 (upd H2 p (.dT (kvs++[(keyI nn,V.ref p')]))) σ δ4 j p (kvs++[(keyI nn,V.ref p')]) (bs++[p']) (ks++[.tup kd]) (vs++[.lst es]):=by
     refine⟨n2.at',za4,by rw[List.map_append,←n2.ek];simp [keyD_keyI,ints_back hn],by rw[List.map_append,List.map_append,n2.ev];rfl,?_,fun c hc' => ?_⟩
     ·exact (n2.ls.step (fun c hc' ys q=>⟨by rw[same c (n2.ne hc')];exact q,(n2.ls.at c hc').1⟩) (Same.refl _)).app g5 (by rw[same _ nep];exact h5) (RepL.mono g2.gg r3) neb
     ·have:c=p\/c ∈bs\/c=p':=by
       rcases hc' with h | h
       ·exact .inl h
       ·rcases List.mem_append.mp h with h | h
        ·exact .inr (.inl h)
        ·exact .inr (.inr (List.mem_singleton.mp h))
      rcases this with h | h | h
      ·exact n2.fr c (.inl h)
      ·exact n2.fr c (.inr h)
      ·subst h
       exact⟨g5,Same.free S.h0 f4,fun z=>no2 (g2.shr _ z)⟩
    have T3:=StN.mk' S3 n3
    rw[List.set_set] at kk
    exact kk σ G2 _ T3
   ·cases e
  ·cases e
 ·cases e
noncomputable def DN (X:Cx) (j:Nat) (st:Stmt) (f:FS):Prop:=∃ t,PS X st t/\SndQ X j t f
noncomputable def DNB (X:Cx) (j:Nat) (st:List Stmt) (f:FS):Prop:=∃ t,PSs X st t/\SndQ X j t f
variable {st s1 s2:Stmt} {rest:List Stmt} {F1 F2 F3:FS} {e k c:Expr} {pos:Pos} {ft:FT} {fl:FL}
theorem tSeq_as (t1 t2 t3:TS):tSeq (tSeq t1 t2) t3=tSeq t1 (tSeq t2 t3):=rfl
theorem nb_nil:DNB X j [] fNext:=⟨_,pss_nil,sn_next⟩
theorem nb_one (h1:DN X j st F1):DNB X j [st] F1:=let ⟨_,a1,a2⟩:=h1;⟨_,pss_one a1,a2⟩
theorem dn_if {a b:List Stmt} (hc:DT X c ft) (h1:DNB X j a F1) (h2:DNB X j b F2):DN X j (.If c a b pos) (fIf (hid j ft) F1 F2):=let ⟨_,y1,y2⟩:=hc;let ⟨_,a1,a2⟩:=h1;let ⟨_,b1,b2⟩:=h2;⟨_,ps_if y1 a1 b1,sn_if y2 a2 b2⟩
theorem dn_for {i:Nat} {x:Str} {iter:Expr} {body:List Stmt} {tp:Pos} {fs:FL} (hij:i ≠ j) (hN:X.N.Nodup) (hi:X.N[i]? = some x) (hx:Loc X.env.scope x) (hc:X.calm=true) (h:DI X (.Name x tp) iter fs) (hb:DNB X j body F1) (hp:PassesOwn (model X.prog X.w) X.A X.env X.xe:=by first | exact PassesOwn.never | exact PassesOwn.leaving | exact PassesOwn.looking) (hf:X.fn x=true\/X.env.scope.names.lookup x=some .local:=by first | exact .inl rfl | exact .inr rfl | assumption)
  (hs:∀ x,foldedSetIterable iter X.env x=pure x:=by intro _;rfl):DN X j (.For (.Name x tp) iter body [] pos) (fFor (hid j fs) i F1):=
 let ⟨_,a1,a2⟩:=h;let ⟨_,b1,b2⟩:=hb;⟨_,ps_for hp hc a1 (pg_name hN hi hx hf) b1 hs,sn_for hij a2 b2⟩
theorem dn_put {x:Str} {np sp:Pos} (hu:X.A.units+1<cLine) (h:DE X e fe) (hk:DE X k fk) (hN:X.N[j]? = some x:=by rfl) (hv:Vis X.env.scope x:=by first | exact Or.inl rfl | exact Or.inr (Or.inl rfl) | exact Or.inr (Or.inr rfl)) (hd:(x == ("__debug__" : Str))=false:=by decide) (hcd:(x == ("__classdict__" : Str))=false:=by decide)
  (hs:swapsWith e (some (.Subscript (.Name x np) k sp)) pos.line X.env=pure false:=by rfl):
  DN X j (.Assign [.Subscript (.Name x np) k sp] e pos) (fNPut j fk fe):=
 let ⟨_,a1,a2⟩:=h;let ⟨_,b1,b2⟩:=hk;⟨_,ps_dput hu (pv j hN hv hd hcd) b1 a1 hs,snd_nput a2 b2⟩
end
end L4
namespace L4
open PySem L2 PySem.Spec PyProof.Rows
section
variable {prog:Program} {w:World} {K:Type} [DecidableEq K] {knd:HeapKind prog w K} {A:Around} {E:Value->Shared->Prop} {s:Shared} {d a:Addr} {k:K} {xs:List (K×Addr×Value)}
end
section
variable {X:Cx} {te tk:TE} {fe fk:FE} {j:Nat}
end
end L4
namespace L4
open PySem L2 PySem.Spec PyProof.Rows Tab
section
variable {prog:Program} {w:World} {A:Around} {E:Value->Shared->Prop} {s:Shared}
end
section
variable {K:PySem.W.Frag} {P:Program} {w:World} {X:Cx}
end
section
variable {X:Cx} {e:Expr} {es:List Expr} {p p2 pos pos2:Pos} {fl:FL}
end
end L4
namespace L4
open PySem L2 PySem.Spec PyProof.Rows
end L4
namespace L4
open PySem L2 PySem.Spec PyProof.Rows
abbrev NewT (ρ : Type):=Hp->Hp->Hp->Hp->V -> ρ -> Prop
structure NestAt (K:PySem.W.Frag) (H0 G H:Hp) (p:Addr) (kvs:List (List Key×V)) (bs:List Addr) (ks vs:List D):Prop where
 p0:H0 p=none
 pn:G p=none
 hp:H p=some (.dT kvs)
 ek:ks=kvs.map fun kv=>D.tup (kv.1.map keyD)
 ev:kvs.map (·.2)=bs.map V.ref
 ls:NsL K G H bs vs
 b0:∀ b ∈bs,H0 b=none
noncomputable def NestN (K:PySem.W.Frag):NewT (List D×List D):=fun G0 H0 G H v r=>Grew G0 H0 G H/\∃ p kvs bs,v=.ref p/\NestAt K H0 G H p kvs bs r.1 r.2
noncomputable def SndG {ρ : Type} (X:Cx) (N:NewT ρ) (t:TS) (F:DEnv->Option ρ):Prop:=∀ (M:Nat->Option Addr) (G0 H0 G H:Hp) (σ:L2.St) (δ:DEnv) (r : ρ) (E:Ends),StOk X.K M G0 H0 G H σ δ->F δ=some r →
 (∀ v G' H',N G0 H0 G' H' v r->E.rt v H')->t E σ H
noncomputable def DBG {ρ : Type} (X:Cx) (N:NewT ρ) (st:List Stmt) (F:DEnv->Option ρ):Prop:=∃ t,PSs X st t/\SndG X N t F
noncomputable def fNestR (j:Nat) (F:FS):DEnv->Option (List D×List D):=fun δ=>match δ[j]? with
 | some (some (.own (.dct [] [])))=>(match F δ with
  | some (.next δ')=>(match δ'[j]? with | some (some (.own (.dct ks vs)))=>some (ks,vs) | _=>none)
  | _=>none)
 | _=>none
noncomputable def fSeqG {ρ : Type} (f:FS) (F:DEnv->Option ρ):DEnv->Option ρ:=fun δ=>match f δ with | some (.next δ')=>F δ' | _=>none
section
variable {X:Cx} {t u:TS} {f:FS} {ρ : Type} {N:NewT ρ} {F:DEnv->Option ρ}
theorem snd_nestR {j:Nat} (h:SndQ X j t f):SndG X (NestN X.K) (tSeq t (tRet (tVar j))) (fNestR j f):=by
 intro M G0 H0 G H σ δ r E S e k
 unfold fNestR at e
 split at e
 ·rename_i hj
  split at e
  ·rename_i δ' ef
   split at e
   ·rename_i ks vs hj'
    cases e
    refine h M G0 H0 G H σ δ _ _ (StN.enter S hj) ef fun σ' G' H' T => ?_
    obtain⟨S',ks',vs',p,kvs,bs,hk,n⟩:=T
    rw[hj'] at hk
    cases hk
    obtain⟨f1,f2,f3⟩:=n.fr p (.inl rfl)
    exact⟨_,n.at',k _ G' H' ⟨S'.grew,p,kvs,bs,rfl,f2,f1,n.hp,n.ek,n.ev,n.ls,fun b hb=>(n.fr b (.inr hb)).2.1⟩⟩
   ·cases e
  ·cases e
 ·cases e
theorem snd_seqG (h1:SndS X t f) (h2:SndG X N u F):SndG X N (tSeq t u) (fSeqG f F):=by
 intro M G0 H0 G H σ δ r E S e k
 unfold fSeqG at e
 split at e
 ·rename_i δ' ef
  exact h1 M G0 H0 G H σ δ _ _ S ef fun σ' G' H' S'=>h2 M G0 H0 G' H' σ' δ' r E S' e k
 ·cases e
variable {st:Stmt} {rest:List Stmt}
theorem dbg_cons (h1:DS X st f) (h2:DBG X N rest F):DBG X N (st::rest) (fSeqG f F):=let ⟨_,a1,a2⟩:=h1;let ⟨_,b1,b2⟩:=h2;⟨_,zez a1 b1,snd_seqG a2 b2⟩
theorem dbg_nest {j:Nat} {x:Str} {p1 p4:Pos} (hx:PE X (.Name x p1) (tVar j)) (h:DN X j st f):
  DBG X (NestN X.K) [st,.Return (some (.Name x p1)) p4] (fNestR j f):=let ⟨_,a1,a2⟩:=h;⟨_,zez a1 (pss_one (ps_ret hx)),snd_nestR a2⟩
end
noncomputable def spG {ρ : Type} (K:PySem.W.Frag) (N:NewT ρ) (F:List D->Option ρ):Sp:=fun vs H Q _=>∃ (G:Hp) (ds:List D) (r : ρ),Same G H/\RepL K G vs ds/\F ds=some r/\∀ v G' H',N G H G' H' v r->Q v H'
noncomputable def runG {ρ : Type} (n m:Nat) (F:DEnv->Option ρ):List D->Option ρ:=fun ds=>if ds.length=m then F (startD n [] ds) else none
structure FnG {ρ : Type} (P:Program) (w:World) (K:PySem.W.Frag) (mg:Str->Option Value) (base:Heap) (N:NewT ρ) (x:Str) (k:Nat) (ps:List Str) (F:List D->Option ρ):Prop where
 ex:∃ f fd,mg x=some (.ref f)/\PySem.W.keepIn K (.ref f)=true/\Binds K fd ps []/\FnOk P w K mg base (CXA P w) k f fd ps (spG K N F)
section
variable {P:Program} {w:World} {K:PySem.W.Frag} {mg:Str->Option Value} {base:Heap} {ρ : Type} {N:NewT ρ}
theorem fnG_mk {x:Str} {st:Stmt} {f:Addr} {fd:FuncData} {Ns ps:List Str} {n m k:Nat} {f0:DEnv->Option ρ} (F:Fun K x x st f fd) (S:FnScope Ns ps (defScope st)) (hn:Ns.length=n) (hm:ps.length=m) (b:Binds K fd ps []) (hmg:mg x=some (.ref f))
  (body:∀ (cdv:Value) (A:Around) (outer:List Env) (s:Shared) (H:Hp) (E:XK),Room k (A.deeper (envOfC x (defScope st) s.heap.objs.size f cdv))->DBG (cxOf (CXA P w) P w K mg base Ns x (defScope st) f cdv A outer s H E) N (defBody st) f0):
  FnG P w K mg base N x (k+1) ps (runG n m f0):=by
 refine⟨f,fd,hmg,F.kp,b,?_⟩
 have len:∀ vs H Q E,spG K N (runG n m f0) vs H Q E->vs.length=ps.length:=fun vs H Q E h=>by
  obtain⟨G,ds,r,_,rl,e,_⟩:=h
  unfold runG at e
  split at e
  ·rename_i hl
   rw[rl.len,hl,hm]
  ·cases e
 obtain⟨oc,od,kV,doc,pm,an,cdv,ct,osl,rfl,lk,hcd⟩:=F.ex
 refine fn_of lk hcd S len fun A outer s H vs Q E hr h => ?_
 obtain⟨t,ht,snd⟩:=body cdv A outer s H E hr
 refine⟨t,ht,?_⟩
 obtain⟨G,ds,r,hs,rl,e,q⟩:=h
 unfold runG at e
 split at e
 ·have S0:=start_ok (M:=fun _=>none) (N:=Ns) hs rl
  rw[hn] at S0
  exact snd _ _ _ G H _ _ r _ S0 e q
 ·cases e
end
end L4
namespace L4
open PySem L2 PySem.Spec PyProof.Rows
noncomputable def tgD:D->D
 | .tg _ d=>d
 | d=>d
noncomputable def tgS:Sl->Sl
 | .val d=>.val (tgD d)
 | s=>s
noncomputable def fTg (f:FE):FE:=fun δ=>match f δ with
 | some (.ok s,δ')=>some (.ok (tgS s),δ')
 | r=>r
theorem rep_tgD {K:PySem.W.Frag} {G:Hp} {v:V} {d:D} (r:Rep K G v d):Rep K G v (tgD d):=by
 cases r with
 | tg r=>exact r
 | non=>exact .non
 | bl b=>exact .bl b
 | int i=>exact .int i
 | str x=>exact .str x
 | ty n=>exact .ty n
 | tup a b c=>exact .tup a b c
 | lst a b=>exact .lst a b
 | dct a b=>exact .dct a b
 | dcf h r=>exact .dcf h r
theorem de_tg {X:Cx} {e:Expr} {f:FE} (h:DE X e f):DE X e (fTg f):=by
 obtain⟨t,a1,a2⟩:=h
 refine⟨t,a1,?_⟩
 intro M G0 H0 G H σ δ q δ' Q S e k
 unfold fTg at e
 split at e
 ·rename_i s δ1 e1
  cases e
  refine a2 M G0 H0 G H σ δ (.ok s) _ _ S e1 fun v G' H' S' g r=>k v G' H' S' g ?_
  cases s with
  | val d=>exact⟨rep_tgD r.1,fun z=>nomatch z⟩
  | own d=>exact r
  | lnt d=>exact r
 ·exact a2 M G0 H0 G H σ δ _ _ _ S e k
noncomputable def DBA (X:Cx) (a:List Stmt) (f:FS):Prop:=∃ t,SndS X t f/\∀ b u,PSs X b u->PSs X (a++b) (tSeq t u)
theorem dba_one {X:Cx} {st:Stmt} {f:FS} (h:DS X st f):DBA X [st] f:=let ⟨_,a1,a2⟩:=h;⟨_,a2,fun _ _ p=>zez a1 p⟩
theorem dba_cons {X:Cx} {st:Stmt} {a:List Stmt} {f g:FS} (h:DS X st f) (h2:DBA X a g):DBA X (st::a) (fSeq f g):=let ⟨_,a1,a2⟩:=h;let ⟨_,b1,b2⟩:=h2;⟨_,snd_seq a2 b1,fun b u p=>by rw[tSeq_as];exact zez a1 (b2 b u p)⟩
end L4
namespace L4
open PySem L2 PySem.Spec PyProof.Rows
noncomputable def rListDT:List V->Hp->VK->Prop:=fun xs H Q=>∃ p kvs,xs=[.ref p]/\Rd H p (.dT kvs)/\∀ bs l,KeysAt H kvs bs->H l=none->Q (.ref l) (upd H l (.lst (bs.map V.ref)))
theorem keysAt_at {H:Hp} : ∀ {kvs:List (List Key×V)} {bs:List Addr} {i:Nat} {c:Addr},KeysAt H kvs bs->bs[i]? = some c->∃ kv,kvs[i]? = some kv/\H c=some (.tup (kv.1.map kV))
 | _,_,i,c,.nil,e=>by simp at e
 | _,_,0,c,.cons h _,e=>by simp at e;subst e;exact⟨_,rfl,h⟩
 | _,_,i+1,c,.cons _ t,e=>by
  obtain⟨kv,h1,h2⟩:=keysAt_at t (i:=i) (by simpa using e)
  exact⟨kv,by simpa using h1,h2⟩
end L4
namespace L4
open PySem L2 PySem.Spec PyProof.Rows
section
variable {K:PySem.W.Frag}
theorem nsl_len {G H:Hp} : ∀ {bs:List Addr} {vs:List D},NsL K G H bs vs->∀ b ∈bs,∃ xs es,H b=some (.lst xs)/\.lst es ∈vs/\xs.length=es.length
 | _,_,.nil,b,m=>by cases m
 | _,_,.cons _ h r _ t,b,m=>by
  rcases List.mem_cons.mp m with rfl | m
  ·exact⟨_,_,h,List.mem_cons_self,r.len⟩
  ·obtain⟨xs,es,h1,h2,h3⟩:=nsl_len t b m
   exact⟨xs,es,h1,List.mem_cons_of_mem _ h2,h3⟩
end
end L4
namespace L4
open PySem L2 PySem.Spec PyProof.Rows
section
variable {X:Cx} {x y z:Str}
theorem pe_callG {ρ : Type} {N:NewT ρ} {F:List D->Option ρ} {k:Nat} {ps:List Str} {j:Nat} {p pos pz:Pos} (G:FnG X.prog X.w X.K X.mg X.base N x k ps F) (hr:Room k X.A) (hg:Gl X x) (h:PE X (.Name z pz) (tVar j))
  (hdb:(x == ("__debug__" : Str))=false:=by decide) (he:starEach [.Name z pz] X.env=(false,eval (.Name z pz) X.env)::starEach [] X.env:=by rfl) (hpl:(backTo pos (starEach [] X.env)).any (·.1)=false:=by rfl):
  PE X (.Call (.Name x p) [.Name z pz] [] pos) (tCallX X (spG X.K N F) (tCons (tVar j) tNil)):=
 let ⟨_,_,hm,hk,hb,ok⟩:=G.ex;pe_callX ok hr hg hm hk hb (pa_cons h pa_nil he) hdb he hpl
theorem ps_clT {i:Nat} {apos cpos np pos:Pos} (h:PE X (.Name x np) (tVar i))
  (hbase:attributeBase (.Name x np) "clear" X.env (eval (.Name x np) X.env)=eval (.Name x np) X.env:=by rfl) (hline:(apos.endLine == cpos.line)=true:=by rfl) (hs:swapsWith (.Call (.Attribute (.Name x np) "clear" apos) [] [] cpos) none pos.line X.env=pure false:=by rfl):
  PS X (.Expr (.Call (.Attribute (.Name x np) "clear" apos) [] [] cpos) pos) (tDrop (tBM0 X.K "dict" rClearT (tVar i))):=
 ps_expr (pe_bm0 PySem.F.plainAttrs_dict PySem.F.slot_dict_clear PySem.F.type_dict_clear mt_clearT h hbase hline) hs
end
end L4
namespace L4
open PySem L2 PySem.Spec PyProof.Rows
section
variable {K:PySem.W.Frag} {X:Cx}
noncomputable def rIsiDT:List V->Hp->VK->Prop:=fun xs H Q=>∃ p kvs,xs=[.ref p,.ty "dict"]/\Rd H p (.dT kvs)/\Q (.bl true) H
theorem call_isiDT:CallR X (.builtin "isinstance") rIsiDT:=by
 intro pins s σ H xs us Q I r h
 obtain⟨p,kvs,rfl,hp,q⟩:=h
 obtain⟨u,w',rfl,ru,rw'⟩:=vals2 r
 cases rw'
 cases ru
 obtain⟨z,nm,xs,kt,o,es,ep,h1,h2,h3,h4,h5⟩:=(show ObjOk X.prog X.w H s.heap p (.dT kvs) from hp.ok I.hok)
 exact IsiPair.dict_dict h1 h2.1 ⟨.bl true,H,I,rfl,q⟩
noncomputable def isiDD (a b:D):Option Sl:=match a,b with | .dct _ _,.ty T=>if T = "dict" then some (.val (.bl true)) else none | _,_=>none
theorem c_isiDD:SndN K rIsiDT (g2 isiDD):=by
 intro M G0 H0 G H σ δ xs ds s Q S r e k
 unfold g2 at e
 split at e
 ·obtain⟨v,y,rfl,r1,r2⟩:=repL2 r
  unfold isiDD at e
  split at e
  ·split at e
   ·rename_i T hT
    cases e
    subst hT
    have ey:y=.ty "dict":=by cases r2;rfl
    subst ey
    obtain⟨a,vs,rfl,⟨kvs,y1,rfl,rfl⟩,_⟩:=rep_dct r1
    exact⟨a,kvs,rfl,same_rd S.gh y1,k _ G H S (Gr.refl ..) (.val (.bl _))⟩
   ·cases e
  ·cases e
 ·cases e
end
section
variable {X:Cx} {e:Expr} {es:List Expr} {fl:FL} {pos p:Pos}
theorem de_isiDD (hg:Gl X "isinstance") (hm:X.mg "isinstance" = none) (ha:DA X (e::es) fl) (he:starEach (e::es) X.env=(false,eval e X.env)::starEach es X.env:=by rfl) (hpl:(backTo pos (starEach es X.env)).any (·.1)=false:=by rfl):
  DE X (.Call (.Name "isinstance" p) (e::es) [] pos) (fArgs (g2 isiDD) fl):=de_blt call_isiDT c_isiDD hg hm bo_isinstance ha (by decide) (by decide) he hpl
end
end L4
namespace L4
open PySem L2 PySem.Spec PyProof.Rows
theorem inv_turnL {X:Cx} {pins:List (Addr×Obj)} {σ:L2.St} {H:Hp} {s:Shared} {h':Heap} {t':Nat} {ch:List Addr} (I:Inv X pins σ H s) (k:∀ b o,b ∉ ch->s.heap.get? b=some o->h'.get? b=some o) (f:∀ b ∈ch,FpOk X pins H b):Inv X pins σ H { s with heap:=h',toks:=t' }:=by
 have no:∀ b u,H b=some u->b ∉ ch:=fun b u e z=>by rw[(f b z).1] at e;cases e
 refine I.step (g':=s.gens) (d':=s.drawn) (ch:=ch) (fun b hb=>let ⟨_,a,_,c,d,e⟩:=f b hb;⟨c,a,d,e⟩) (fun b o _ _ hc e _=>k b o hc e) (fun b o _ _ hc e _=>⟨o.slots,k b o hc e⟩) (fun _ _ _ _ n=>n)
  (fun b o hc e=>⟨o,k b o hc e⟩) (fun _ _ e=>e) (fun _ _ _ e=>e) (fun b ps e=>⟨#[],by rw[e];simp⟩) (fun m hm => ?_) (fun b u e=>(I.hok b u e).stay (fun c v hc q=>k c v (hc.elim (fun z=>by rw[z];exact no b u e) fun z=>no c _ z) q) (fun _ q=>q) fun _ _ q=>q) I.bare
 obtain⟨o,es,ep,ho,r⟩:=hm
 exact⟨o,es,ep,k _ o (fun z=>(f _ z).2.1 rfl) ho,r⟩
noncomputable def Ite (K:PySem.W.Frag) (a:Addr):It:=
 ⟨(Itl K a).go,fun i H x H'=>∃ t y,x=.ref t/\H t=none/\(∀ xs,SqL K H a xs->xs[i]? = some y)/\H'=upd H t (.tup [.int i,y]),(Itl K a).stop⟩
theorem turn_enum {P:Program} {w:World} {K:PySem.W.Frag} {es:List Expr} {k:Nat} {pos:Pos} (a e it:Addr) (hne:e ≠ it):Turn P w K (.Tuple es k pos) (Ite K a) [e,it] e (fun i h=>(∃ old,IsEnum h e it i old)/\h.IsListIter it a i) where
 mem:=by simp
 obj:=fun i h st b hb=>by
  obtain⟨⟨old,he⟩,o,e',c,d⟩:=st
  rcases (show b=e\/b=it by simpa using hb) with rfl | rfl
  ·exact⟨_,he,fun v z=>by cases z⟩
  ·exact⟨o,e',fun v z=>by rw[d] at z;cases z⟩
 keep:=fun i h h' st k=>⟨st.1.imp fun old z=>k e (by simp) _ z,st.2.at fun o z=>k it (by simp) o z⟩
 item:=by
  intro X hP hw hK hc i pins s σ H E I hf st hg
  subst hP hw hK
  obtain⟨⟨old,he⟩,hit⟩:=st
  obtain⟨xs,x,hq,hx⟩:=hg
  obtain⟨its,rv,p,hz⟩:=I.list hq
  obtain⟨u,hu,ru⟩:=rv.get hx
  have fe:=hf e (by simp)
  have fi:=hf it (by simp)
  have le:e<s.heap.objs.size:=Heap.lt_size he
  have li:it<s.heap.objs.size:=by obtain⟨o,q,_⟩:=id hit;exact Heap.lt_size q
  refine wpAny_pyNext_enum_item he hit p.isList (x:=u) (by simpa using hu) hne fun h1 heo hit1 ht1 hz1 hk1=>⟨_,rfl,?_⟩
  refine wpAny_letOwnedTupleGo_enum heo fun h2 he2 hs2 => ?_
  replace hs2:Heap.SameBut e h1 h2:=hs2
  have hf0:H s.heap.objs.size=none:=I.hok.fresh (Nat.le_refl _)
  have I1:=I.laid (a:=s.heap.objs.size) (o:=.tup [.int i,x]) (h':=s.heap.push { cls:=.type "tuple",data:=.seq #[.int i s.toks,u] }) (t':=s.toks+1) (fun b u e=>Heap.get?_push_of_some _ e) (Nat.le_refl _) ⟨by rw[sizeLine_eq];simp,[.int i s.toks,u],.cons ⟨_,rfl⟩ (.cons ru .nil),⟨_,Heap.get?_push_size _ rfl,rfl,_,rfl⟩⟩
  have I2:=inv_turnL (h':=h2) (t':=s.toks+1) (ch:=[e,it]) I1 (fun b o hb q => ?_) fun b hb => ?_
  ·refine⟨.ref s.heap.objs.size,_,I2,rfl,⟨_,x,rfl,hf0,fun ys hy=>by rw[I.list_inj hy hq];exact hx,rfl⟩,⟨⟨u,?_⟩,hit1.extBut hs2.extBut (Ne.symm hne)⟩,fun b hb => ?_⟩
   ·exact Int.natCast_succ i ▸ he2
   ·rcases (show b=e\/b=it by simpa using hb) with rfl | rfl
    ·rw[za2 (Nat.ne_of_lt le)];exact fe.1
    ·rw[za2 (Nat.ne_of_lt li)];exact fi.1
  ·have hb':b ≠ e/\b ≠ it:=by simpa using hb
   refine hs2.extBut b o hb'.1 ?_
   rcases Heap.get?_push_cases (show (s.heap.push { cls:=.type "tuple",data:=.seq #[.int i s.toks,u] }).get? b=some o from q) with ⟨rfl,rfl⟩ | q
   ·exact ht1
   ·exact hk1 b o hb'.1 hb'.2 q
  ·rcases (show b=e\/b=it by simpa using hb) with rfl | rfl
   ·exact⟨by rw[za2 (Nat.ne_of_lt le)];exact fe.1,fe.2⟩
   ·exact⟨by rw[za2 (Nat.ne_of_lt li)];exact fi.1,fi.2⟩
 done:=by
  intro X hP hw hK hc i pins s σ H E I hf st hg
  subst hP hw hK
  obtain⟨⟨old,he⟩,hit⟩:=st
  obtain⟨xs,hq,hx⟩:=hg
  obtain⟨its,rv,p,hz⟩:=I.list hq
  obtain⟨f0,f1,f2,f3,f4,f5⟩:=hf it (by simp)
  have hl:=rv.length
  exact wpAny_pyNext_enum_end (I.ok.hd hc) he hit p.isList (by simp;lia) fun h' eb=>⟨rfl,I.turned (t':=s.toks) (fun b o hb e=>eb b o hb e) f0 f1 f3 f4 f5⟩
 self:=fun _ _ _ _ _ st h=>let ⟨⟨_,he⟩,_⟩:=st;wpAny_pyIter_enum he h
noncomputable def iEnum (K:PySem.W.Frag) (ta:TA):TI:=fun σ H R=>ta σ H fun vs H1=>∃ a xs,vs=[.ref a]/\SqL K H1 a xs/\R (Ite K a) H1
theorem pi_enum {X:Cx} {es:List Expr} {k:Nat} {tp:Pos} {a:Expr} {ta:TA} {p pos:Pos} (hg:Gl X "enumerate") (hm:X.mg "enumerate" = none) (ha:PA X [a] ta) (hs:starEach [a] X.env=[(false,eval a X.env)]:=by rfl):
  PI X (.Tuple es k tp) (.Call (.Name "enumerate" p) [a] [] pos) (iEnum X.K ta):=by
 intro pins s σ H R I h
 refine Call_ (ld_blt I hg hm rfl (PyProof.Rows.callWith_type1 (thn (ha pos pins s σ H _ I h) fun us s1 ⟨vs,H1,I1,r1,q1⟩ => ?_) hs rfl))
 obtain⟨l,xs,e,hq,q⟩:=q1
 subst e
 cases r1 with
 | cons r rr=>
  cases rr
  cases r
  obtain⟨its,rv,pl,hz⟩:=I1.list hq
  refine call_enumerate_list pl.isList fun h' hE hI hsz hk => ?_
  have I2:Inv X pins σ H1 { s1 with heap:=h' }:=I1.kept (t':=s1.toks) hk
  refine wpAny_pyIter_enum hE ?_
  refine⟨s1.heap.objs.size+1,[s1.heap.objs.size+1,s1.heap.objs.size],_,_,H1,rfl,I2,turn_enum l _ _ (Nat.succ_ne_self _),⟨⟨_,hE⟩,hI⟩,fun b hb => ?_,q⟩
  have le:s1.heap.objs.size<=b:=by rcases (show b=s1.heap.objs.size+1\/b=s1.heap.objs.size by simpa using hb) with rfl | rfl<;>lia
  exact I1.fpOk le (I1.hok.fresh le)
end L4
namespace L4
open PySem L2 PySem.Spec PyProof.Rows
noncomputable def tMess6 (K:PySem.W.Frag) (jh jm jk jp:Nat):TS:=tFor (iEnum K (tCons (tCB rListDT (tCons (tVar jh) tNil)) tNil)) (gTup K 2 (gCons (gName jk) (gCons (gName jp) gNil))) (tDrop (tBM K "list" rAppend (tDGet (tVar jh) (tVar jp)) (tCons (tOp (rIx K) (tVar jm) (tVar jk)) tNil)))
theorem valV_at:∀ {kvs:List (List Key×V)} {i:Nat} {kv:List Key×V},(kvs.map (·.1)).Nodup->kvs[i]? = some kv->valV kvs kv.1=some kv.2
 | [],i,kv,_,e=>by simp at e
 | x::kvs,0,kv,_,e=>by
  simp at e;subst e
  unfold valV
  rw[List.find?_cons_of_pos (by simp)]
  rfl
 | x::kvs,i+1,kv,n,e=>by
  rw[List.map_cons,List.nodup_cons] at n
  have e':kvs[i]? = some kv:=by simpa using e
  have h:=valV_at n.2 e'
  have ne:x.1 ≠ kv.1:=fun z=>n.1 (by rw[z];exact List.mem_map.mpr ⟨kv,List.mem_of_getElem? e',rfl⟩)
  unfold valV at h ⊢
  rw[List.find?_cons_of_neg (by simpa using ne)]
  exact h
theorem mess6_ok {K:PySem.W.Frag} {jh jm jk jp:Nat} (n1:jh ≠ jk) (n2:jh ≠ jp) (n3:jm ≠ jk) (n4:jm ≠ jp) (n5:jk ≠ jp) {σ:L2.St} {H:Hp} {E:Ends} {h pm:Addr} {o:Obj} {kvs:List (List Key×V)} {bs:List Addr} {mv:List V}
  (hs:σ[jh]? = some (some (.ref h))) (hm:σ[jm]? = some (some (.ref pm))) (lk:jk<σ.length) (lp:jp<σ.length) (hh:H h=some (.frz o (.dT kvs))) (ev:kvs.map (·.2)=bs.map V.ref) (nd:(kvs.map (·.1)).Nodup) (nb:bs.Nodup)
  (hb:∀ b ∈bs,∃ xs,H b=some (.lst xs)/\xs.length<=1000000) (hv:H pm=some (.lst mv)) (pb:pm ∉ bs) (lm:mv.length=bs.length)
  (k:∀ σ' H',(∀ i,i ≠ jk->i ≠ jp->σ'[i]? = σ[i]?)->σ'.length=σ.length->(∀ b ob,H b=some ob->b ∉ bs->H' b=some ob)->(∀ (n:Nat) b xs,bs[n]? = some b->H b=some (.lst xs)->H' b=some (.lst (xs++mv[n]?.toList)))->E.nx σ' H'):tMess6 K jh jm jk jp E σ H:=by
 refine⟨.ref h,hs,h,kvs,rfl,.inr ⟨o,hh⟩,fun cs l hk hl0 => ?_⟩
 have hH:Same H (upd H l (.lst (cs.map V.ref))):=fun b u q=>by rw[za2 (za5 q hl0)];exact q
 have hlen:kvs.length=cs.length:=keysAt_len hk
 have hlb:kvs.length=bs.length:=by have:=congrArg List.length ev;simpa using this
 have lb:l ∉ bs:=fun z=>by
  obtain⟨xs,e,_⟩:=hb l z
  rw[hl0] at e;cases e
 have hbs:h ∉ bs:=fun z=>by
  obtain⟨xs,e,_⟩:=hb h z
  rw[hh] at e;cases e
 refine⟨l,cs.map V.ref,rfl,SqL.of za4,fun i m σ' H'=>m=cs.length - i/\i<=cs.length/\(∀ n,n ≠ jk->n ≠ jp->σ'[n]? = σ[n]?)/\σ'.length=σ.length/\(∀ b ob,upd H l (.lst (cs.map V.ref)) b=some ob->b ∉ bs->H' b=some ob)/\∀ (n:Nat) b xs,bs[n]? = some b->H b=some (.lst xs)->H' b=some (.lst (if n<i then xs++mv[n]?.toList else xs)),
  ⟨cs.length,by simp,Nat.zero_le _,fun _ _ _=>rfl,rfl,fun _ _ e _=>e,fun n b xs _ e=>by rw[if_neg (Nat.not_lt_zero n)];exact hH _ _ e⟩,?_⟩
 rintro i m σ' H' ⟨rfl,hi,w1,w2,w3,w4⟩
 have hl':H' l=some (.lst (cs.map V.ref)):=w3 l _ za4 lb
 by_cases hlt:i<cs.length
 rotate_left
 ·have he:i=cs.length:=by lia
  refine .inl ⟨⟨_,SqL.of hl',by simp;lia⟩,k σ' H' w1 w2 (fun b ob e hb'=>w3 b ob (hH _ _ e) hb') fun n b xs e1 e2 => ?_⟩
  have:=w4 n b xs e1 e2
  rw[if_pos (by have:=(List.getElem?_eq_some_iff.mp e1).1;lia)] at this
  exact this
 have hc:cs[i]? = some cs[i]:=List.getElem?_eq_getElem hlt
 refine .inr ⟨⟨_,.ref cs[i],SqL.of hl',by rw[List.getElem?_map,hc];rfl⟩,fun σ2 H2=>i+1<=cs.length/\(∀ n,n ≠ jk->n ≠ jp->σ2[n]? = σ[n]?)/\σ2.length=σ.length/\(∀ b ob,upd H l (.lst (cs.map V.ref)) b=some ob->b ∉ bs->H2 b=some ob)/\∀ (n:Nat) b xs,bs[n]? = some b->H b=some (.lst xs)->H2 b=some (.lst (if n<i+1 then xs++mv[n]?.toList else xs)),
  fun σ2 H2 z=>⟨cs.length - (i+1),by lia,rfl,z⟩,?_⟩
 rintro x H2 ⟨t,y,rfl,ht,ey,rfl⟩
 have ex:=ey _ (SqL.of hl')
 rw[List.getElem?_map,hc] at ex
 cases ex
 obtain⟨kv,e1,e2⟩:=keysAt_at hk hc
 have hib:i<bs.length:=by lia
 have eb:bs[i]? = some bs[i]:=List.getElem?_eq_getElem hib
 have ekv:kv.2=.ref bs[i]:=by
  have z1:(kvs.map (·.2))[i]? = some kv.2:=by rw[List.getElem?_map,e1];rfl
  rw[ev,List.getElem?_map,eb] at z1
  exact (Option.some.inj z1).symm
 have e3:=valV_at nd e1
 rw[ekv] at e3
 have mb:bs[i] ∈bs:=List.getElem_mem hib
 obtain⟨xs,e4,e5⟩:=hb _ mb
 have cne:cs[i] ∉ bs:=fun z=>by
  obtain⟨xs,e,_⟩:=hb _ z
  rw[e2] at e;cases e
 have tn:∀ {b:Addr} {u:HO},H' b=some u->upd H' t (.tup [.int i,.ref cs[i]]) b=some u:=fun e=>by rw[za2 (za5 e ht)];exact e
 have hc':=tn (w3 _ _ (hH _ _ e2) cne)
 have hh':=tn (w3 _ _ (hH _ _ hh) hbs)
 have hp':=tn (w3 _ _ (hH _ _ hv) pb)
 have hb':=tn (w4 i _ xs eb e4)
 rw[if_neg (Nat.lt_irrefl i)] at hb'
 have him:i<mv.length:=by lia
 have sl:∀ {j:Nat} {v:V},j ≠ jk->j ≠ jp->σ[j]? = some (some v)->((σ'.set jk (some (.int i))).set jp (some (.ref cs[i])))[j]? = some (some v):=fun a b e=>by rw[List.getElem?_set_ne (Ne.symm b),List.getElem?_set_ne (Ne.symm a),w1 _ a b];exact e
 have sk:((σ'.set jk (some (V.int i))).set jp (some (.ref cs[i])))[jk]? = some (some (.int i)):=by rw[List.getElem?_set_ne (Ne.symm n5)];exact List.getElem?_set_self (by lia)
 have sp:((σ'.set jk (some (V.int i))).set jp (some (.ref cs[i])))[jp]? = some (some (.ref cs[i])):=List.getElem?_set_self (by simp;lia)
 refine⟨t,[.int i,.ref cs[i]],rfl,SqT.of za4,rfl,.int i,[.ref cs[i]],rfl,.ref cs[i],[],rfl,rfl,?_⟩
 refine⟨.ref h,sl n1 n2 hs,.ref cs[i],sp,h,.ref bs[i],rfl,.inr ⟨kvs,kv.1,cs[i],.inr ⟨o,hh'⟩,rfl,hc',e3.symm⟩,.inl ⟨rfl,xs,SqL.of hb'⟩,.ref pm,sl n3 n4 hm,.int i,sk,.inl ⟨pm,mv,i,mv[i],rfl,rfl,SqL.of hp',?_,bs[i],xs,mv[i],rfl,rfl,hb',by rw[sizeLine_eq];lia,?_⟩⟩
 ·unfold atI ixN
  rw[if_pos (by lia),if_pos (by lia)]
  show mv[(i:Int).toNat]? = _
  rw[Int.toNat_natCast,List.getElem?_eq_getElem him]
 ·refine⟨hlt,fun n a b=>by rw[List.getElem?_set_ne (Ne.symm b),List.getElem?_set_ne (Ne.symm a)];exact w1 n a b,by simpa using w2,fun c ob e hc => ?_,fun n b ys f1 f2 => ?_⟩
  ·rw[za2 fun z:c=bs[i]=>hc (by rw[z];exact mb)];exact tn (w3 c ob e hc)
  ·by_cases hn:n=i
   ·subst hn
    rw[eb] at f1;cases f1
    rw[e4] at f2;cases f2
    rw[za4,if_pos (Nat.lt_succ_self _),List.getElem?_eq_getElem him];rfl
   ·have ne:b ≠ bs[i]:=fun z=>by
     obtain⟨q1,q2⟩:=List.getElem?_eq_some_iff.mp f1
     exact hn ((List.getElem_inj nb).mp (q2.trans z))
    rw[za2 ne]
    have:=tn (w4 n b ys f1 f2)
    rw[this]
    by_cases hni:n<i
    ·rw[if_pos hni,if_pos (by lia)]
    ·rw[if_neg hni,if_neg (by lia)]
end L4
namespace L4
open PySem L2 PySem.Spec PyProof.Rows
section
variable {K:PySem.W.Frag} {M:Nat->Option Addr} {G0 H0 G H:Hp} {σ:L2.St} {δ:DEnv}
theorem StOk.tag (S:StOk K M G0 H0 G H σ δ) {j:Nat} {d:D} (hj:δ[j]? = some (some (.own d))):∃ p o,σ[j]? = some (some (.ref p))/\H p=some o/\OwnAt K G H p d/\H0 p=none/\Same G (upd G p o)/\Same (upd G p o) H/\Rep K (upd G p o) (.ref p) (.tg p d) ∧
  ∀ (i:Nat) (e:D),δ[i]? = some (some (.val e))->∃ v,σ[i]? = some (some v)/\Rep K (upd G p o) v e:=by
 obtain⟨v,e1,p,rfl,e3,r⟩:=S.env.at' j _ hj
 obtain⟨o,e2⟩:=r.some
 have hs:Same G (upd G p o):=fun b u q=>by rw[za2 (za5 q e3)];exact q
 refine⟨p,o,e1,e2,r,S.own0 p ⟨j,_,hj,rfl,e1⟩,hs,fun b u q => ?_,.tg (r.shown e3 e2),fun i e z => ?_⟩
 ·by_cases hb:b=p
  ·subst hb;rw[za4] at q;rw[e2];exact q
  ·rw[za2 hb] at q;exact S.gh _ _ q
 ·obtain⟨v,a,b⟩:=S.env.at' i _ z
  exact⟨v,a,Rep.mono hs b⟩
theorem StOk.tgd (S:StOk K M G0 H0 G H σ δ) {j:Nat} {a:Addr} {d:D} (e:δ[j]? = some (some (.val (.tg a d)))):σ[j]? = some (some (.ref a))/\Rep K G (.ref a) d:=by
 obtain⟨v,q1,q2⟩:=S.env.at' _ _ e
 cases (show Rep K G v (.tg _ _) from q2) with
 | tg r=>exact⟨q1,r⟩
mutual
noncomputable def noD:D->Bool
 | .lst ds=>noDs ds
 | .tup ds=>noDs ds
 | .dct _ _=>false
 | .dcf _ _=>false
 | .tg _ _=>false
 | _=>true
noncomputable def noDs:List D->Bool
 | []=>true
 | d::ds=>noD d && noDs ds
end
noncomputable def isDT:HO->Prop
 | .dT _=>True
 | .frz _ (.dT _)=>True
 | _=>False
mutual
theorem Rep.noD {G G':Hp} (h:∀ a u,G a=some u -> ¬ isDT u->G' a=some u):∀ {v:V} {d:D},Rep K G v d->L4.noD d=true->Rep K G' v d
 | _,_,.non,_=>.non
 | _,_,.bl b,_=>.bl b
 | _,_,.int i,_=>.int i
 | _,_,.str x,_=>.str x
 | _,_,.ty n,_=>.ty n
 | _,_,.tup q x r,n=>.tup (q.imp (Or.imp (fun z=>h _ _ z id) fun ⟨o,z⟩=>⟨o,h _ _ z id⟩) id) (fun z=>h _ _ (x z) id) (RepL.noD h r n)
 | _,_,.lst q r,n=>.lst (q.imp (Or.imp (fun z=>h _ _ z id) fun ⟨o,z⟩=>⟨o,h _ _ z id⟩) id) (RepL.noD h r n)
 | _,_,.dct _ _,n=>nomatch n
 | _,_,.dcf _ _,n=>nomatch n
 | _,_,.tg _,n=>nomatch n
theorem RepL.noD {G G':Hp} (h:∀ a u,G a=some u -> ¬ isDT u->G' a=some u):∀ {vs:List V} {ds:List D},RepL K G vs ds->L4.noDs ds=true->RepL K G' vs ds
 | _,_,.nil,_=>.nil
 | _,_,.cons q r,n=>by
  have n':(L4.noD _ && L4.noDs _)=true:=n
  rw[Bool.and_eq_true] at n'
  exact .cons (Rep.noD h q n'.1) (RepL.noD h r n'.2)
end
theorem nsl_to {G H G':Hp} : ∀ {bs:List Addr} {vs:List D},NsL K G H bs vs->(∀ b ∈bs,∀ xs,H b=some (.lst xs)->G' b=some (.lst xs))->(∀ xs es,.lst es ∈vs->RepL K G xs es->RepL K G' xs es)->RepL K G' (bs.map V.ref) vs
 | _,_,.nil,_,_=>.nil
 | _,_,.cons _ h r _ t,k,e=>.cons (.lst (.of (k _ List.mem_cons_self _ h)) (e _ _ List.mem_cons_self r)) (nsl_to t (fun b hb=>k b (List.mem_cons_of_mem _ hb)) fun xs es m=>e xs es (List.mem_cons_of_mem _ m))
noncomputable def addM:List D->List D->List D
 | .lst es::vs,m::ms=>.lst (es++[m])::addM vs ms
 | _,_=>[]
theorem nsl_add {G H G':Hp} (hs:Same G G'):∀ {bs:List Addr} {vs ms:List D} {mv:List V},NsL K G H bs vs->RepL K G' mv ms->ms.length=vs.length->(∀ (n:Nat) b xs,bs[n]? = some b->H b=some (.lst xs)->G' b=some (.lst (xs++mv[n]?.toList)))->RepL K G' (bs.map V.ref) (addM vs ms)
 | _,_,[],_,.nil,_,_,_=>.nil
 | _,_,_::_,_,.nil,_,l,_=>by simp at l
 | _,_,[],_,.cons ..,_,l,_=>by simp at l
 | _,_,m::ms,_,.cons _ h r _ t,.cons q qs,l,k=>.cons (.lst (.of (k 0 _ _ rfl h)) (RepL.app (RepL.mono hs r) (.cons q .nil))) (nsl_add hs t qs (by simpa using l) fun n b xs e1 e2=>k (n+1) b xs (by simpa using e1) e2)
theorem nsl_nd {G H:Hp} : ∀ {bs:List Addr} {vs:List D},NsL K G H bs vs->bs.Nodup/\bs.length=vs.length
 | _,_,.nil=>⟨List.nodup_nil,rfl⟩
 | _,_,.cons _ _ _ n t=>⟨List.nodup_cons.mpr ⟨n,(nsl_nd t).1⟩,congrArg (· + 1) (nsl_nd t).2⟩
theorem keys_nd:∀ {a:List (List Key×V)},(a.map fun kv=>D.tup (kv.1.map keyD)).Nodup->(a.map (·.1)).Nodup
 | [],_=>List.nodup_nil
 | x::a,n=>by
  rw[List.map_cons,List.nodup_cons] at n
  rw[List.map_cons,List.nodup_cons]
  refine⟨fun z=>n.1 ?_,keys_nd n.2⟩
  obtain⟨y,m,e⟩:=List.mem_map.mp z
  exact List.mem_map.mpr ⟨y,m,by rw[e]⟩
end
noncomputable def noS (n:Nat):DEnv:=List.replicate n none
noncomputable def vl (d:D):Option Sl:=some (.val d)
structure Tail6 (rN:List D->Option (List D×List D)) (f0 fB fC1 fC2:FS) (f3:FE) (jc jd jh jm ja:Nat) (δ:DEnv) (k0 l0 dd ks vs ms:List D) (δ0:DEnv):Prop where
 data:∀ (i:Nat) (s:Sl),δ[i]? = some (some s)->∃ d,s=.val d
 e0:f0 δ=some (.next δ0)/\δ0[jc]? = some (some (.own (.dct k0 l0)))/\(∀ (i:Nat) (s:Sl),i ≠ jc->δ0[i]? = some (some s)->∃ d,s=.val d)/\δ0.length=δ.length
 eB:∀ ac:Addr,∃ δ1:DEnv,fB (δ0.set jc (vl (.tg ac (.dct k0 l0))))=some (.next δ1)/\δ1[jc]? = some (vl (.tg ac (.dct k0 l0)))/\δ1[jd]? = some (some (.own (.lst dd)))/\(∀ (i:Nat) (s:Sl),i ≠ jd->δ1[i]? = some (some s)->∃ d,s=.val d)/\δ1.length=δ.length ∧
  ∀ ad h:Addr,∃ δ3:DEnv,fC1 ((δ1.set jd (vl (.tg ad (.lst dd)))).set jh (vl (.tg h (.dcf ks vs))))=some (.next δ3)/\δ3[jc]? = some (vl (.tg ac (.dct k0 l0)))/\δ3[jd]? = some (vl (.tg ad (.lst dd)))/\δ3[jh]? = some (vl (.tg h (.dcf ks vs)))/\δ3[jm]? = some (some (.own (.lst ms)))/\δ3.length=δ.length ∧
   ∃ δ6:DEnv,fC2 (((((noS δ.length).set jc (vl (.tg ac (.dct k0 l0)))).set jd (vl (.tg ad (.lst dd)))).set jh (vl (.dcf ks (addM vs ms)))).set jm (vl (.lst ms)))=some (.next δ6)/\δ6[jc]? = some (vl (.tg ac (.dct k0 l0)))/\δ6[jd]? = some (vl (.tg ad (.lst dd)))/\δ6.length=δ.length
 e3:∃ δ9,f3 (((noS δ.length).set jd (vl (.lst dd))).set ja (vl (.dcf ks vs)))=some (.ok (.val (.bl true)),δ9)
 rn:rN [.dct k0 l0]=some (ks,vs)
 lm:ms.length=vs.length
 nd:ks.Nodup
 fm:noLsts ms=true
 few:∀ es,.lst es ∈vs->es.length<=1000000/\noDs es=true
 nn:noDs dd=true
 len:jc<δ.length/\jd<δ.length/\jh<δ.length/\jm<δ.length/\ja<δ.length
open Classical in
noncomputable def fTail6 (rN:List D->Option (List D×List D)) (f0 fB fC1 fC2:FS) (f3:FE) (jc jd jh jm ja jk jp:Nat):FS:=fun δ=>
 if (∃ k0 l0 dd ks vs ms δ0,Tail6 rN f0 fB fC1 fC2 f3 jc jd jh jm ja δ k0 l0 dd ks vs ms δ0)/\jk<δ.length/\jp<δ.length then some (.ret (.val (.bl true)) (δ.map fun _=>none)) else none
noncomputable def tTail6 (X:Cx) (rN:List D->Option (List D×List D)) (t0 tB tC1 tC2:TS) (t3:TE) (jc jh jm ja jk jp:Nat):TS:=
 tSeq t0 (tSeq tB (tSeq (tAsg (tCallX X (spG X.K (NestN X.K) rN) (tCons (tVar jc) tNil)) (gName jh)) (tFix jh (tSeq tC1 (tSeq (tMess6 X.K jh jm jk jp) (tSeq tC2 (tSeq (tAsg (tCallX X (spG X.K (NestN X.K) rN) (tCons (tVar jc) tNil)) (gName ja)) (tFix ja (tSeq (tDrop (tBM0 X.K "dict" rClearT (tVar jc))) (tRet t3))))))))))
theorem vl_set {K:PySem.W.Frag} {G:Hp} {σ:L2.St} {δ:DEnv} {j:Nat} {d:D} {v:V} (hv:σ[j]? = some (some v)) (r:Rep K G v d) (h:∀ (i:Nat) (s:Sl),i ≠ j->δ[i]? = some (some s)->∃ d v,s=.val d/\σ[i]? = some (some v)/\Rep K G v d) (i:Nat) (s:Sl) (e:(δ.set j (vl d))[i]? = some (some s)):∃ d v,s=.val d/\σ[i]? = some (some v)/\Rep K G v d:=by
 by_cases hi:i=j
 ·subst hi
  by_cases hl:i<δ.length
  ·rw[List.getElem?_set_self hl] at e
   cases e
   exact⟨_,_,rfl,hv,r⟩
  ·rw[List.getElem?_eq_none (by simpa using hl)] at e;cases e
 ·rw[List.getElem?_set_ne (Ne.symm hi)] at e
  exact h i s hi e
theorem noS_no {n i:Nat} {s:Sl} (e:(noS n)[i]? = some (some s)):False:=by
 unfold noS at e
 rw[List.getElem?_replicate] at e
 split at e<;>cases e
end L4
namespace L4
open PySem L2 PySem.Spec PyProof.Rows
set_option maxHeartbeats 4000000 in
theorem snd_tail6 {X:Cx} {rN:List D->Option (List D×List D)} {t0 tB tC1 tC2:TS} {t3:TE} {f0 fB fC1 fC2:FS} {f3:FE} {jc jd jh jm ja jk jp:Nat} (h0:SndS X t0 f0) (hB:SndS X tB fB) (hC1:SndS X tC1 fC1) (hC2:SndS X tC2 fC2) (h3:SndE X t3 f3)
  (nd:([jc,jd,jh,jm,ja,jk,jp]:List Nat).Nodup):SndS X (tTail6 X rN t0 tB tC1 tC2 t3 jc jh jm ja jk jp) (fTail6 rN f0 fB fC1 fC2 f3 jc jd jh jm ja jk jp):=by
 intro M G0 H0 G H σ δ o E S e k
 unfold fTail6 at e
 split at e
 rotate_left
 ·cases e
 rename_i T
 cases e
 obtain⟨⟨k0,l0,dd,ks,vs,ms,δ0,T⟩,lk,lp⟩:=T
 obtain⟨lc,ld,lh,lm,la⟩:=T.len
 obtain⟨⟨n1,n2,n3,n4,n5,n6⟩,⟨n7,n8,n9,n10,n11⟩,⟨n12,n13,n14,n15⟩,⟨n16,n17,n18⟩,⟨n19,n20⟩,n21⟩:(jc ≠ jd/\jc ≠ jh/\jc ≠ jm/\jc ≠ ja/\jc ≠ jk/\jc ≠ jp)/\(jd ≠ jh/\jd ≠ jm/\jd ≠ ja/\jd ≠ jk/\jd ≠ jp)/\(jh ≠ jm/\jh ≠ ja/\jh ≠ jk/\jh ≠ jp)/\(jm ≠ ja/\jm ≠ jk/\jm ≠ jp)/\(ja ≠ jk/\ja ≠ jp)/\jk ≠ jp:=by
  simpa [List.nodup_cons,List.mem_cons,not_or] using nd
 have S':StOk X.K M G H G H σ δ:=StOk.vals S.gh S.env.len fun i s e=>by
  obtain⟨d,rfl⟩:=T.data i s e
  obtain⟨v,q1,q2⟩:=S.env.at' i _ e
  exact⟨d,v,rfl,q1,q2⟩
 obtain⟨e0,c0,v0,z0⟩:=T.e0
 refine h0 M G H G H σ δ _ _ S' e0 fun σ0 Ga Ha Sa => ?_
 obtain⟨ac,oc,sac,hac,oac,nac,gsa,gha,rac,vsa⟩:=Sa.tag c0
 obtain⟨vv0,⟨kvs0,hac',_⟩,_⟩:=oac
 rw[hac] at hac'
 cases hac'
 obtain⟨δ1,eB,cB,dB,vB,zB,rest⟩:=T.eB ac
 have S1:StOk X.K M (upd Ga ac (.dT kvs0)) Ha (upd Ga ac (.dT kvs0)) Ha σ0 (δ0.set jc (vl (.tg ac (.dct k0 l0)))):=StOk.vals gha (by rw[List.length_set];exact Sa.env.len) (vl_set sac rac fun i s hi e=>by
  obtain⟨d,rfl⟩:=v0 i s hi e
  obtain⟨v,a,b⟩:=vsa i d e
  exact⟨d,v,rfl,a,b⟩)
 refine hB M _ _ _ _ σ0 _ _ _ S1 eB fun σ1 Gb Hb Sb => ?_
 obtain⟨ad,od,sad,had,oad,nad,gsb,ghb,rad,vsb⟩:=Sb.tag dB
 obtain⟨scb,rcb⟩:=Sb.tgd cB
 have gac:(upd Gb ad od) ac=some (.dT kvs0):=gsb _ _ (Sb.g0 _ _ za4)
 obtain⟨wd,had',rwd⟩:=oad
 rw[had] at had'
 cases had'
 obtain⟨Gc,hGc⟩:∃ Gc:Hp,Gc=upd Gb ad (.lst wd):=⟨_,rfl⟩
 rw[←hGc] at gsb ghb rad vsb gac
 have l1:σ1.length=δ.length:=by rw[←Sb.env.len,zB]
 refine⟨.ref ac,scb,Gc,[.dct k0 l0],(ks,vs),ghb,.cons (Rep.mono gsb rcb) .nil,T.rn,?_⟩
 rintro _ Gd Hd ⟨gr1,h,kvs,bs,rfl,a1⟩
 have sh:(σ1.set jh (some (.ref h)))[jh]? = some (some (.ref h)):=List.getElem?_set_self (by rw[l1];exact lh)
 refine⟨h,kvs,sh,a1.hp,fun ob => ?_⟩
 obtain⟨δ3,eC1,cc,cd,ch,cm,zC,δ6,eC2,c6,d6,z6⟩:=rest ad h
 obtain⟨nb,lb⟩:=nsl_nd a1.ls
 have hnb:h ∉ bs:=fun z=>by
  obtain⟨_,ys,q⟩:=a1.ls.at h z
  rw[a1.hp] at q;cases q
 obtain⟨Ge,hGe⟩:∃ Ge:Hp,Ge=fun b=>if b=h then some (.frz ob (.dT kvs)) else if b ∈bs then Hd b else Gd b:=⟨_,rfl⟩
 have gde:Same Gd Ge:=fun b u q=>by
  rw[hGe]
  dsimp only
  rw[if_neg (za5 q a1.pn),if_neg fun z=>by rw[(a1.ls.at b z).1] at q;cases q]
  exact q
 have ghe:Same Ge (upd Hd h (.frz ob (.dT kvs))):=fun b u q=>by
  rw[hGe] at q
  dsimp only at q
  split at q
  ·rename_i z;rw[z,za4];exact q
  ·rename_i z
   rw[za2 z]
   split at q
   ·exact q
   ·exact gr1.gh _ _ q
 have geb:∀ b ∈bs,Ge b=Hd b:=fun b hb=>by
  rw[hGe]
  dsimp only
  rw[if_neg (fun z=>hnb (by rw[←z];exact hb)),if_pos hb]
 have geh:Ge h=some (.frz ob (.dT kvs)):=by rw[hGe];dsimp only;rw[if_pos rfl]
 have rch:=gr1.g0.trans gde
 have S2:StOk X.K M Ge _ Ge _ (σ1.set jh (some (.ref h))) ((δ1.set jd (vl (.tg ad (.lst dd)))).set jh (vl (.tg h (.dcf ks vs)))):=StOk.vals ghe (by simp only[List.length_set];exact Sb.env.len) (vl_set sh (.tg (.dcf ⟨kvs,ob,geh,a1.ek,rfl⟩ (by
   rw[a1.ev]
   exact nsl_to a1.ls (fun b hb ys q=>by rw[geb b hb];exact q) fun _ _ _ r=>RepL.mono gde r))) fun i s hi e=>by
  rw[List.getElem?_set_ne (Ne.symm hi)]
  refine vl_set sad (Rep.mono rch rad) (fun i s hi e => ?_) i s e
  obtain⟨d,rfl⟩:=vB i s hi e
  obtain⟨v,a,b⟩:=vsb i d e
  exact⟨d,v,rfl,a,Rep.mono rch b⟩)
 refine hC1 M _ _ _ _ _ _ _ _ S2 eC1 fun σ3 G3 H3 S3 => ?_
 have l3:σ3.length=δ.length:=by rw[←S3.env.len,zC]
 obtain⟨s3c,r3c⟩:=S3.tgd cc
 obtain⟨s3d,r3d⟩:=S3.tgd cd
 obtain⟨s3h,r3h⟩:=S3.tgd ch
 obtain⟨_,s3m,pm,rfl,g3m,mv,hmv,rmv⟩:=S3.env.at' jm _ cm
 have nem:=S3.own0 pm ⟨jm,_,cm,rfl,s3m⟩
 have h3b:∀ b ∈bs,∀ xs,Hd b=some (.lst xs)->H3 b=some (.lst xs):=fun b hb xs q=>S3.h0 _ _ (by rw[za2 (fun z=>hnb (by rw[←z];exact hb))];exact q)
 have pmb:pm ∉ bs:=fun z=>by
  obtain⟨_,ys,q⟩:=a1.ls.at pm z
  rw[za2 (fun z'=>hnb (by rw[←z'];exact z)),q] at nem;cases nem
 have pmh:pm ≠ h:=fun z=>by rw[z,za4] at nem;cases nem
 have h3h:=S3.h0 _ _ (za4 (H:=Hd) (a:=h) (o:=.frz ob (.dT kvs)))
 refine mess6_ok n14 n15 n17 n18 n21 (o:=ob) (kvs:=kvs) (bs:=bs) (mv:=mv) s3h s3m (by rw[l3];exact lk) (by rw[l3];exact lp) h3h a1.ev (keys_nd (by rw[←a1.ek];exact T.nd)) nb (fun b hb => ?_) hmv pmb (by rw[rmv.len,T.lm,lb]) fun σ4 H4 w1 w2 w3 w4 => ?_
 ·obtain⟨ys,es,q1,q2,q3⟩:=nsl_len a1.ls b hb
  exact⟨ys,h3b b hb _ q1,by rw[q3];exact (T.few es q2).1⟩
 have h4:∀ {b u},Gd b=some u->H4 b=some u:=fun {b u} q=>w3 b u (S3.h0 _ _ (ghe _ _ (gde _ _ q))) fun z=>by rw[(a1.ls.at b z).1] at q;cases q
 have h4h:=w3 h _ h3h hnb
 have h4m:=w3 pm _ hmv pmb
 obtain⟨G4,hG4⟩:∃ G4:Hp,G4=fun b=>if b=h\/b ∈bs\/b=pm then H4 b else match H4 b with
   | some (.tup vs)=>some (.tup vs)
   | some (.frz o (.tup vs))=>some (.frz o (.tup vs))
   | _=>Gd b:=⟨_,rfl⟩
 have gd4:Same Gd G4:=fun b u q=>by
  have q':=h4 q
  rw[hG4]
  dsimp only
  split
  ·exact q'
  ·split
   ·rename_i z;rw[←z];exact q'
   ·rename_i z;rw[←z];exact q'
   ·exact q
 have gh4:Same G4 H4:=fun b u q=>by
  rw[hG4] at q
  dsimp only at q
  split at q
  ·exact q
  ·split at q
   ·rename_i z;rw[z];exact q
   ·rename_i z;rw[z];exact q
   ·exact h4 q
 have g4s:∀ b,b=h\/b ∈bs\/b=pm->G4 b=H4 b:=fun b z=>by rw[hG4];dsimp only;rw[if_pos z]
 have tup4:∀ {b u},G3 b=some u->(∃ vs,u=.tup vs)\/(∃ o vs,u=.frz o (.tup vs))->G4 b=some u:=fun {b u} q z=>by
  have q3:=S3.gh _ _ q
  have q4:=w3 b u q3 fun m=>by
   obtain⟨_,ys,q'⟩:=a1.ls.at b m
   rw[h3b b m _ q'] at q3
   cases q3
   rcases z with ⟨_,z⟩ | ⟨_,_,z⟩<;>cases z
  rw[hG4]
  dsimp only
  split
  ·exact q4
  ·rw[q4]
   rcases z with ⟨_,rfl⟩ | ⟨_,_,rfl⟩<;>rfl
 have rms:RepL X.K G4 mv ms:=RepL.narrow (fun a vs=>⟨fun z=>z.imp (Or.imp (fun z=>tup4 z (.inl ⟨_,rfl⟩)) fun ⟨o,z⟩=>⟨o,tup4 z (.inr ⟨_,_,rfl⟩)⟩) id,fun z=>tup4 z (.inl ⟨_,rfl⟩)⟩) rmv T.fm
 have rus:RepL X.K G4 (bs.map V.ref) (addM vs ms):=nsl_add gd4 a1.ls rms T.lm fun n b xs q1 q2=>by
  have m:=List.mem_of_getElem? q1
  rw[g4s b (.inr (.inl m))]
  exact w4 n b xs q1 (h3b b m _ q2)
 have s4:∀ {i:Nat} {v:V},i ≠ jk->i ≠ jp->σ3[i]? = some (some v)->σ4[i]? = some (some v):=fun a b e=>by rw[w1 _ a b];exact e
 have rc4:=gr1.g0.trans gd4
 have l4:σ4.length=δ.length:=by rw[w2,l3]
 have S5:StOk X.K M G4 H4 G4 H4 σ4 (((((noS δ.length).set jc (vl (.tg ac (.dct k0 l0)))).set jd (vl (.tg ad (.lst dd)))).set jh (vl (.dcf ks (addM vs ms)))).set jm (vl (.lst ms))):=StOk.vals gh4 (by simp only[List.length_set,noS,List.length_replicate];exact l4.symm)
  (vl_set (s4 n17 n18 s3m) (.lst (.of (by rw[g4s pm (.inr (.inr rfl))];exact h4m)) rms) fun i s _ e=>vl_set (s4 n14 n15 s3h) (.dcf ⟨kvs,ob,by rw[g4s h (.inl rfl)];exact h4h,a1.ek,rfl⟩ (by rw[a1.ev];exact rus))
   (fun i s _ e=>vl_set (s4 n10 n11 s3d) (Rep.mono rc4 rad) (fun i s _ e=>vl_set (s4 n5 n6 s3c) (.tg (Rep.mono (gsb.trans rc4) rcb)) (fun i s _ e=>(noS_no e).elim) i s e) i s e) i s e)
 refine hC2 M _ _ _ _ _ _ _ _ S5 eC2 fun σ6 G6 H6 S6 => ?_
 obtain⟨s6c,r6c⟩:=S6.tgd c6
 obtain⟨s6d,r6d⟩:=S6.tgd d6
 have l6:σ6.length=δ.length:=by rw[←S6.env.len,z6]
 refine⟨.ref ac,s6c,G6,[.dct k0 l0],(ks,vs),S6.gh,.cons r6c .nil,T.rn,?_⟩
 rintro _ G9 H9 ⟨gr9,q,kvs9,bs9,rfl,a9⟩
 have sq:(σ6.set ja (some (.ref q)))[ja]? = some (some (.ref q)):=List.getElem?_set_self (by rw[l6];exact la)
 have sc:(σ6.set ja (some (.ref q)))[jc]? = some (some (.ref ac)):=by rw[List.getElem?_set_ne (Ne.symm n4)];exact s6c
 have sd:(σ6.set ja (some (.ref q)))[jd]? = some (some (.ref ad)):=by rw[List.getElem?_set_ne (Ne.symm n9)];exact s6d
 refine⟨q,kvs9,sq,a9.hp,fun oq => ?_⟩
 have g9c:G9 ac=some (.dT kvs0):=gr9.g0 _ _ (S6.g0 _ _ (rc4 _ _ gac))
 have qc:ac ≠ q:=fun z=>by have:=gr9.gh _ _ g9c;rw[z,a9.hp] at this;have e:=a9.p0;rw[←z] at e;have e':=S6.gh _ _ (S6.g0 _ _ (rc4 _ _ gac));rw[e] at e';cases e'
 have h9c:upd H9 q (.frz oq (.dT kvs9)) ac=some (.dT kvs0):=by rw[za2 qc];exact gr9.gh _ _ g9c
 refine⟨.ref ac,sc,.inr (.inr (.inl ⟨rfl,.inr ⟨kvs0,h9c⟩⟩)),ac,kvs0,rfl,rfl,h9c,?_⟩
 obtain⟨HF,hHF⟩:∃ HF:Hp,HF=upd (upd H9 q (.frz oq (.dT kvs9))) ac (.dT []):=⟨_,rfl⟩
 rw[←hHF]
 have q9:q ∉ bs9:=fun z=>by
  obtain⟨_,ys,e⟩:=a9.ls.at q z
  rw[a9.hp] at e;cases e
 have c9:ac ∉ bs9:=fun z=>by rw[(a9.ls.at ac z).1] at g9c;cases g9c
 obtain⟨GF,hGF⟩:∃ GF:Hp,GF=fun b=>if b=ac then none else if b=q then some (.frz oq (.dT kvs9)) else if b ∈bs9 then H9 b else G9 b:=⟨_,rfl⟩
 have ghF:Same GF HF:=fun b u e=>by
  rw[hGF] at e
  dsimp only at e
  split at e
  ·cases e
  ·rename_i z
   rw[hHF,za2 z]
   split at e
   ·rename_i z;rw[z,za4];exact e
   ·rename_i z
    rw[za2 z]
    split at e
    ·exact e
    ·exact gr9.gh _ _ e
 have to:∀ a u,G9 a=some u -> ¬ isDT u->GF a=some u:=fun a u e nu=>by
  rw[hGF]
  dsimp only
  rw[if_neg fun z=>by rw[z,g9c] at e;cases e;exact nu trivial,if_neg (za5 e a9.pn),if_neg fun z=>by rw[(a9.ls.at a z).1] at e;cases e]
  exact e
 have gfq:GF q=some (.frz oq (.dT kvs9)):=by rw[hGF];dsimp only;rw[if_neg (Ne.symm qc),if_pos rfl]
 have SF:StOk X.K M GF HF GF HF (σ6.set ja (some (.ref q))) (((noS δ.length).set jd (vl (.lst dd))).set ja (vl (.dcf ks vs))):=StOk.vals ghF (by simp only[List.length_set,noS,List.length_replicate];exact l6.symm)
  (vl_set sq (.dcf ⟨kvs9,oq,gfq,a9.ek,rfl⟩ (by
   rw[a9.ev]
   refine nsl_to a9.ls (fun b hb ys e => ?_) fun xs es m r=>RepL.noD to r (T.few es m).2
   rw[hGF]
   dsimp only
   rw[if_neg fun z=>c9 (by rw[←z];exact hb),if_neg fun z=>q9 (by rw[←z];exact hb),if_pos hb]
   exact e)) fun i s _ e=>vl_set sd (Rep.noD to (Rep.mono gr9.g0 r6d) T.nn) (fun i s _ e=>(noS_no e).elim) i s e)
 obtain⟨δ9,e9⟩:=T.e3
 refine h3 M GF HF GF HF _ _ (.ok _) δ9 _ SF e9 fun v G' H' SL _ rv => ?_
 cases (show Rep X.K G' v (.bl true) from rv.1)
 have all:∀ b u,H b=some u->H' b=some u:=fun b u e=>by
  have eb:=Sb.h0 _ _ (Sa.h0 _ _ e)
  have ed:=gr1.h0 _ _ eb
  have e3:=S3.h0 b u (by rw[za2 (za5 eb a1.p0)];exact ed)
  have e6:=S6.h0 _ _ (w3 b u e3 fun m=>by rw[a1.b0 b m] at eb;cases eb)
  refine SL.h0 _ _ ?_
  rw[hHF,za2 (za5 e nac),za2 (za5 e6 a9.p0)]
  exact gr9.h0 _ _ e6
 have non:∀ {i:Nat} {s:Sl},(δ.map fun _=>(none:Option Sl))[i]? = some (some s)->False:=fun e=>by
  rw[List.getElem?_map] at e
  obtain⟨_,_,z⟩:=Option.map_eq_some_iff.mp e
  cases z
 exact k (.bl true) (σ6.set ja (some (.ref q))) G H' ⟨fun b u e=>all b u (S.gh b u e),⟨by simp only[List.length_map,List.length_set];exact l6.symm,fun i s e=>(non e).elim,fun i j p s s' e=>(non e).elim⟩,fun b u e=>all b u (S.h0 b u e),S.g0,S.fr,fun p ⟨i,s,e,_⟩=>(non e).elim,fun i d e=>(non e).elim⟩ ⟨.bl true,fun z=>nomatch z⟩
end L4
namespace L4
open PySem L2 PySem.Spec PyProof.Rows
section
variable {X:Cx} {x y z m:Str}
theorem ps_mess6 {jh jm jk jp:Nat} {c:Nat} {ep lp cp cpe kp yp tp np1 np2 np3 mp kp2 sp sp2 apos cpos pos epos:Pos} (hh:∀ {p},PE X (.Name x p) (tVar jh)) (hy:∀ {p},PE X (.Name y p) (tVar jp)) (hz:∀ {p},PE X (.Name z p) (tVar jk)) (hmm:∀ {p},PE X (.Name m p) (tVar jm)) (hu:X.A.units+1<cLine) (hc:X.calm=true) (hnd:X.N.Nodup)
  (hi:X.N[jp]? = some y) (hx:Loc X.env.scope y) (hi':X.N[jk]? = some z) (hx':Loc X.env.scope z) (hg:Gl X "list") (hm:X.mg "list" = none) (hge:Gl X "enumerate") (hme:X.mg "enumerate" = none)
  (hns:NoSl (.Name y np3)) (hix:PlainIx (.Name z kp2)) (hp:PassesOwn (model X.prog X.w) X.A X.env X.xe:=by first | exact PassesOwn.never | exact PassesOwn.leaving | exact PassesOwn.looking) (hf:X.fn y=true\/X.env.scope.names.lookup y=some .local:=by first | exact .inl rfl | exact .inr rfl | assumption) (hf':X.fn z=true\/X.env.scope.names.lookup z=some .local:=by first | exact .inl rfl | exact .inr rfl | assumption)
  (he:starEach [.Name x np1] X.env=(false,eval (.Name x np1) X.env)::starEach [] X.env:=by rfl) (hpl:(backTo cp (starEach [] X.env)).any (·.1)=false:=by rfl)
  (hl:starEach [.Call (.Name "list" lp) [.Name x np1] [] cp] X.env=(false,eval (.Call (.Name "list" lp) [.Name x np1] [] cp) X.env)::starEach [] X.env:=by rfl) (hl1:starEach [.Call (.Name "list" lp) [.Name x np1] [] cp] X.env=[(false,eval (.Call (.Name "list" lp) [.Name x np1] [] cp) X.env)]:=by rfl)
  (hn:(assignEach [.Name z kp,.Name y yp] X.env).length=2:=by rfl) (hst2:(assignEach [.Name z kp,.Name y yp] X.env).findIdx? (·.1)=none:=by rfl)
  (ha1:(assignEach [.Name z kp,.Name y yp] X.env).map (·.2)=assign (.Name z kp) X.env::(assignEach [.Name y yp] X.env).map (·.2):=by rfl) (ha2:(assignEach [.Name y yp] X.env).map (·.2)=assign (.Name y yp) X.env::(assignEach [] X.env).map (·.2):=by rfl)
  (hbase:attributeBase (.Subscript (.Name x np2) (.Name y np3) sp) "append" X.env (eval (.Subscript (.Name x np2) (.Name y np3) sp) X.env)=eval (.Subscript (.Name x np2) (.Name y np3) sp) X.env:=by rfl)
  (hfew:((backTo cpos (starEach [.Subscript (.Name m mp) (.Name z kp2) sp2] X.env)).all (fun x => !x.1) && (backToKw cpos (keywordEach [] X.env)).all (fun x=>x.1.isSome)
   && decide (([.Subscript (.Name m mp) (.Name z kp2) sp2]:List Expr).length+([]:List Keyword).length+(if ([]:List Keyword).isEmpty then 0 else 1)<30))=true:=by rfl)
  (hline:(apos.endLine == cpos.line)=true:=by rfl) (hst:starEach [.Subscript (.Name m mp) (.Name z kp2) sp2] X.env=(false,eval (.Subscript (.Name m mp) (.Name z kp2) sp2) X.env)::starEach [] X.env:=by rfl) (hplain:(backTo cpos (starEach [] X.env)).any (·.1)=false:=by rfl)
  (hsw:swapsWith (.Call (.Attribute (.Subscript (.Name x np2) (.Name y np3) sp) "append" apos) [.Subscript (.Name m mp) (.Name z kp2) sp2] [] cpos) none epos.line X.env=pure false:=by rfl)
  (hfs:∀ v,foldedSetIterable (.Call (.Name "enumerate" ep) [.Call (.Name "list" lp) [.Name x np1] [] cp] [] cpe) X.env v=pure v:=by intro _;rfl):
  PS X (.For (.Tuple [.Name z kp,.Name y yp] c tp) (.Call (.Name "enumerate" ep) [.Call (.Name "list" lp) [.Name x np1] [] cp] [] cpe) [.Expr (.Call (.Attribute (.Subscript (.Name x np2) (.Name y np3) sp) "append" apos) [.Subscript (.Name m mp) (.Name z kp2) sp2] [] cpos) epos] [] pos) (tMess6 X.K jh jm jk jp):=
 ps_for hp hc (pi_enum hge hme (pa_cons (pe_callTy (call_listDT hc) hg hm bo_list (pa_cons hh pa_nil he) (by decide) (by decide) he hpl) pa_nil hl) hl1) (pg_tup hc (pgs_cons (pg_name hnd hi' hx' hf') (pgs_cons (pg_name hnd hi hx hf) pgs_nil ha2) ha1) hn hst2)
  (pss_one (ps_expr (pe_bm PySem.F.plainAttrs_list PySem.F.slot_list_append PySem.F.type_list_append mt_append (pe_dget hu hh hy hns) (pa_cons (pe_ix ix_seq hmm hz hix) pa_nil hst) hbase hfew hline hst hplain) hsw)) hfs
theorem db_tail6 {rN:List D->Option (List D×List D)} {f0 fB fC1 fC2:FS} {f3:FE} {jc jd jh jm ja jk jp:Nat} {s0 b1 b2 s1 c1 c2 c3 c4 s2 c5 c6 s3 s4:Stmt} {x3:Expr} {pos:Pos}
  (d0:DBA X [s0] f0) (dB:DBA X [b1,b2] fB) (p1:PS X s1 (tAsg (tCallX X (spG X.K (NestN X.K) rN) (tCons (tVar jc) tNil)) (gName jh))) (dC:DBA X [c1,c2,c3,c4] fC1) (p2:PS X s2 (tMess6 X.K jh jm jk jp)) (dC2:DBA X [c5,c6] fC2) (p3:PS X s3 (tAsg (tCallX X (spG X.K (NestN X.K) rN) (tCons (tVar jc) tNil)) (gName ja))) (p4:PS X s4 (tDrop (tBM0 X.K "dict" rClearT (tVar jc)))) (e3:DE X x3 f3)
  (nd:([jc,jd,jh,jm,ja,jk,jp]:List Nat).Nodup:=by decide):DB X [s0,b1,b2,s1,c1,c2,c3,c4,s2,c5,c6,s3,s4,.Return (some x3) pos] (fTail6 rN f0 fB fC1 fC2 f3 jc jd jh jm ja jk jp):=
 let ⟨_,a0,a0'⟩:=d0;let ⟨_,aB,aB'⟩:=dB;let ⟨_,aC,aC'⟩:=dC;let ⟨_,a2,a2'⟩:=dC2;let ⟨_,a3,a3'⟩:=e3
 ⟨_,a0' _ _ (aB' _ _ (zez p1 (pss_fix jh (aC' _ _ (zez p2 (a2' _ _ (zez p3 (pss_fix ja (zez p4 (pss_one (ps_ret a3)))))))))))
  ,snd_tail6 a0 aB aC a2 a3' nd⟩
end
end L4
namespace L4
open PySem L2
theorem fz_val (d:D):(Sl.val d).fz=d:=rfl
theorem fz_own (d:D):(Sl.own d).fz=d:=rfl
theorem fz_lnt (d:D):(Sl.lnt d).fz=d:=rfl
theorem runD_ret {n m:Nat} {f:FS} {ds:List D} {s:Sl} {δ:DEnv} (h:ds.length=m) (e:f (startD n [] ds)=some (.ret s δ)):runD n m [] f ds=some (.ok s,[]):=by
 unfold runD;rw[if_pos h,e]
theorem zcq {a b:FS} {δ δ':DEnv} (e:a δ=some (.next δ')):fSeq a b δ=b δ':=by unfold fSeq;rw[e,Option.bind_some]
theorem fFor_of {src:FL} {i:Nat} {F:FS} {δ δ':DEnv} {ds:List D} (e:src δ=some (.ok ds,δ')):fFor src i F δ=forD i F ds δ':=by unfold fFor;rw[e];rfl
theorem forD_next {i:Nat} {F:FS} {d:D} {ds:List D} {δ δ':DEnv} (e:F (δ.set i (some (.val d)))=some (.next δ')):forD i F (d::ds) δ=forD i F ds δ':=by rw[forD,e,Option.bind_some]
theorem addD_int (i j:Int):addD (.int i) (.int j)=some (.val (.int (i+j))):=rfl
theorem subD_int (i j:Int):subD (.int i) (.int j)=some (.val (.int (i - j))):=rfl
theorem modD_int (i j:Int) (h:0<j):modD (.int i) (.int j)=some (.val (.int (i % j))):=by
 show (if decide (0<j)=true then some (Sl.val (D.int (i % j))) else none)=_
 rw[if_pos (decide_eq_true h)]
theorem fdivD_int (i j:Int) (h:0<j) (h2:j<1073741824):fdivD (.int i) (.int j)=some (.val (.int (i / j))):=by
 show (if (decide (0<j) && decide (j<1073741824))=true then some (Sl.val (D.int (i / j))) else none)=_
 rw[if_pos (by rw[decide_eq_true h,decide_eq_true h2];rfl)]
theorem mulD_int (i j:Int) (h:(-(2 ^ 64)<i/\i<2 ^ 64)\/(-(2 ^ 64)<j/\j<2 ^ 64)):mulD (.int i) (.int j)=some (.val (.int (i * j))):=by
 show (if cMul i j=true then some (Sl.val (D.int (i * j))) else none)=_
 rw[if_pos]
 unfold cMul
 rw[Bool.or_eq_true,Bool.and_eq_true,Bool.and_eq_true]
 exact h.imp (fun z=>⟨decide_eq_true z.1,decide_eq_true z.2⟩) fun z=>⟨decide_eq_true z.1,decide_eq_true z.2⟩
theorem ltD_int (i j:Int):ltD (.int i) (.int j)=some (.val (.bl (decide (i<j)))):=rfl
theorem leD_int (i j:Int):leD (.int i) (.int j)=some (.val (.bl (decide (i<=j)))):=rfl
theorem gtD_int (i j:Int):gtD (.int i) (.int j)=some (.val (.bl (decide (j<i)))):=rfl
theorem geD_int (i j:Int):geD (.int i) (.int j)=some (.val (.bl (decide (j<=i)))):=rfl
theorem negD_int (i:Int):negD (.int i)=some (.val (.int (-i))):=rfl
theorem maxD_int (i j:Int):maxD (.int i) (.int j)=some (.val (.int (if j > i then j else i))):=rfl
theorem minD_int (i j:Int):minD (.int i) (.int j)=some (.val (.int (if j<i then j else i))):=rfl
theorem eqOp_int (n:Bool) (i j:Int):eqOp n (.int i) (.int j)=some (.val (.bl (if n then !decide (i=j) else decide (i=j)))):=by
 unfold eqOp
 rw[if_pos (by rw[show depD (D.int i)=0 by unfold depD;rfl,show za1 (.int i)=true by unfold za1;rfl,show za1 (.int j)=true by unfold za1;rfl];decide)]
 rw[show eqD (.int i) (.int j)=decide (i=j) from by unfold eqD;by_cases h:i=j<;>simp [h]]
theorem eqOp_bl (n:Bool) (i j:Bool):eqOp n (.bl i) (.bl j)=some (.val (.bl (if n then !(i == j) else (i == j)))):=by
 unfold eqOp
 rw[if_pos (by rw[show depD (D.bl i)=0 by unfold depD;rfl,show za1 (.bl i)=true by unfold za1;rfl,show za1 (.bl j)=true by unfold za1;rfl];decide)]
 rw[show eqD (.bl i) (.bl j)=(i == j) from by unfold eqD;rfl]
theorem atI_of {α:Type} {xs:List α} {k:Int} (h0:0<=k) (h:k<xs.length):atI xs k=xs[k.toNat]? := by
 unfold atI ixN
 rw[if_pos h0,if_pos h]
 rfl
theorem ix0_tup (a:D) (r:List D):ixD (.tup (a::r)) (.int 0)=some (.val a):=by
 show (atI (a::r) 0).map Sl.val=_
 rw[show (atI (a::r) (0:Int))=some a from by rw[atI_of (by decide) (by rw[List.length_cons];lia)];rfl]
 rfl
theorem ix1_tup (a b:D) (r:List D):ixD (.tup (a::b::r)) (.int 1)=some (.val b):=by
 show (atI (a::b::r) 1).map Sl.val=_
 rw[show (atI (a::b::r) (1:Int))=some b from by rw[atI_of (by decide) (by rw[List.length_cons,List.length_cons];lia)];rfl]
 rfl
theorem isi_tup (ds:List D):isiD (.tup ds) (.ty "tuple")=some (.val (.bl true)):=rfl
theorem isi_lst (ds:List D):isiD (.lst ds) (.ty "list")=some (.val (.bl true)):=rfl
theorem isi_int (i:Int):isiD (.int i) (.ty "int")=some (.val (.bl true)):=rfl
theorem isi_int_bool (i:Int):isiD (.int i) (.ty "bool")=some (.val (.bl false)):=rfl
theorem isi_bl (i:Bool):isiD (.bl i) (.ty "bool")=some (.val (.bl true)):=rfl
theorem len_lst (ds:List D):lenD (.lst ds)=some (.val (.int ds.length)):=rfl
theorem gTup2 (a b:D):gTupD [a,b]=some (.val (.tup [a,b])):=by
 unfold gTupD;rw[if_pos (by show 2<=sizeLine;decide)]
theorem zbx:sizeLine=16777216:=by decide
mutual
theorem eqD_refl:∀ d:D,za1 d=true->eqD d d=true
 | .non,_=>rfl
 | .bl _,_=>by unfold eqD;exact beq_self_eq_true _
 | .int _,_=>by unfold eqD;exact beq_self_eq_true _
 | .str _,_=>by unfold eqD;exact beq_self_eq_true _
 | .tup ds,h=>by unfold eqD;exact eqDs_refl ds (by unfold za1 at h;exact h)
 | .lst ds,h=>by unfold eqD;exact eqDs_refl ds (by unfold za1 at h;exact h)
 | .ty e,h=>by unfold za1 at h;cases h
 | .dct _ _,h=>by unfold za1 at h;cases h
 | .dcf _ _,h=>by unfold za1 at h;cases h
 | .tg _ _,h=>by unfold za1 at h;cases h
theorem eqDs_refl:∀ ds:List D,za9 ds=true->eqDs ds ds=true
 | [],_=>by unfold eqDs;rfl
 | d::ds,h=>by
  unfold za9 at h
  rw[Bool.and_eq_true] at h
  unfold eqDs
  rw[eqD_refl d h.1,eqDs_refl ds h.2]
  rfl
end
theorem cell_ix (ns:List Int) (k:Int) (h:0<=k) (hk:k<(ns.length:Int)):ixD (.lst (ns.map D.int)) (.int k)=some (.val (.int (ns.getD k.toNat 0))):=by
 have hk':k.toNat<ns.length:=by lia
 show (atI (ns.map D.int) k).map Sl.val=_
 rw[atI_of h (by rw[List.length_map];exact hk),List.getElem?_map,List.getElem?_eq_getElem hk']
 simp [List.getD,hk']
end L4
namespace Toy
open PySem L4
noncomputable def ecls:List Str:=[]
noncomputable def za7:D:=(.tup [(.str "num"),(.str "ref"),(.str "gone"),(.str "area")])
/-- _law_cell_at(_law_script,_law_k): slots 0 _law_script,1 _law_k -/
noncomputable def ze4:FS:=(fSeq (fIf (fTb (fOp ltD (fVar 1) (fArgs (g1 lenD) (fCons (fVar 0) fNil)))) (fRet (fOp modD (fOp addD (fOp mulD (fOp ixD (fVar 0) (fVar 1)) (fC (.int 48271))) (fOp mulD (fVar 1) (fC (.int 7919)))) (fC (.int 1000003)))) fNext)
  (fRet (fC (.int 0))))
noncomputable def za8:Fn:=runD 2 2 [] ze4
/-- _law_cells(_law_script,_law_low,_law_high): slots 0 _law_script,1 _law_low,2 _law_high -/
noncomputable def el_q_cells_1:FE:=(fCall za8 (fCons (fVar 1) (fCons (fVar 0) fNil)))
noncomputable def f_q_cells:FS:=(fRet (fComp (fRng2 (fCons (fVar 1) (fCons (fArgs (g2 minD) (fCons (fVar 2) (fCons (fArgs (g1 lenD) (fCons (fVar 0) fNil)) fNil))) fNil))) none el_q_cells_1))
noncomputable def r_q_cells:Fn:=runD 3 3 [] f_q_cells
/-- _law_mix(_law_cell,_law_k): slots 0 _law_cell,1 _law_k -/
noncomputable def f_q_mix:FS:=(fRet (fOp modD (fOp addD (fOp addD (fOp mulD (fVar 0) (fC (.int 48271))) (fOp mulD (fVar 1) (fC (.int 69621)))) (fC (.int 11))) (fC (.int 1000003))))
noncomputable def r_q_mix:Fn:=runD 2 2 [] f_q_mix
/-- _law_ref(_law_cell,_law_far): slots 0 _law_cell,1 _law_far -/
noncomputable def f_q_ref:FS:=(fRet (fArgs gTupD (fCons (fC (.str "ref")) (fCons (fArgs gTupD (fCons (fOp addD (fOp ixD (fVar 1) (fC (.int 0))) (fOp modD (fVar 0) (fC (.int 4)))) (fCons (fOp addD (fOp ixD (fVar 1) (fC (.int 1))) (fOp modD (fOp fdivD (fVar 0) (fC (.int 4))) (fC (.int 4)))) fNil))) (fCons (fArgs gTupD (fCons (fOp (eqOp false) (fOp modD (fOp fdivD (fVar 0) (fC (.int 16))) (fC (.int 2))) (fC (.int 1))) (fCons (fOp (eqOp false) (fOp modD (fOp fdivD (fVar 0) (fC (.int 32))) (fC (.int 2))) (fC (.int 1))) fNil))) fNil)))))
noncomputable def r_q_ref:Fn:=runD 2 2 [] f_q_ref
/-- _law_area(_law_cell,_law_far): slots 0 _law_cell,1 _law_far,2 _law_row,3 _law_column,4 _law_last -/
noncomputable def f_q_area:FS:=(fSeq (fAsg 2 (fOp modD (fVar 0) (fC (.int 4))))
  (fSeq (fAsg 3 (fOp modD (fOp fdivD (fVar 0) (fC (.int 4))) (fC (.int 4))))
  (fSeq (fAsg 4 (fArgs gTupD (fCons (fOp addD (fOp ixD (fVar 1) (fC (.int 0))) (fArgs (g2 maxD) (fCons (fVar 2) (fCons (fOp modD (fOp fdivD (fVar 0) (fC (.int 16))) (fC (.int 4))) fNil)))) (fCons (fOp addD (fOp ixD (fVar 1) (fC (.int 1))) (fArgs (g2 maxD) (fCons (fVar 3) (fCons (fOp modD (fOp fdivD (fVar 0) (fC (.int 64))) (fC (.int 4))) fNil)))) fNil))))
  (fRet (fArgs gTupD (fCons (fC (.str "area")) (fCons (fArgs gTupD (fCons (fC (.str "ref")) (fCons (fArgs gTupD (fCons (fOp addD (fOp ixD (fVar 1) (fC (.int 0))) (fVar 2)) (fCons (fOp addD (fOp ixD (fVar 1) (fC (.int 1))) (fVar 3)) fNil))) (fCons (fArgs gTupD (fCons (fC (.bl false)) (fCons (fC (.bl true)) fNil))) fNil)))) (fCons (fArgs gTupD (fCons (fC (.str "ref")) (fCons (fVar 4) (fCons (fArgs gTupD (fCons (fC (.bl false)) (fCons (fC (.bl false)) fNil))) fNil)))) fNil))))))))
noncomputable def r_q_area:Fn:=runD 5 2 [] f_q_area
/-- _law_over(_law_cell,_law_far,_law_depth): slots 0 _law_cell,1 _law_far,2 _law_depth,3 _law_some,4 _law_k,5 _law_more -/
noncomputable def lb_q_over_1 (self_q_over:Fn) (self_q_tree:Fn):FS:=(fSeq (fAsg 5 (fCall r_q_mix (fCons (fVar 0) (fCons (fOp addD (fVar 4) (fC (.int 5))) fNil))))
  (fIf (fOrT (fTb (fOp (eqOp false) (fOp modD (fVar 5) (fC (.int 3))) (fC (.int 0)))) (fAndT (fTb (fOp gtD (fVar 4) (fC (.int 1)))) (fTb (fOp (eqOp false) (fOp modD (fVar 5) (fC (.int 3))) (fC (.int 1)))))) (fDrop (fMut 3 gAppend (fCons (fCall r_q_ref (fCons (fOp fdivD (fVar 5) (fC (.int 3))) (fCons (fVar 1) fNil))) fNil))) (fIf (fTb (fOp (eqOp false) (fOp modD (fVar 5) (fC (.int 3))) (fC (.int 1)))) (fDrop (fMut 3 gAppend (fCons (fCall self_q_tree (fCons (fOp fdivD (fVar 5) (fC (.int 3))) (fCons (fVar 1) (fCons (fOp subD (fVar 2) (fC (.int 1))) fNil)))) fNil))) (fDrop (fMut 3 gAppend (fCons (fCall r_q_area (fCons (fOp fdivD (fVar 5) (fC (.int 3))) (fCons (fVar 1) fNil))) fNil))))))
noncomputable def f_q_over (self_q_over:Fn) (self_q_tree:Fn):FS:=(fSeq (fAsg 3 (fArgs gLstD fNil))
  (fSeq (fFor (fRng1 (fCons (fOp addD (fC (.int 1)) (fOp modD (fOp fdivD (fVar 0) (fC (.int 3))) (fOp addD (fC (.int 2)) (fOp mulD (fC (.int 2)) (fVar 2))))) fNil)) 4 (lb_q_over_1 self_q_over self_q_tree))
  (fRet (fPure (fArgs gTupD (fCons (fC (.str "over")) (fCons (fOp ixD (fArgs gLstD (fCons (fC (.str "SUM")) (fCons (fC (.str "COUNT")) (fCons (fC (.str "MAX")) fNil)))) (fOp modD (fVar 0) (fC (.int 3)))) (fCons (fVar 3) fNil))))))))
/-- _law_tree(_law_cell,_law_far,_law_depth): slots 0 _law_cell,1 _law_far,2 _law_depth,3 _law_way,4 _law_more,5 _law_one,6 _law_two -/
noncomputable def f_q_tree_10 (self_q_over:Fn) (self_q_tree:Fn):FS:=(fRet (fArgs gTupD (fCons (fC (.str "two")) (fCons (fOp ixD (fArgs gLstD (fCons (fC (.str "+")) (fCons (fC (.str "-")) (fCons (fC (.str "*")) (fCons (fC (.str "/")) (fCons (fC (.str "<")) (fCons (fC (.str "=")) fNil))))))) (fOp modD (fVar 4) (fC (.int 6)))) (fCons (fVar 5) (fCons (fVar 6) fNil))))))
noncomputable def f_q_tree_9 (self_q_over:Fn) (self_q_tree:Fn):FS:=(fSeq (fIf (fTb (fOp (eqOp false) (fVar 3) (fC (.int 6)))) (fRet (fArgs gTupD (fCons (fC (.str "two")) (fCons (fC (.str "+")) (fCons (fCall r_q_ref (fCons (fVar 4) (fCons (fVar 1) fNil))) (fCons (fArgs gTupD (fCons (fC (.str "num")) (fCons (fC (.int 1)) fNil))) fNil)))))) fNext)
  (f_q_tree_10 self_q_over self_q_tree))
noncomputable def f_q_tree_8 (self_q_over:Fn) (self_q_tree:Fn):FS:=(fSeq (fIf (fTb (fOp (eqOp false) (fVar 3) (fC (.int 5)))) (fRet (fArgs gTupD (fCons (fC (.str "pick")) (fCons (fVar 5) (fCons (fVar 6) (fCons (fCall self_q_tree (fCons (fCall r_q_mix (fCons (fVar 0) (fCons (fC (.int 3)) fNil))) (fCons (fVar 1) (fCons (fOp subD (fVar 2) (fC (.int 1))) fNil)))) fNil)))))) fNext)
  (f_q_tree_9 self_q_over self_q_tree))
noncomputable def zf9 (self_q_over:Fn) (self_q_tree:Fn):FS:=(fSeq (fIf (fTb (fOp (eqOp false) (fVar 3) (fC (.int 4)))) (fRet (fArgs gTupD (fCons (fC (.str "pick")) (fCons (fCall r_q_ref (fCons (fVar 4) (fCons (fVar 1) fNil))) (fCons (fVar 5) (fCons (fVar 6) fNil)))))) fNext)
  (f_q_tree_8 self_q_over self_q_tree))
noncomputable def zf5 (self_q_over:Fn) (self_q_tree:Fn):FS:=(fSeq (fAsg 6 (fCall self_q_tree (fCons (fCall r_q_mix (fCons (fVar 0) (fCons (fC (.int 2)) fNil))) (fCons (fVar 1) (fCons (fOp subD (fVar 2) (fC (.int 1))) fNil)))))
  (zf9 self_q_over self_q_tree))
noncomputable def ze1 (self_q_over:Fn) (self_q_tree:Fn):FS:=(fSeq (fIf (fTb (fOp (eqOp false) (fVar 3) (fC (.int 3)))) (fRet (fArgs gTupD (fCons (fC (.str "minus")) (fCons (fVar 5) fNil)))) fNext)
  (zf5 self_q_over self_q_tree))
noncomputable def ze2 (self_q_over:Fn) (self_q_tree:Fn):FS:=(fSeq (fAsg 5 (fCall self_q_tree (fCons (fCall r_q_mix (fCons (fVar 0) (fCons (fC (.int 1)) fNil))) (fCons (fVar 1) (fCons (fOp subD (fVar 2) (fC (.int 1))) fNil)))))
  (ze1 self_q_over self_q_tree))
noncomputable def zd5 (self_q_over:Fn) (self_q_tree:Fn):FS:=(fSeq (fIf (fTb (fOp ltD (fVar 3) (fC (.int 3)))) (fRet (fCall self_q_over (fCons (fVar 4) (fCons (fVar 1) (fCons (fVar 2) fNil))))) fNext)
  (ze2 self_q_over self_q_tree))
noncomputable def f_q_tree_2 (self_q_over:Fn) (self_q_tree:Fn):FS:=(fSeq (fIf (fOrT (fTb (fOp (eqOp false) (fVar 2) (fC (.int 0)))) (fTb (fOp (eqOp false) (fVar 3) (fC (.int 0))))) (fRet (fOp ixD (fArgs gLstD (fCons (fCall r_q_ref (fCons (fVar 4) (fCons (fVar 1) fNil))) (fCons (fArgs gTupD (fCons (fC (.str "num")) (fCons (fOp modD (fVar 4) (fC (.int 11))) fNil))) (fCons (fCall r_q_ref (fCons (fVar 4) (fCons (fVar 1) fNil))) (fCons (fArgs gTupD (fCons (fC (.str "gone")) fNil)) fNil))))) (fOp mulD (fOp modD (fVar 4) (fC (.int 4))) (fOp modD (fOp fdivD (fVar 4) (fC (.int 4))) (fC (.int 2)))))) fNext)
  (zd5 self_q_over self_q_tree))
noncomputable def f_q_tree_1 (self_q_over:Fn) (self_q_tree:Fn):FS:=(fSeq (fAsg 4 (fOp fdivD (fVar 0) (fC (.int 9))))
  (f_q_tree_2 self_q_over self_q_tree))
noncomputable def zex (self_q_over:Fn) (self_q_tree:Fn):FS:=(fSeq (fAsg 3 (fOp modD (fVar 0) (fC (.int 9))))
  (f_q_tree_1 self_q_over self_q_tree))
noncomputable def zf7:Nat->Fn×Fn
 | 0=>(fun _=>none,fun _=>none)
 | n+1=>(runD 6 3 [] (f_q_over (zf7 n).1 (zf7 n).2),runD 7 3 [] (zex (zf7 n).1 (zf7 n).2))
noncomputable def r_q_over (n:Nat):Fn:=(zf7 n).1
noncomputable def r_q_tree (n:Nat):Fn:=(zf7 n).2
/-- _law_content(_law_cell,_law_far): slots 0 _law_cell,1 _law_far -/
noncomputable def f_q_content:FS:=(fSeq (fIf (fTb (fOp (eqOp false) (fOp modD (fVar 0) (fC (.int 8))) (fC (.int 0)))) (fRet (fC .non)) fNext)
  (fSeq (fIf (fTb (fOp ltD (fOp modD (fVar 0) (fC (.int 8))) (fC (.int 4)))) (fRet (fOp ixD (fArgs gLstD (fCons (fOp subD (fOp modD (fOp fdivD (fVar 0) (fC (.int 8))) (fC (.int 9))) (fC (.int 4))) (fCons (fC (.int 0)) (fCons (fOp powD (fVar 0) (fC (.int 5))) (fCons (fUn negD (fOp powD (fVar 0) (fC (.int 5)))) fNil))))) (fOp mulD (fOp fdivD (fOp modD (fOp fdivD (fVar 0) (fC (.int 72))) (fC (.int 8))) (fC (.int 2))) (fOp modD (fOp fdivD (fVar 0) (fC (.int 576))) (fC (.int 2)))))) fNext)
  (fRet (fCall (r_q_tree 40) (fCons (fOp fdivD (fVar 0) (fC (.int 8))) (fCons (fVar 1) (fCons (fOp addD (fC (.int 1)) (fOp modD (fVar 0) (fC (.int 3)))) fNil)))))))
noncomputable def zfj:Fn:=runD 2 2 [] f_q_content
/-- _law_contents(_law_script,_law_low,_law_high): slots 0 _law_script,1 _law_low,2 _law_high,3 _law_far,4 _law_contents_here,5 _law_cell,6 _law_k,7 _law_last,8 _law_area_here,9 _law_content_here -/
noncomputable def zd1:FS:=(fPutD 4 (fArgs gTupD (fCons (fVar 6) (fCons (fC (.int 5)) fNil))) (fArgs gTupD (fCons (fC (.str "two")) (fCons (fC (.str "+")) (fCons (fArgs gTupD (fCons (fC (.str "ref")) (fCons (fArgs gTupD (fCons (fOp subD (fVar 6) (fC (.int 1))) (fCons (fC (.int 5)) fNil))) (fCons (fArgs gTupD (fCons (fC (.bl false)) (fCons (fC (.bl false)) fNil))) fNil)))) (fCons (fArgs gTupD (fCons (fC (.str "num")) (fCons (fVar 6) fNil))) fNil))))))
noncomputable def zd2:FS:=(fSeq (fAsg 9 (fCall zfj (fCons (fOp fdivD (fVar 5) (fC (.int 16))) (fCons (fVar 3) fNil))))
  (fIf (fTb (fOp (isND true) (fVar 9) (fC .non))) (fPutD 4 (fArgs gTupD (fCons (fOp addD (fOp ixD (fVar 3) (fC (.int 0))) (fOp modD (fVar 5) (fC (.int 4)))) (fCons (fOp addD (fOp ixD (fVar 3) (fC (.int 1))) (fOp modD (fOp fdivD (fVar 5) (fC (.int 4))) (fC (.int 4)))) fNil))) (fVar 9)) fNext))
noncomputable def f_q_contents:FS:=(fSeq (fAsg 3 (fOp ixD (fArgs gLstD (fCons (fArgs gTupD (fCons (fC (.int 0)) (fCons (fC (.int 0)) fNil))) (fCons (fArgs gTupD (fCons (fC (.int 95)) (fCons (fC (.int 22)) fNil))) fNil))) (fOp fdivD (fOp modD (fCall za8 (fCons (fVar 0) (fCons (fC (.int 0)) fNil))) (fC (.int 8))) (fC (.int 7)))))
  (fSeq (fAsg 4 fDNew)
  (fSeq (fIf (fTb (fOp (eqOp false) (fOp modD (fCall za8 (fCons (fVar 0) (fCons (fC (.int 0)) fNil))) (fC (.int 8))) (fC (.int 1)))) (fSeq (fFor (fRng2 (fCons (fC (.int 2)) (fCons (fOp addD (fC (.int 2)) (fOp modD (fCall za8 (fCons (fVar 0) (fCons (fC (.int 1)) fNil))) (fC (.int 90)))) fNil))) 6 zd1)
  (fPutD 4 (fArgs gTupD (fCons (fC (.int 1)) (fCons (fC (.int 5)) fNil))) (fOp modD (fCall za8 (fCons (fVar 0) (fCons (fC (.int 1)) fNil))) (fC (.int 11))))) fNext)
  (fSeq (fIf (fTb (fOp (eqOp false) (fOp modD (fCall za8 (fCons (fVar 0) (fCons (fC (.int 0)) fNil))) (fC (.int 8))) (fC (.int 2)))) (fSeq (fAsg 7 (fArgs gTupD (fCons (fOp modD (fCall za8 (fCons (fVar 0) (fCons (fC (.int 1)) fNil))) (fC (.int 30))) (fCons (fOp addD (fC (.int 3)) (fOp modD (fOp fdivD (fCall za8 (fCons (fVar 0) (fCons (fC (.int 1)) fNil))) (fC (.int 30))) (fC (.int 9)))) fNil))))
  (fSeq (fAsg 8 (fArgs gTupD (fCons (fC (.str "area")) (fCons (fArgs gTupD (fCons (fC (.str "ref")) (fCons (fArgs gTupD (fCons (fC (.int 0)) (fCons (fC (.int 0)) fNil))) (fCons (fArgs gTupD (fCons (fC (.bl false)) (fCons (fC (.bl false)) fNil))) fNil)))) (fCons (fArgs gTupD (fCons (fC (.str "ref")) (fCons (fVar 7) (fCons (fArgs gTupD (fCons (fC (.bl true)) (fCons (fC (.bl false)) fNil))) fNil)))) fNil)))))
  (fPutD 4 (fArgs gTupD (fCons (fC (.int 60)) (fCons (fC (.int 20)) fNil))) (fArgs gTupD (fCons (fC (.str "over")) (fCons (fOp ixD (fArgs gLstD (fCons (fC (.str "SUM")) (fCons (fC (.str "COUNT")) fNil))) (fOp modD (fOp fdivD (fCall za8 (fCons (fVar 0) (fCons (fC (.int 1)) fNil))) (fC (.int 300))) (fC (.int 2)))) (fCons (fArgs gLstD (fCons (fVar 8) fNil)) fNil))))))) fNext)
  (fSeq (fFor (fItA (fCall r_q_cells (fCons (fVar 0) (fCons (fVar 1) (fCons (fVar 2) fNil))))) 5 zd2)
  (fRetV 4))))))
noncomputable def zc4:Fn:=runD 10 3 [] f_q_contents
/-- _law_means(_law_tree_here): slots 0 _law_tree_here,1 _law_below,2 _law_found,3 _law_one,4 _law_row -/
noncomputable def zfz (self_q_means:Fn):FE:=(fArgs gTupD (fCons (fVar 5) (fCons (fVar 0) fNil)))
noncomputable def zdx (self_q_means:Fn):FS:=(fAsg 2 (fOp addD (fVar 2) (fComp (fRng2 (fCons (fOp ixD (fOp ixD (fOp ixD (fVar 0) (fC (.int 1))) (fC (.int 1))) (fC (.int 1))) (fCons (fOp addD (fOp ixD (fOp ixD (fOp ixD (fVar 0) (fC (.int 2))) (fC (.int 1))) (fC (.int 1))) (fC (.int 1))) fNil))) none (zfz self_q_means))))
noncomputable def zdj (self_q_means:Fn):FS:=(fAsg 2 (fOp addD (fVar 2) (fCall self_q_means (fCons (fVar 3) fNil))))
noncomputable def f_q_means_8 (self_q_means:Fn):FS:=(fRetV 2)
noncomputable def f_q_means_7 (self_q_means:Fn):FS:=(fSeq (fFor (fItA (fVar 1)) 3 (zdj self_q_means))
  (f_q_means_8 self_q_means))
noncomputable def f_q_means_6 (self_q_means:Fn):FS:=(fSeq (fAsg 2 (fArgs gLstD fNil))
  (f_q_means_7 self_q_means))
noncomputable def ze6 (self_q_means:Fn):FS:=(fSeq (fIf (fTb (fOp (eqOp false) (fOp ixD (fVar 0) (fC (.int 0))) (fC (.str "over")))) (fAsg 1 (fOp ixD (fVar 0) (fC (.int 2)))) fNext)
  (f_q_means_6 self_q_means))
noncomputable def ze5 (self_q_means:Fn):FS:=(fSeq (fIf (fTb (fOp (eqOp false) (fOp ixD (fVar 0) (fC (.int 0))) (fC (.str "two")))) (fAsg 1 (fArgs gLstD (fCons (fOp ixD (fVar 0) (fC (.int 2))) (fCons (fOp ixD (fVar 0) (fC (.int 3))) fNil)))) fNext)
  (ze6 self_q_means))
noncomputable def ze8 (self_q_means:Fn):FS:=(fSeq (fAsg 1 (fArgs (g1 listD) (fCons (fSl slSD (fVar 0) (fPart (fC (.int 1))) fNoP) fNil)))
  (ze5 self_q_means))
noncomputable def zc9 (self_q_means:Fn):FS:=(fSeq (fIf (fOrT (fTb (fOp (eqOp false) (fOp ixD (fVar 0) (fC (.int 0))) (fC (.str "num")))) (fTb (fOp (eqOp false) (fOp ixD (fVar 0) (fC (.int 0))) (fC (.str "gone"))))) (fRet (fArgs gLstD fNil)) fNext)
  (ze8 self_q_means))
noncomputable def zc5 (self_q_means:Fn):FS:=(fSeq (fIf (fTb (fOp (eqOp false) (fOp ixD (fVar 0) (fC (.int 0))) (fC (.str "area")))) (fSeq (fAsg 2 (fArgs gLstD fNil))
  (fSeq (fFor (fRng2 (fCons (fOp ixD (fOp ixD (fOp ixD (fVar 0) (fC (.int 1))) (fC (.int 1))) (fC (.int 0))) (fCons (fOp addD (fOp ixD (fOp ixD (fOp ixD (fVar 0) (fC (.int 2))) (fC (.int 1))) (fC (.int 0))) (fC (.int 1))) fNil))) 4 (zdx self_q_means))
  (fRetV 2))) fNext)
  (zc9 self_q_means))
noncomputable def zc1 (self_q_means:Fn):FS:=(fSeq (fIf (fTb (fOp (eqOp false) (fOp ixD (fVar 0) (fC (.int 0))) (fC (.str "ref")))) (fRet (fArgs gLstD (fCons (fOp ixD (fVar 0) (fC (.int 1))) fNil))) fNext)
  (zc5 self_q_means))
noncomputable def zb3:Nat->Fn
 | 0=>fun _=>none
 | n+1=>runD 5 1 [] (zc1 (zb3 n))
/-- is_formula(content): slots 0 content -/
noncomputable def f_is_formula:FS:=(fRet (fArgs (g2 isiD) (fCons (fVar 0) (fCons (fC (.ty "tuple")) fNil))))
noncomputable def zf1:Fn:=runD 1 1 [] f_is_formula
/-- parts(tree): slots 0 tree,1 kind -/
noncomputable def f_parts:FS:=(fSeq (fAsg 1 (fOp ixD (fVar 0) (fC (.int 0))))
  (fSeq (fIf (fTb (fOp (inOp false) (fVar 1) (fC za7))) (fRet (fArgs gLstD fNil)) fNext)
  (fSeq (fIf (fTb (fOp (eqOp false) (fVar 1) (fC (.str "over")))) (fRet (fArgs (g1 listD) (fCons (fOp ixD (fVar 0) (fC (.int 2))) fNil))) fNext)
  (fSeq (fIf (fTb (fOp (eqOp false) (fVar 1) (fC (.str "two")))) (fRet (fArgs gLstD (fCons (fOp ixD (fVar 0) (fC (.int 2))) (fCons (fOp ixD (fVar 0) (fC (.int 3))) fNil)))) fNext)
  (fRet (fArgs (g1 listD) (fCons (fSl slSD (fVar 0) (fPart (fC (.int 1))) fNoP) fNil)))))))
noncomputable def r_parts:Fn:=runD 2 1 [] f_parts
/-- levels(tree): slots 0 tree,1 found,2 level,3 below,4 part -/
noncomputable def lb_levels_1:FS:=(fDrop (fMut 3 gExtend (fCons (fCall r_parts (fCons (fVar 4) fNil)) fNil)))
noncomputable def wt_levels_1:FT:=(fTr (fVar 2))
noncomputable def lb_levels_2:FS:=(fSeq (fDrop (fMut 1 gAppend (fCons (fVar 2) fNil)))
  (fSeq (fAsg 3 (fArgs gLstD fNil))
  (fSeq (fFor (fItA (fVar 2)) 4 lb_levels_1)
  (fAsg 2 (fPure (fVar 3))))))
noncomputable def f_levels:FS:=(fSeq (fAsg 1 (fArgs gLstD fNil))
  (fSeq (fAsg 2 (fArgs gLstD (fCons (fVar 0) fNil)))
  (fSeq (whileD wt_levels_1 lb_levels_2 4096)
  (fRetV 1))))
noncomputable def r_levels:Fn:=runD 5 1 [] f_levels
/-- leaf_list(tree): slots 0 tree,1 found,2 level -/
noncomputable def ct_leaf_list_1:FT:=(fTb (fOp (inOp false) (fOp ixD (fVar 0) (fC (.int 0))) (fC za7)))
noncomputable def lb_leaf_list_1:FS:=(fDrop (fMut 1 gExtend (fCons (fComp (fItA (fVar 2)) (some ct_leaf_list_1) (fVar 0)) fNil)))
noncomputable def f_leaf_list:FS:=(fSeq (fAsg 1 (fArgs gLstD fNil))
  (fSeq (fFor (fItA (fCall r_levels (fCons (fVar 0) fNil))) 2 lb_leaf_list_1)
  (fRetV 1)))
noncomputable def r_leaf_list:Fn:=runD 3 1 [] f_leaf_list
/-- between(first,last): slots 0 first,1 last,2 found,3 row,4 column -/
noncomputable def zd0:FS:=(fDrop (fMut 2 gAppend (fCons (fArgs gTupD (fCons (fVar 3) (fCons (fVar 4) fNil))) fNil)))
noncomputable def zdz:FS:=(fFor (fRng2 (fCons (fOp ixD (fVar 0) (fC (.int 1))) (fCons (fOp addD (fOp ixD (fVar 1) (fC (.int 1))) (fC (.int 1))) fNil))) 4 zd0)
noncomputable def f_between:FS:=(fSeq (fAsg 2 (fArgs gLstD fNil))
  (fSeq (fIf (fTb (fOp gtD (fOp ixD (fVar 0) (fC (.int 1))) (fOp ixD (fVar 1) (fC (.int 1))))) (fRetV 2) fNext)
  (fSeq (fFor (fRng2 (fCons (fOp ixD (fVar 0) (fC (.int 0))) (fCons (fOp addD (fOp ixD (fVar 1) (fC (.int 0))) (fC (.int 1))) fNil))) 3 zdz)
  (fRetV 2))))
noncomputable def r_between:Fn:=runD 5 2 [] f_between
/-- leaf_places(leaf): slots 0 leaf -/
noncomputable def zc6:FS:=(fSeq (fIf (fTb (fOp (eqOp false) (fOp ixD (fVar 0) (fC (.int 0))) (fC (.str "ref")))) (fRet (fArgs gLstD (fCons (fOp ixD (fVar 0) (fC (.int 1))) fNil))) fNext)
  (fSeq (fIf (fTb (fOp (eqOp false) (fOp ixD (fVar 0) (fC (.int 0))) (fC (.str "area")))) (fRet (fCall r_between (fCons (fOp ixD (fOp ixD (fVar 0) (fC (.int 1))) (fC (.int 1))) (fCons (fOp ixD (fOp ixD (fVar 0) (fC (.int 2))) (fC (.int 1))) fNil)))) fNext)
  (fRet (fArgs gLstD fNil))))
noncomputable def ze0:Fn:=runD 1 1 [] zc6
/-- in_order(places): slots 0 places -/
noncomputable def f_in_order:FS:=(fRet (fArgs (g1 zeq) (fCons (fVar 0) fNil)))
noncomputable def r_in_order:Fn:=runD 1 1 [] f_in_order
/-- meant(tree): slots 0 tree,1 found,2 leaf -/
noncomputable def ze3:FS:=(fDrop (fMut 1 gExtend (fCons (fCall ze0 (fCons (fVar 2) fNil)) fNil)))
noncomputable def f_meant:FS:=(fSeq (fAsg 1 (fArgs gLstD fNil))
  (fSeq (fFor (fItA (fCall r_leaf_list (fCons (fVar 0) fNil))) 2 ze3)
  (fRet (fPure (fCall r_in_order (fCons (fVar 1) fNil))))))
noncomputable def r_meant:Fn:=runD 3 1 [] f_meant
/-- leans_of(contents): slots 0 contents,1 leans,2 place -/
noncomputable def zb7:FS:=(fIf (hid 1 (fTr (fCall zf1 (fCons (fOp ixDD (fVar 0) (fVar 2)) fNil)))) (fNPut 1 (fVar 2) (fCall r_meant (fCons (fOp ixDD (fVar 0) (fVar 2)) fNil))) fNext)
noncomputable def f_leans_of:DEnv->Option (List D×List D):=(fSeqG (fAsg 1 fDNew)
  (fNestR 1 (fFor (hid 1 (fItA (fArgs (g1 sortDD) (fCons (fVar 0) fNil)))) 2 zb7)))
noncomputable def zf6:List D->Option (List D×List D):=runG 3 1 f_leans_of
/-- law(_law_script): slots 0 _law_script,1 _law_contents_here,2 _law_due,3 _law_place,4 _law_found,5 _law_marks,6 _law_again,7 _law_k -/
noncomputable def f_law_a:FS:=(fAsg 1 (fCall zc4 (fCons (fVar 0) (fCons (fC (.int 2)) (fCons (fC (.int 40)) fNil)))))
noncomputable def lb_law_1:FS:=(fIf (fTr (fArgs (g2 isiD) (fCons (fOp ixDD (fTg (fVar 1)) (fVar 3)) (fCons (fC (.ty "tuple")) fNil)))) (fDrop (fMut 2 gAppend (fCons (fArgs gTupD (fCons (fVar 3) (fCons (fArgs (g1 zeq) (fCons (fCall (zb3 40) (fCons (fOp ixDD (fTg (fVar 1)) (fVar 3)) fNil)) fNil)) fNil))) fNil))) fNext)
noncomputable def f_law_b:FS:=(fSeq (fAsg 2 (fArgs gLstD fNil))
  (fFor (fItA (fArgs (g1 sortDD) (fCons (fTg (fVar 1)) fNil))) 3 lb_law_1))
noncomputable def lb_law_2:FS:=(fIf (fNotT (fTr (fArgs (g2 isiD) (fCons (fOp ixDD (fCo (fTg (fVar 4))) (fVar 3)) (fCons (fC (.ty "list")) fNil))))) (fRet (fC (.bl false))) fNext)
noncomputable def el_law_1:FE:=(fArgs gTupD (fCons (fVar 0) (fCons (fOp ixDD (fCo (fTg (fVar 5))) (fVar 0)) fNil)))
noncomputable def el_law_2:FE:=(fArgs gTupD (fCons (fC (.str "mark")) (fCons (fVar 0) fNil)))
noncomputable def f_law_c:FS:=(fSeq (fIf (fOrT (fNotT (fTr (fArgs (g2 isiDD) (fCons (fCo (fTg (fVar 4))) (fCons (fC (.ty "dict")) fNil))))) (fTb (fOp (eqDDD true) (fTg (fVar 1)) (fCall zc4 (fCons (fVar 0) (fCons (fC (.int 2)) (fCons (fC (.int 40)) fNil))))))) (fRet (fC (.bl false))) fNext)
  (fSeq (fFor (fItF (fTg (fVar 4))) 3 lb_law_2)
  (fSeq (fIf (fTb (fOp (eqOp true) (fComp (fItF (fTg (fVar 4))) none el_law_1) (fTg (fVar 2)))) (fRet (fC (.bl false))) fNext)
  (fAsg 5 (fComp (fRng1 (fCons (fArgs (g1 lenD) (fCons (fTg (fVar 2)) fNil)) fNil)) none el_law_2)))))
noncomputable def el_law_3:FE:=(fOp ixD (fOp ixDD (fCo (fTg (fVar 5))) (fVar 0)) (fUn negD (fC (.int 1))))
noncomputable def el_law_4:FE:=(fArgs (g1 lenD) (fCons (fOp ixDD (fCo (fTg (fVar 5))) (fVar 0)) fNil))
noncomputable def el_law_5:FE:=(fOp addD (fC (.int 1)) (fArgs (g1 lenD) (fCons (fOp ixD (fVar 0) (fC (.int 1))) fNil)))
noncomputable def f_law_d:FS:=(fSeq (fIf (fTb (fOp (eqOp true) (fComp (fItF (fTg (fVar 4))) none el_law_3) (fVar 5))) (fRet (fC (.bl false))) fNext)
  (fIf (fTb (fOp (eqOp true) (fComp (fItF (fTg (fVar 4))) none el_law_4) (fComp (fItA (fTg (fVar 2))) none el_law_5))) (fRet (fC (.bl false))) fNext))
noncomputable def el_law_6:FE:=(fArgs gTupD (fCons (fVar 0) (fCons (fOp ixDD (fCo (fVar 7)) (fVar 0)) fNil)))
noncomputable def f_law_e:FE:=(fOp (eqOp false) (fComp (fItF (fVar 6)) none el_law_6) (fTg (fVar 2)))
noncomputable def f_law:FS:=(fTail6 zf6 f_law_a f_law_b f_law_c f_law_d f_law_e 1 2 4 5 6 7 3)
noncomputable def r_law:Fn:=runD 8 1 [] f_law
end Toy
set_option maxHeartbeats 4000000
namespace Toy
open PySem L2 L4
abbrev sv (d:D):Option Sl:=some (.val d)
noncomputable def fin:Option Out->Option (Except XD Sl×List D)
 | some (.ret s _)=>some (.ok s,[])
 | some (.next _)=>some (.ok (.val .non),[])
 | _=>none
theorem fin_ret (s:Sl) (δ:DEnv):fin (some (.ret s δ))=some (.ok s,[]):=rfl
theorem fin_next (δ:DEnv):fin (some (.next δ))=some (.ok (.val .non),[]):=rfl
theorem runE {n m:Nat} {f:FS} {ds:List D} {r:Option (Except XD Sl×List D)} (h:ds.length=m) (e:fin (f (startD n [] ds))=r):runD n m [] f ds=r:=by
 rw[←e];unfold runD;rw[if_pos h]
 match f (startD n [] ds) with
 | none=>rfl
 | some (.ret s δ)=>rfl
 | some (.next δ)=>rfl
 | some (.brk δ)=>rfl
 | some (.cont δ)=>rfl
theorem zc7 {α:Type} (a:α) (δ:DEnv) (k:α->DEnv->Option Out):thenS (some (.ok a,δ)) k=k a δ:=rfl
theorem eqOp_ii (i j:Int):eqOp false (.int i) (.int j)=some (.val (.bl (decide (i=j)))):=eqOp_int false i j
theorem eqOp_nii (i j:Int):eqOp true (.int i) (.int j)=some (.val (.bl (!decide (i=j)))):=eqOp_int true i j
theorem isN_non:isND false .non .non=some (.val (.bl true)):=rfl
theorem isN_int (i:Int):isND false (.int i) .non=some (.val (.bl false)):=rfl
theorem isN_str (i:Str):isND false (.str i) .non=some (.val (.bl false)):=rfl
theorem isN_tup (i:List D):isND false (.tup i) .non=some (.val (.bl false)):=rfl
theorem notN_non:isND true .non .non=some (.val (.bl false)):=rfl
theorem notN_int (i:Int):isND true (.int i) .non=some (.val (.bl true)):=rfl
theorem notN_str (i:Str):isND true (.str i) .non=some (.val (.bl true)):=rfl
theorem notN_tup (i:List D):isND true (.tup i) .non=some (.val (.bl true)):=rfl
theorem isi_str (z:Str):isiD (.str z) (.ty "str")=some (.val (.bl true)):=rfl
theorem isi_str_int (z:Str):isiD (.str z) (.ty "int")=some (.val (.bl false)):=rfl
theorem isi_int_str (z:Int):isiD (.int z) (.ty "str")=some (.val (.bl false)):=rfl
theorem maxD_ii (i j:Int):maxD (.int i) (.int j)=some (.val (.int (max i j))):=by
 rw[maxD_int];congr 3;rw[Int.max_def];split<;>split<;>lia
theorem minD_ii (i j:Int):minD (.int i) (.int j)=some (.val (.int (min i j))):=by
 rw[minD_int];congr 3;rw[Int.min_def];split<;>split<;>lia
theorem gTup1 (a:D):gTupD [a]=some (.val (.tup [a])):=by unfold gTupD;rw[if_pos (by show 1<=sizeLine;decide)]
theorem gTup3 (a b c:D):gTupD [a,b,c]=some (.val (.tup [a,b,c])):=by unfold gTupD;rw[if_pos (by show 3<=sizeLine;decide)]
theorem gTup4 (a b c d:D):gTupD [a,b,c,d]=some (.val (.tup [a,b,c,d])):=by unfold gTupD;rw[if_pos (by show 4<=sizeLine;decide)]
theorem gLst_of (ds:List D) (h:ds.length<=100):gLstD ds=some (.own (.lst ds)):=by
 unfold gLstD;rw[if_pos (by rw[zbx];lia)]
theorem ix2_tup (a b c:D) (r:List D):ixD (.tup (a::b::c::r)) (.int 2)=some (.val c):=by
 show (atI (a::b::c::r) 2).map Sl.val=_
 rw[show (atI (a::b::c::r) (2:Int))=some c from by rw[atI_of (by decide) (by simp only[List.length_cons];lia)];rfl]
 rfl
theorem ix3_tup (a b c d:D) (r:List D):ixD (.tup (a::b::c::d::r)) (.int 3)=some (.val d):=by
 show (atI (a::b::c::d::r) 3).map Sl.val=_
 rw[show (atI (a::b::c::d::r) (3:Int))=some d from by rw[atI_of (by decide) (by simp only[List.length_cons];lia)];rfl]
 rfl
theorem g1E (g:D->Option Sl) (d:D):g1 g [d]=g d:=rfl
theorem g2E (g:D->D->Option Sl) (a b:D):g2 g [a,b]=g a b:=rfl
noncomputable def seqK (o:Option Out) (b:FS):Option Out:=o.bind fun o=>match o with | .next δ'=>b δ' | o=>some o
theorem e_seq (a b:FS) (δ:DEnv):fSeq a b δ=seqK (a δ) b:=rfl
theorem k_seq1 (b:FS) (δ:DEnv):seqK (some (.next δ)) b=b δ:=rfl
theorem k_seq2 (b:FS) (s:Sl) (δ:DEnv):seqK (some (.ret s δ)) b=some (.ret s δ):=rfl
theorem k_seq4 (b:FS) (δ:DEnv):seqK (some (.brk δ)) b=some (.brk δ):=rfl
theorem k_seq5 (b:FS) (δ:DEnv):seqK (some (.cont δ)) b=some (.cont δ):=rfl
noncomputable def ifK (o:Rs Bool) (a b:FS):Option Out:=thenS o fun p δ=>if p then a δ else b δ
theorem e_if (c:FT) (a b:FS) (δ:DEnv):fIf c a b δ=ifK (c δ) a b:=rfl
theorem k_if1 (a b:FS) (δ:DEnv):ifK (some (.ok true,δ)) a b=a δ:=rfl
theorem k_if2 (a b:FS) (δ:DEnv):ifK (some (.ok false,δ)) a b=b δ:=rfl
noncomputable def asgK (i:Nat) (o:Rs Sl):Option Out:=thenS o fun p δ=>some (.next (δ.set i (some p)))
theorem e_asg (i:Nat) (f:FE) (δ:DEnv):fAsg i f δ=asgK i (f δ):=rfl
theorem k_asg (i:Nat) (p:Sl) (δ:DEnv):asgK i (some (.ok p,δ))=some (.next (δ.set i (some p))):=rfl
noncomputable def dropK (o:Rs Sl):Option Out:=thenS o fun _ δ=>some (.next δ)
theorem e_drop (f:FE) (δ:DEnv):fDrop f δ=dropK (f δ):=rfl
theorem k_drop (p:Sl) (δ:DEnv):dropK (some (.ok p,δ))=some (.next δ):=rfl
noncomputable def retK (o:Rs Sl):Option Out:=thenS o fun p δ=>some (.ret p δ)
theorem e_ret (f:FE) (δ:DEnv):fRet f δ=retK (f δ):=rfl
theorem k_ret (p:Sl) (δ:DEnv):retK (some (.ok p,δ))=some (.ret p δ):=rfl
theorem e_retN (δ:DEnv):fRetN δ=some (.ret (.val .non) δ):=rfl
theorem e_next (δ:DEnv):fNext δ=some (.next δ):=rfl
theorem e_brk (δ:DEnv):fBrk δ=some (.brk δ):=rfl
noncomputable def retvK (i:Nat) (δ:DEnv) (o:Option (Option Sl)):Option Out:=match o with | some (some (.val d))=>some (.ret (.val d) δ) | some (some (.own d))=>some (.ret (.own d) (δ.set i none)) | _=>none
theorem e_retv (i:Nat) (δ:DEnv):fRetV i δ=retvK i δ (δ[i]?):=rfl
theorem k_retv1 (i:Nat) (δ:DEnv) (d:D):retvK i δ (some (some (.val d)))=some (.ret (.val d) δ):=rfl
theorem k_retv2 (i:Nat) (δ:DEnv) (d:D):retvK i δ (some (some (.own d)))=some (.ret (.own d) (δ.set i none)):=rfl
noncomputable def varK (i:Nat) (δ:DEnv) (o:Option (Option Sl)):Rs Sl:=match o with | some (some (.val d))=>some (.ok (.val d),δ) | some (some (.own d))=>some (.ok (.val d),δ.set i (some (.val d))) | _=>none
theorem e_var (i:Nat) (δ:DEnv):fVar i δ=varK i δ (δ[i]?):=rfl
theorem k_var1 (i:Nat) (δ:DEnv) (d:D):varK i δ (some (some (.val d)))=some (.ok (.val d),δ):=rfl
theorem k_var2 (i:Nat) (δ:DEnv) (d:D):varK i δ (some (some (.own d)))=some (.ok (.val d),δ.set i (some (.val d))):=rfl
theorem e_c (d:D) (δ:DEnv):fC d δ=some (.ok (.val d),δ):=rfl
noncomputable def opK (g:D->D->Option Sl) (o:Rs Sl) (f2:FE):Rs Sl:=o.bind fun p δ=>(f2 δ).bind fun q δ=>lift (g p.fz q.fz) δ
noncomputable def opK2 (g:D->D->Option Sl) (p:D) (o:Rs Sl):Rs Sl:=o.bind fun q δ=>lift (g p q.fz) δ
noncomputable def liK (δ:DEnv) (o:Option Sl):Rs Sl:=lift o δ
theorem e_op (g:D->D->Option Sl) (f1 f2:FE) (δ:DEnv):fOp g f1 f2 δ=opK g (f1 δ) f2:=rfl
theorem k_op1 (g:D->D->Option Sl) (f2:FE) (p:Sl) (δ:DEnv):opK g (some (.ok p,δ)) f2=opK2 g p.fz (f2 δ):=rfl
theorem k_op2 (g:D->D->Option Sl) (p:D) (q:Sl) (δ:DEnv):opK2 g p (some (.ok q,δ))=liK δ (g p q.fz):=rfl
theorem k_li (δ:DEnv) (s:Sl):liK δ (some s)=some (.ok s,δ):=rfl
noncomputable def unK (g:D->Option Sl) (o:Rs Sl):Rs Sl:=o.bind fun p δ=>lift (g p.fz) δ
theorem e_un (g:D->Option Sl) (f:FE) (δ:DEnv):fUn g f δ=unK g (f δ):=rfl
theorem k_un (g:D->Option Sl) (p:Sl) (δ:DEnv):unK g (some (.ok p,δ))=liK δ (g p.fz):=rfl
noncomputable def argK (g:List D->Option Sl) (o:Rs (List D)):Rs Sl:=o.bind fun p δ=>lift (g p) δ
theorem e_arg (g:List D->Option Sl) (r:FL) (δ:DEnv):fArgs g r δ=argK g (r δ):=rfl
theorem k_arg (g:List D->Option Sl) (p:List D) (δ:DEnv):argK g (some (.ok p,δ))=liK δ (g p):=rfl
theorem e_nil (δ:DEnv):fNil δ=some (.ok [],δ):=rfl
noncomputable def consK (o:Rs Sl) (r:FL):Rs (List D):=o.bind fun p δ=>(r δ).bind fun q δ=>some (.ok (p.fz::q),δ)
noncomputable def consK2 (d:D) (o:Rs (List D)):Rs (List D):=o.bind fun q δ=>some (.ok (d::q),δ)
theorem e_cons (f:FE) (r:FL) (δ:DEnv):fCons f r δ=consK (f δ) r:=rfl
theorem k_cons1 (r:FL) (p:Sl) (δ:DEnv):consK (some (.ok p,δ)) r=consK2 p.fz (r δ):=rfl
theorem k_cons2 (d:D) (q:List D) (δ:DEnv):consK2 d (some (.ok q,δ))=some (.ok (d::q),δ):=rfl
noncomputable def callK (F:Fn) (o:Rs (List D)):Rs Sl:=o.bind fun ds δ=>match F ds with | some (q,[])=>some (q,δ) | _=>none
noncomputable def callK2 (δ:DEnv) (o:Option (Except XD Sl×List D)):Rs Sl:=match o with | some (q,[])=>some (q,δ) | _=>none
theorem e_call (F:Fn) (r:FL) (δ:DEnv):fCall F r δ=callK F (r δ):=rfl
theorem k_call (F:Fn) (ds:List D) (δ:DEnv):callK F (some (.ok ds,δ))=callK2 δ (F ds):=rfl
theorem k_call2 (δ:DEnv) (q:Except XD Sl):callK2 δ (some (q,[]))=some (q,δ):=rfl
noncomputable def tbK (o:Rs Sl):Rs Bool:=o.bind fun p δ=>lift (blOf p.fz) δ
theorem e_tb (f:FE) (δ:DEnv):fTb f δ=tbK (f δ):=rfl
theorem k_tb (b:Bool) (δ:DEnv):tbK (some (.ok (.val (.bl b)),δ))=some (.ok b,δ):=rfl
noncomputable def trK (o:Rs Sl):Rs Bool:=o.bind fun p δ=>lift (truD p.fz) δ
theorem e_tr (f:FE) (δ:DEnv):fTr f δ=trK (f δ):=rfl
theorem k_tr (b:Bool) (δ:DEnv):trK (some (.ok (.val (.bl b)),δ))=some (.ok b,δ):=rfl
theorem k_tr2 (i:Int) (δ:DEnv):trK (some (.ok (.val (.int i)),δ))=some (.ok (decide (i ≠ 0)),δ):=rfl
theorem k_tr3 (ds:List D) (δ:DEnv):trK (some (.ok (.val (.lst ds)),δ))=some (.ok (!ds.isEmpty),δ):=rfl
noncomputable def notK (o:Rs Bool):Rs Bool:=o.bind fun p δ=>some (.ok (!p),δ)
theorem e_not (f:FT) (δ:DEnv):fNotT f δ=notK (f δ):=rfl
theorem k_not (b:Bool) (δ:DEnv):notK (some (.ok b,δ))=some (.ok (!b),δ):=rfl
noncomputable def andK (o:Rs Bool) (b:FT):Rs Bool:=o.bind fun p δ=>if p then b δ else some (.ok false,δ)
theorem e_and (a b:FT) (δ:DEnv):fAndT a b δ=andK (a δ) b:=rfl
theorem k_and1 (b:FT) (δ:DEnv):andK (some (.ok true,δ)) b=b δ:=rfl
theorem k_and2 (b:FT) (δ:DEnv):andK (some (.ok false,δ)) b=some (.ok false,δ):=rfl
noncomputable def orK (o:Rs Bool) (b:FT):Rs Bool:=o.bind fun p δ=>if p then some (.ok true,δ) else b δ
theorem e_or (a b:FT) (δ:DEnv):fOrT a b δ=orK (a δ) b:=rfl
theorem k_or1 (b:FT) (δ:DEnv):orK (some (.ok true,δ)) b=some (.ok true,δ):=rfl
theorem k_or2 (b:FT) (δ:DEnv):orK (some (.ok false,δ)) b=b δ:=rfl
noncomputable def andvK (o:Rs Sl) (b:FE):Rs Sl:=o.bind fun p δ=>match blOf p.fz with | some true=>b δ | some false=>some (.ok (.val (.bl false)),δ) | none=>none
theorem e_andv (a b:FE) (δ:DEnv):fAndV a b δ=andvK (a δ) b:=rfl
theorem k_andv1 (b:FE) (δ:DEnv):andvK (some (.ok (.val (.bl true)),δ)) b=b δ:=rfl
theorem k_andv2 (b:FE) (δ:DEnv):andvK (some (.ok (.val (.bl false)),δ)) b=some (.ok (.val (.bl false)),δ):=rfl
noncomputable def orvK (o:Rs Sl) (b:FE):Rs Sl:=o.bind fun p δ=>match blOf p.fz with | some false=>b δ | some true=>some (.ok (.val (.bl true)),δ) | none=>none
theorem e_orv (a b:FE) (δ:DEnv):fOrV a b δ=orvK (a δ) b:=rfl
theorem k_orv1 (b:FE) (δ:DEnv):orvK (some (.ok (.val (.bl true)),δ)) b=some (.ok (.val (.bl true)),δ):=rfl
theorem k_orv2 (b:FE) (δ:DEnv):orvK (some (.ok (.val (.bl false)),δ)) b=b δ:=rfl
noncomputable def notvK (o:Rs Sl):Rs Sl:=o.bind fun p δ=>lift ((blOf p.fz).map fun k=>.val (.bl (!k))) δ
theorem e_notv (a:FE) (δ:DEnv):fNotV a δ=notvK (a δ):=rfl
theorem k_notv (b:Bool) (δ:DEnv):notvK (some (.ok (.val (.bl b)),δ))=some (.ok (.val (.bl (!b))),δ):=rfl
noncomputable def ifeK (o:Rs Bool) (a b:FE):Rs Sl:=o.bind fun p δ=>if p then a δ else b δ
theorem e_ife (c:FT) (a b:FE) (δ:DEnv):fIfE c a b δ=ifeK (c δ) a b:=rfl
theorem k_ife1 (a b:FE) (δ:DEnv):ifeK (some (.ok true,δ)) a b=a δ:=rfl
theorem k_ife2 (a b:FE) (δ:DEnv):ifeK (some (.ok false,δ)) a b=b δ:=rfl
noncomputable def forK (i:Nat) (F:FS) (o:Rs (List D)):Option Out:=thenS o fun ds δ=>forD i F ds δ
theorem e_for (src:FL) (i:Nat) (F:FS) (δ:DEnv):fFor src i F δ=forK i F (src δ):=rfl
theorem k_for (i:Nat) (F:FS) (ds:List D) (δ:DEnv):forK i F (some (.ok ds,δ))=forD i F ds δ:=rfl
noncomputable def itK (o:Rs Sl):Rs (List D):=o.bind fun p δ=>lift (itemsD p.fz) δ
theorem e_it (f:FE) (δ:DEnv):fItA f δ=itK (f δ):=rfl
theorem k_itl (ds:List D) (δ:DEnv):itK (some (.ok (.val (.lst ds)),δ))=some (.ok ds,δ):=rfl
theorem k_ito (ds:List D) (δ:DEnv):itK (some (.ok (.own (.lst ds)),δ))=some (.ok ds,δ):=rfl
theorem k_itt (ds:List D) (δ:DEnv):itK (some (.ok (.val (.tup ds)),δ))=some (.ok ds,δ):=rfl
theorem d_get0 (a:Option Sl) (l:DEnv):(a::l)[0]? = some a:=rfl
theorem d_getS (a:Option Sl) (l:DEnv) (i:Nat):(a::l)[i+1]? = l[i]? := rfl
theorem d_set0 (a b:Option Sl) (l:DEnv):(a::l).set 0 b=b::l:=rfl
theorem d_setS (a b:Option Sl) (l:DEnv) (i:Nat):(a::l).set (i+1) b=a::l.set i b:=rfl
noncomputable def evA:=And.intro @fin_ret <| And.intro @fin_next <| And.intro @e_seq <| And.intro @k_seq1 <| And.intro @k_seq2 <| And.intro @k_seq4 <| And.intro @k_seq5 <| And.intro @e_if <| And.intro @k_if1 <| And.intro @k_if2 <| And.intro @e_asg <| And.intro @k_asg <| And.intro @e_drop <| And.intro @k_drop <| And.intro @e_ret <| And.intro @k_ret <| And.intro @e_retN <| And.intro @e_next <| And.intro @e_brk <| And.intro @e_retv <| And.intro @k_retv1 <| And.intro @k_retv2 <| And.intro @e_var <| And.intro @k_var1 <| And.intro @k_var2 <| And.intro @e_c <| And.intro @e_op <| And.intro @k_op1 <| And.intro @k_op2 <| And.intro @k_li <| And.intro @e_un <| And.intro @k_un <| And.intro @e_arg <| And.intro @k_arg <| And.intro @e_nil <| And.intro @e_cons <| And.intro @k_cons1 <| And.intro @k_cons2 <| And.intro @e_call <| And.intro @k_call <| And.intro @k_call2 <| And.intro @e_tb <| And.intro @k_tb <| And.intro @e_tr <| And.intro @k_tr <| And.intro @k_tr2 <| And.intro @k_tr3 <| And.intro @e_not <| And.intro @k_not <| And.intro @e_and <| And.intro @k_and1 <| And.intro @k_and2 <| And.intro @e_or <| And.intro @k_or1 <| And.intro @k_or2 <| And.intro @e_andv <| And.intro @k_andv1 <| And.intro @k_andv2 <| And.intro @e_orv <| And.intro @k_orv1 <| And.intro @k_orv2 <| And.intro @e_notv <| And.intro @k_notv <| And.intro @e_ife <| And.intro @k_ife1 <| And.intro @k_ife2 <| And.intro @e_for <| And.intro @k_for <| And.intro @e_it <| And.intro @k_itl <| And.intro @k_ito <| And.intro @k_itt <| And.intro @d_get0 <| And.intro @d_getS <| And.intro @d_set0 <| And.intro @d_setS <| And.intro @fz_val <| And.intro @fz_own <| And.intro @fz_lnt <| And.intro @addD_int <| And.intro @subD_int <| And.intro @modD_int <| And.intro @fdivD_int <| And.intro @ltD_int <| And.intro @leD_int <| And.intro @gtD_int <| And.intro @geD_int <| And.intro @negD_int <| And.intro @maxD_ii <| And.intro @minD_ii <| And.intro @eqOp_ii <| And.intro @eqOp_nii <| And.intro @ix0_tup <| And.intro @ix1_tup <| And.intro @ix2_tup <| And.intro @ix3_tup <| And.intro @isi_tup <| And.intro @isi_lst <| And.intro @isi_int <| And.intro @isi_int_bool <| And.intro @isi_bl <| And.intro @isi_str <| And.intro @isi_str_int <| And.intro @isi_int_str <| And.intro @gTup1 <| And.intro @gTup2 <| And.intro @gTup3 <| And.intro @gTup4 <| And.intro @g1E <| And.intro @g2E <| And.intro @isN_non <| And.intro @isN_int <| And.intro @isN_str <| And.intro @isN_tup <| And.intro @notN_non <| And.intro @notN_int <| And.intro @notN_str <| And.intro @notN_tup <| And.intro @decide_eq_true <| And.intro @decide_eq_false <| And.intro @decide_true <| And.intro @decide_false <| And.intro @Bool.not_true <| And.intro @Bool.not_false <| @mulD_int
end Toy
namespace Toy
open PySem L2 L4
noncomputable def pureTK (δ:DEnv) (o:Rs Bool):Rs Bool:=match o with
 | some (.ok s,_)=>some (.ok s,δ)
 | _=>none
theorem e_pureT (c:FT) (δ:DEnv):fPureT c δ=pureTK δ (c (frzE δ)):=rfl
theorem k_pureT (δ δ':DEnv) (b:Bool):pureTK δ (some (.ok b,δ'))=some (.ok b,δ):=rfl
noncomputable def pureK (f:FE) (δ:DEnv) (o:Rs Sl):Rs Sl:=match o with
 | some (.ok s,_)=>if s.flat=true then some (.ok s,δ) else f δ
 | _=>none
theorem e_pure (f:FE) (δ:DEnv):fPure f δ=pureK f δ (f (frzE δ)):=rfl
theorem k_pureV (f:FE) (δ δ':DEnv) (d:D) (h:noLst d=true):pureK f δ (some (.ok (.val d),δ'))=some (.ok (.val d),δ):=by
 show (if noLst d=true then _ else _)=_
 rw[if_pos h]
theorem k_pureI (f:FE) (δ δ':DEnv) (i:Int):pureK f δ (some (.ok (.val (.int i)),δ'))=some (.ok (.val (.int i)),δ):=k_pureV f δ δ' _ (by simp [noLst])
theorem k_pureB (f:FE) (δ δ':DEnv) (i:Bool):pureK f δ (some (.ok (.val (.bl i)),δ'))=some (.ok (.val (.bl i)),δ):=k_pureV f δ δ' _ (by simp [noLst])
theorem k_pureS (f:FE) (δ δ':DEnv) (i:Str):pureK f δ (some (.ok (.val (.str i)),δ'))=some (.ok (.val (.str i)),δ):=k_pureV f δ δ' _ (by simp [noLst])
theorem k_pureN (f:FE) (δ δ':DEnv):pureK f δ (some (.ok (.val .non),δ'))=some (.ok (.val .non),δ):=k_pureV f δ δ' _ (by simp [noLst])
theorem frz0:frzE []=[]:=rfl
theorem frzC (o:Option Sl) (l:DEnv):frzE (o::l)=frzS o::frzE l:=rfl
theorem frzSn:frzS none=none:=rfl
theorem frzSv (d:D):frzS (some (.val d))=some (.val d):=rfl
theorem frzSo (d:D):frzS (some (.own d))=some (.val d):=rfl
theorem frzSl (d:D):frzS (some (.lnt d))=some (.val d):=rfl
noncomputable def forCK (i:Nat) (F:FS) (ds:List D) (o:Option Out):Option Out:=o.bind fun o=>match o with
  | .next δ'=>forD i F ds δ'
  | .cont δ'=>forD i F ds δ'
  | .brk δ'=>some (.next δ')
  | .ret s δ'=>some (.ret s δ')
theorem e_forN (i:Nat) (F:FS) (δ:DEnv):forD i F [] δ=some (.next δ):=rfl
theorem e_forC (i:Nat) (F:FS) (d:D) (ds:List D) (δ:DEnv):forD i F (d::ds) δ=forCK i F ds (F (δ.set i (some (.val d)))):=by rw[forD];rfl
theorem k_forC1 (i:Nat) (F:FS) (ds:List D) (δ:DEnv):forCK i F ds (some (.next δ))=forD i F ds δ:=rfl
theorem k_forC2 (i:Nat) (F:FS) (ds:List D) (δ:DEnv):forCK i F ds (some (.cont δ))=forD i F ds δ:=rfl
theorem k_forC3 (i:Nat) (F:FS) (ds:List D) (δ:DEnv):forCK i F ds (some (.brk δ))=some (.next δ):=rfl
theorem k_forC4 (i:Nat) (F:FS) (ds:List D) (s:Sl) (δ:DEnv):forCK i F ds (some (.ret s δ))=some (.ret s δ):=rfl
noncomputable def rngK (o:Rs (List D)):Rs (List D):=o.bind fun p δ=>lift (rng1D p) δ
theorem e_rng1 (r:FL) (δ:DEnv):fRng1 r δ=rngK (r δ):=rfl
theorem k_rng1 (n:Int) (δ:DEnv) (h0:0<=n) (h:n<4000000000):rngK (some (.ok [.int n],δ))=some (.ok (rngD 0 n.toNat),δ):=by
 unfold rngK
 rw[Rs.bind_ok]
 have:rng1D [.int n]=some (rngD 0 n.toNat):=by
  unfold rng1D
  simp only[]
  rw[if_pos (by constructor<;>lia)]
 rw[this];rfl
noncomputable def siK1 (j:Nat) (fk:FE) (o:Rs Sl):Option Out:=thenS o fun p δ=>match δ[j]? with
 | some (some _)=>thenS (fk δ) fun q δ=>setD j p.fz q.fz δ
 | _=>none
noncomputable def siK2 (j:Nat) (fk:FE) (p:D) (δ:DEnv) (o:Option (Option Sl)):Option Out:=match o with
 | some (some _)=>thenS (fk δ) fun q δ=>setD j p q.fz δ
 | _=>none
noncomputable def siK3 (j:Nat) (p:D) (o:Rs Sl):Option Out:=thenS o fun q δ=>setD j p q.fz δ
theorem e_si (j:Nat) (fk fe:FE) (δ:DEnv):fSetI j fk fe δ=siK1 j fk (fe δ):=rfl
theorem k_si1 (j:Nat) (fk:FE) (p:Sl) (δ:DEnv):siK1 j fk (some (.ok p,δ))=siK2 j fk p.fz δ (δ[j]?):=rfl
theorem k_si2 (j:Nat) (fk:FE) (p:D) (δ:DEnv) (s:Sl):siK2 j fk p δ (some (some s))=siK3 j p (fk δ):=rfl
theorem k_si3 (j:Nat) (p:D) (q:Sl) (δ:DEnv):siK3 j p (some (.ok q,δ))=setD j p q.fz δ:=rfl
theorem intS_int (i:Int):intSD (.int i)=some (.val (.int i)):=rfl
theorem intS_bl (b:Bool):intSD (.bl b)=some (.val (.int (if b then 1 else 0))):=rfl
theorem eqOp_bb (i j:Bool):eqOp false (.bl i) (.bl j)=some (.val (.bl (i == j))):=eqOp_bl false i j
theorem eqOp_nbb (i j:Bool):eqOp true (.bl i) (.bl j)=some (.val (.bl (!(i == j)))):=eqOp_bl true i j
theorem isi_non_str:isiD .non (.ty "str")=some (.val (.bl false)):=rfl
noncomputable def evB:=And.intro @e_pureT <| And.intro @k_pureT <| And.intro @e_pure <| And.intro @k_pureI <| And.intro @k_pureB <| And.intro @k_pureS <| And.intro @k_pureN <| And.intro @frz0 <| And.intro @frzC <| And.intro @frzSn <| And.intro @frzSv <| And.intro @frzSo <| And.intro @frzSl <| And.intro @e_forN <| And.intro @e_forC <| And.intro @k_forC1 <| And.intro @k_forC2 <| And.intro @k_forC3 <| And.intro @k_forC4 <| And.intro @e_rng1 <| And.intro @e_si <| And.intro @k_si1 <| And.intro @k_si2 <| And.intro @k_si3 <| And.intro @intS_int <| And.intro @intS_bl <| And.intro @eqOp_bb <| And.intro @eqOp_nbb <| @isi_non_str
end Toy
namespace Toy
open PySem L2 L4
noncomputable def mutK1 (i:Nat) (g:List D->List D->Option (List D×D)) (r:FL) (δ:DEnv) (o:Option (Option Sl)):Rs Sl:=match o with
 | some (some s)=>if isL s.fz=true then (r δ).bind (mutD i g) else none
 | _=>none
noncomputable def mutK2 (i:Nat) (g:List D->List D->Option (List D×D)) (o:Rs (List D)):Rs Sl:=o.bind (mutD i g)
noncomputable def mutK3 (i:Nat) (g:List D->List D->Option (List D×D)) (es:List D) (δ:DEnv) (o:Option (Option Sl)):Rs Sl:=match o with
 | some (some s)=>if s.isO=true then (match s.fz with
  | .lst ds=>(match g ds es with | some q=>some (.ok (.val q.2),δ.set i (some (s.now (.lst q.1)))) | none=>none)
  | _=>none) else none
 | _=>none
noncomputable def mutK4 (i:Nat) (δ:DEnv) (o:Option (List D×D)):Rs Sl:=match o with | some q=>some (.ok (.val q.2),δ.set i (some (.own (.lst q.1)))) | none=>none
theorem e_mut (i:Nat) (g:List D->List D->Option (List D×D)) (r:FL) (δ:DEnv):fMut i g r δ=mutK1 i g r δ (δ[i]?):=rfl
theorem e_mut0 (i:Nat) (g:List D->List D->Option (List D×D)) (δ:DEnv):fMut0 i g δ=mutK1 i g fNil δ (δ[i]?):=rfl
theorem k_mut1 (i:Nat) (g:List D->List D->Option (List D×D)) (r:FL) (δ:DEnv) (ds:List D):mutK1 i g r δ (some (some (.own (.lst ds))))=mutK2 i g (r δ):=rfl
theorem k_mut2 (i:Nat) (g:List D->List D->Option (List D×D)) (es:List D) (δ:DEnv):mutK2 i g (some (.ok es,δ))=mutK3 i g es δ (δ[i]?):=rfl
theorem k_mut3 (i:Nat) (g:List D->List D->Option (List D×D)) (es:List D) (δ:DEnv) (ds:List D):mutK3 i g es δ (some (some (.own (.lst ds))))=mutK4 i δ (g ds es):=by
 unfold mutK3 mutK4
 simp only[Sl.isO,fz_own,if_true]
 cases g ds es<;>rfl
theorem k_mut4 (i:Nat) (δ:DEnv) (q:List D) (d:D):mutK4 i δ (some (q,d))=some (.ok (.val d),δ.set i (some (.own (.lst q)))):=rfl
theorem gApp_of (ds:List D) (d:D) (h:ds.length<=10000):gAppend ds [d]=some (ds++[d],.non):=by
 show (if ds.length<sizeLine then _ else _)=_
 rw[if_pos (by rw[zbx];lia)]
noncomputable def slK1 (i:Nat) (l h:FO) (δ:DEnv) (o:Option (Option Sl)):Rs Sl:=match o with
 | some (some _)=>(l δ).bind fun q δ=>(h δ).bind fun r δ=>(match δ[i]? with
  | some (some s)=>if s.isO=true then (match s.fz with | .lst ds=>some (.ok (.own (.lst (cutD ds q r))),δ) | _=>none) else none
  | _=>none)
 | _=>none
noncomputable def slK4 (q r:Option Int) (δ:DEnv) (o:Option (Option Sl)):Rs Sl:=match o with
 | some (some s)=>if s.isO=true then (match s.fz with | .lst ds=>some (.ok (.own (.lst (cutD ds q r))),δ) | _=>none) else none
 | _=>none
noncomputable def slK2 (i:Nat) (h:FO) (o:Rs (Option Int)):Rs Sl:=o.bind fun q δ=>(h δ).bind fun r δ=>slK4 q r δ (δ[i]?)
noncomputable def slK3 (i:Nat) (q:Option Int) (o:Rs (Option Int)):Rs Sl:=o.bind fun r δ=>slK4 q r δ (δ[i]?)
theorem e_slO (i:Nat) (l h:FO) (δ:DEnv):fSlO i l h δ=slK1 i l h δ (δ[i]?):=rfl
theorem k_slO1 (i:Nat) (l h:FO) (δ:DEnv) (s:Sl):slK1 i l h δ (some (some s))=slK2 i h (l δ):=rfl
theorem k_slO2 (i:Nat) (h:FO) (q:Option Int) (δ:DEnv):slK2 i h (some (.ok q,δ))=slK3 i q (h δ):=rfl
theorem k_slO3 (i:Nat) (q r:Option Int) (δ:DEnv):slK3 i q (some (.ok r,δ))=slK4 q r δ (δ[i]?):=rfl
theorem k_slO4 (q r:Option Int) (δ:DEnv) (ds:List D):slK4 q r δ (some (some (.own (.lst ds))))=some (.ok (.own (.lst (cutD ds q r))),δ):=rfl
noncomputable def partK (o:Rs Sl):Rs (Option Int):=o.bind fun p δ=>lift (intOf p.fz) δ
theorem e_part (f:FE) (δ:DEnv):fPart f δ=partK (f δ):=rfl
theorem k_part (i:Int) (δ:DEnv):partK (some (.ok (.val (.int i)),δ))=some (.ok (some i),δ):=rfl
theorem e_nop (δ:DEnv):fNoP δ=some (.ok none,δ):=rfl
noncomputable def gslK1 (g:D->Option Int->Option Int->Option Sl) (l h:FO) (o:Rs Sl):Rs Sl:=o.bind fun p δ=>(l δ).bind fun q δ=>(h δ).bind fun r δ=>lift (g p.fz q r) δ
noncomputable def gslK2 (g:D->Option Int->Option Int->Option Sl) (p:D) (h:FO) (o:Rs (Option Int)):Rs Sl:=o.bind fun q δ=>(h δ).bind fun r δ=>lift (g p q r) δ
noncomputable def gslK3 (g:D->Option Int->Option Int->Option Sl) (p:D) (q:Option Int) (o:Rs (Option Int)):Rs Sl:=o.bind fun r δ=>lift (g p q r) δ
theorem e_sl (g:D->Option Int->Option Int->Option Sl) (f:FE) (l h:FO) (δ:DEnv):fSl g f l h δ=gslK1 g l h (f δ):=rfl
theorem k_sl1 (g:D->Option Int->Option Int->Option Sl) (l h:FO) (p:Sl) (δ:DEnv):gslK1 g l h (some (.ok p,δ))=gslK2 g p.fz h (l δ):=rfl
theorem k_sl2 (g:D->Option Int->Option Int->Option Sl) (p:D) (h:FO) (q:Option Int) (δ:DEnv):gslK2 g p h (some (.ok q,δ))=gslK3 g p q (h δ):=rfl
theorem k_sl3 (g:D->Option Int->Option Int->Option Sl) (p:D) (q r:Option Int) (δ:DEnv):gslK3 g p q (some (.ok r,δ))=liK δ (g p q r):=rfl
theorem listD_l (ds:List D):listD (.lst ds)=some (.own (.lst ds)):=rfl
theorem listD_t (ds:List D):listD (.tup ds)=some (.own (.lst ds)):=rfl
theorem tupD_l (ds:List D):tupleD (.lst ds)=some (.val (.tup ds)):=rfl
theorem gLst0:gLstD []=some (.own (.lst [])):=gLst_of _ (by simp)
theorem gLst1 (a:D):gLstD [a]=some (.own (.lst [a])):=gLst_of _ (by simp)
theorem gLst2 (a b:D):gLstD [a,b]=some (.own (.lst [a,b])):=gLst_of _ (by simp)
theorem gLst3 (a b c:D):gLstD [a,b,c]=some (.own (.lst [a,b,c])):=gLst_of _ (by simp)
noncomputable def evC:=And.intro @e_mut <| And.intro @e_mut0 <| And.intro @k_mut1 <| And.intro @k_mut2 <| And.intro @k_mut3 <| And.intro @k_mut4 <| And.intro @e_slO <| And.intro @k_slO1 <| And.intro @k_slO2 <| And.intro @k_slO3 <| And.intro @k_slO4 <| And.intro @e_part <| And.intro @k_part <| And.intro @e_nop <| And.intro @e_sl <| And.intro @k_sl1 <| And.intro @k_sl2 <| And.intro @k_sl3 <| And.intro @listD_l <| And.intro @listD_t <| And.intro @tupD_l <| And.intro @gLst0 <| And.intro @gLst1 <| And.intro @gLst2 <| And.intro @gLst3 <| @len_lst
end Toy
namespace Toy
open PySem L2 L4
noncomputable def chK1 (g g':D->D->Option Sl) (f2 f3:FE) (o:Rs Sl):Rs Sl:=o.bind fun p δ=>(f2 δ).bind fun q δ=>match g p.fz q.fz with
 | some (.val (.bl true))=>(f3 δ).bind fun r δ=>lift (g' q.fz r.fz) δ
 | some (.val (.bl false))=>some (.ok (.val (.bl false)),δ)
 | _=>none
noncomputable def chK2 (g g':D->D->Option Sl) (p:D) (f3:FE) (o:Rs Sl):Rs Sl:=o.bind fun q δ=>match g p q.fz with
 | some (.val (.bl true))=>(f3 δ).bind fun r δ=>lift (g' q.fz r.fz) δ
 | some (.val (.bl false))=>some (.ok (.val (.bl false)),δ)
 | _=>none
noncomputable def chK3 (g':D->D->Option Sl) (q:D) (f3:FE) (δ:DEnv) (o:Option Sl):Rs Sl:=match o with
 | some (.val (.bl true))=>(f3 δ).bind fun r δ=>lift (g' q r.fz) δ
 | some (.val (.bl false))=>some (.ok (.val (.bl false)),δ)
 | _=>none
theorem e_ch (g g':D->D->Option Sl) (f1 f2 f3:FE) (δ:DEnv):fChain g g' f1 f2 f3 δ=chK1 g g' f2 f3 (f1 δ):=rfl
theorem k_ch1 (g g':D->D->Option Sl) (f2 f3:FE) (p:Sl) (δ:DEnv):chK1 g g' f2 f3 (some (.ok p,δ))=chK2 g g' p.fz f3 (f2 δ):=rfl
theorem k_ch2 (g g':D->D->Option Sl) (p:D) (f3:FE) (q:Sl) (δ:DEnv):chK2 g g' p f3 (some (.ok q,δ))=chK3 g' q.fz f3 δ (g p q.fz):=rfl
theorem k_ch3 (g':D->D->Option Sl) (q:D) (f3:FE) (δ:DEnv):chK3 g' q f3 δ (some (.val (.bl true)))=opK2 g' q (f3 δ):=rfl
theorem k_ch4 (g':D->D->Option Sl) (q:D) (f3:FE) (δ:DEnv):chK3 g' q f3 δ (some (.val (.bl false)))=some (.ok (.val (.bl false)),δ):=rfl
noncomputable def evD:=And.intro @e_ch <| And.intro @k_ch1 <| And.intro @k_ch2 <| And.intro @k_ch3 <| @k_ch4
end Toy
namespace Toy
open PySem L2 L4
abbrev P2:=Int×Int
noncomputable def L (ps:List P2):D:=.lst (ps.map zaj)
noncomputable def dG (ks:List P2) (g:P2->D):D:=.dct (ks.map zaj) (ks.map g)
noncomputable abbrev fd (l:List P2):D:=dG l fun _=>.bl true
theorem isKey_pl (p q:P2):isKey [p.1,p.2] (zaj q)=decide (q=p):=by
 show decide ([q.1,q.2]=[p.1,p.2])=_
 apply decide_eq_decide.mpr
 constructor
 ·intro e
  simp only[List.cons.injEq,and_true] at e
  exact Prod.ext e.1 e.2
 ·intro e;rw[e]
theorem look_pl (g:P2->D) (p:P2):∀ ks:List P2,lookD (ks.map zaj) (ks.map g) [p.1,p.2]=if p ∈ks then some (g p) else none
 | []=>rfl
 | q::ks=>by
  rw[List.map_cons,List.map_cons,lookD,isKey_pl]
  by_cases e:q=p
  ·rw[if_pos (decide_eq_true e),if_pos (by rw[e];exact List.mem_cons_self),e]
  ·rw[if_neg (by rw[decide_eq_true_eq];exact e),look_pl g p ks]
   by_cases m:p ∈ks
   ·rw[if_pos m,if_pos (List.mem_cons_of_mem _ m)]
   ·rw[if_neg m,if_neg fun z=>(List.mem_cons.mp z).elim (fun z=>e z.symm) m]
theorem ix_pl {g:P2->D} {ks:List P2} {p:P2} (m:p ∈ks):ixDD (dG ks g) (zaj p)=some (.val (g p)):=by
 show (if [p.1,p.2] ≠ [] then (match lookD (ks.map zaj) (ks.map g) [p.1,p.2] with | some v=>some (Sl.val v) | none=>none) else none)=_
 rw[if_pos (by simp),look_pl,if_pos m]
theorem any_pl (p:P2) (l:List P2):(l.map zaj).any (isKey [p.1,p.2])=decide (p ∈l):=by
 induction l with
 | nil=>rfl
 | cons q l ih=>
  rw[List.map_cons,List.any_cons,ih,isKey_pl]
  by_cases e:q=p
  ·rw[decide_eq_true e,Bool.true_or];exact (decide_eq_true (by rw[e];exact List.mem_cons_self)).symm
  ·rw[decide_eq_false e,Bool.false_or]
   apply decide_eq_decide.mpr
   exact⟨List.mem_cons_of_mem _,fun z=>(List.mem_cons.mp z).resolve_left fun z=>e z.symm⟩
theorem noL (ps:List P2):noLsts (ps.map zaj)=true:=by
 induction ps with
 | nil=>simp [noLsts]
 | cons p ps ih=>rw[List.map_cons,noLsts,ih];simp [zaj,noLst,noLsts]
theorem pv_L (f:FE) (δ δ':DEnv) (ps:List P2):pureK f δ (some (.ok (.own (L ps)),δ'))=some (.ok (.own (L ps)),δ):=by
 simp only[pureK,Sl.flat,L,noL,if_true]
end Toy
namespace Toy
open PySem L2 L4
noncomputable def dF (ks:List P2) (g:P2->D):D:=.dcf (ks.map zaj) (ks.map g)
theorem dG_congr {ks:List P2} {g h:P2->D} (e:∀ k ∈ks,g k=h k):dG ks g=dG ks h:=by
 unfold dG;rw[List.map_congr_left e]
noncomputable def upP (g:P2->D) (p:P2) (d:D):P2->D:=fun q=>if q=p then d else g q
theorem dG_new {ks:List P2} {g:P2->D} {p:P2} (d:D) (m:p ∉ ks):D.dct (ks.map zaj++[zaj p]) (ks.map g++[d])=dG (ks++[p]) (upP g p d):=by
 unfold dG
 rw[List.map_append,List.map_append]
 have e:ks.map (upP g p d)=ks.map g:=List.map_congr_left fun k mk=>by unfold upP;rw[if_neg fun z:k=p=>m (z ▸ mk)]
 rw[e]
 simp [upP]
theorem repl_pl {g:P2->D} {p:P2} (d:D):∀ {ks:List P2},replD (ks.map zaj) (ks.map g) [p.1,p.2] d=ks.map (upP g p d)
 | []=>rfl
 | q::ks=>by
  rw[List.map_cons,List.map_cons,List.map_cons,replD,isKey_pl,repl_pl d]
  unfold upP
  by_cases e:q=p
  ·rw[if_pos (decide_eq_true e),if_pos e]
  ·rw[if_neg (by rw[decide_eq_true_eq];exact e),if_neg e]
section
variable {ks:List P2} {g:P2->D} {p:P2} {j:Nat} {δ δ1 δ2:DEnv} {fk fe:FE} {fl:FL} {q:Sl} {d:D} {es:List D}
theorem pd_new (e1:fe δ=some (.ok q,δ1)) (hj1:δ1[j]? = some (some (.own (dG ks g)))) (e2:fk δ1=some (.ok (.val (zaj p)),δ2)) (hj:δ2[j]? = some (some (.own (dG ks g)))) (m:p ∉ ks) (hl:ks.length<=100000):
  fPutD j fk fe δ=some (.next (δ2.set j (some (.own (dG (ks++[p]) (upP g p q.fz)))))):=by
 unfold fPutD
 rw[e1,zc7,hj1]
 show thenS (fk δ1) _=_
 rw[e2,zc7]
 unfold putDD
 rw[hj]
 show (if [p.1,p.2] ≠ []/\(ks.map zaj).length<sizeLine then (if (ks.map zaj).any (isKey [p.1,p.2])=true then _ else some (Out.next (δ2.set j (some (Sl.own (.dct (ks.map zaj++[zaj p]) (ks.map g++[q.fz]))))))) else none)=_
 rw[if_pos ⟨by simp,by rw[List.length_map,zbx];lia⟩,any_pl,decide_eq_false m,if_neg (by decide),dG_new _ m]
theorem pd_old (e1:fe δ=some (.ok q,δ1)) (hj1:δ1[j]? = some (some (.own (dG ks g)))) (e2:fk δ1=some (.ok (.val (zaj p)),δ2)) (hj:δ2[j]? = some (some (.own (dG ks g)))) (m:p ∈ks) (hl:ks.length<=100000):
  fPutD j fk fe δ=some (.next (δ2.set j (some (.own (dG ks (upP g p q.fz)))))):=by
 unfold fPutD
 rw[e1,zc7,hj1]
 show thenS (fk δ1) _=_
 rw[e2,zc7]
 unfold putDD
 rw[hj]
 show (if [p.1,p.2] ≠ []/\(ks.map zaj).length<sizeLine then (if (ks.map zaj).any (isKey [p.1,p.2])=true then some (Out.next (δ2.set j (some (Sl.own (.dct (ks.map zaj) (replD (ks.map zaj) (ks.map g) [p.1,p.2] q.fz)))))) else _) else none)=_
 rw[if_pos ⟨by simp,by rw[List.length_map,zbx];lia⟩,any_pl,decide_eq_true m,if_pos rfl,repl_pl]
 rfl
theorem np_of (e1:hid j fe δ=some (.ok (.own (.lst es)),δ1)) (e2:hid j fk δ1=some (.ok (.val (zaj p)),δ2)) (hj:δ2[j]? = some (some (.own (dG ks g)))) (m:p ∉ ks) (hl:ks.length<=100000):
  fNPut j fk fe δ=some (.next (δ2.set j (some (.own (dG (ks++[p]) (upP g p (.lst es))))))):=by
 unfold fNPut
 rw[e1,zc7]
 show thenS (hid j fk δ1) _=_
 rw[e2,zc7]
 unfold nputD
 rw[hj]
 show (if [p.1,p.2] ≠ []/\(ks.map zaj).length<sizeLine/\(ks.map zaj).any (isKey [p.1,p.2])=false then some (Out.next (δ2.set j (some (Sl.own (.dct (ks.map zaj++[zaj p]) (ks.map g++[.lst es])))))) else none)=_
 rw[if_pos ⟨by simp,by rw[List.length_map,zbx];lia,by rw[any_pl,decide_eq_false m]⟩,dG_new _ m]
end
noncomputable def hidK {α:Type} (j:Nat) (o:Option (Option Sl)) (r:Rs α):Rs α:=match r with
 | some (q,δ1)=>some (q,δ1.set j (o.getD none))
 | none=>none
theorem e_hid {α:Type} (j:Nat) (f:DEnv->Rs α) (δ:DEnv):hid j f δ=hidK j (δ[j]?) (f (δ.set j none)):=by unfold hid hidK;rfl
theorem k_hid {α:Type} (j:Nat) (s:Option Sl) (q:Except XD α) (δ1:DEnv):hidK j (some s) (some (q,δ1))=some (q,δ1.set j s):=rfl
noncomputable def coK (o:Rs Sl):Rs Sl:=match o with
 | some (.ok s,δ')=>some (.ok (coS s),δ')
 | r=>r
theorem e_co (f:FE) (δ:DEnv):fCo f δ=coK (f δ):=rfl
theorem k_co1 (ks:List P2) (g:P2->D) (δ:DEnv):coK (some (.ok (.val (dF ks g)),δ))=some (.ok (.val (dG ks g)),δ):=rfl
theorem k_co2 (ks:List P2) (g:P2->D) (δ:DEnv):coK (some (.ok (.val (dG ks g)),δ))=some (.ok (.val (dG ks g)),δ):=rfl
noncomputable def itfK (o:Rs Sl):Rs (List D):=o.bind fun p δ=>lift (keysF p.fz) δ
theorem e_itF (f:FE) (δ:DEnv):fItF f δ=itfK (f δ):=rfl
theorem k_itF (ks:List P2) (g:P2->D) (δ:DEnv):itfK (some (.ok (.val (dF ks g)),δ))=some (.ok (ks.map zaj),δ):=rfl
theorem k_itL (ps:List P2) (δ:DEnv):itK (some (.ok (.val (L ps)),δ))=some (.ok (ps.map zaj),δ):=rfl
theorem k_itLo (ps:List P2) (δ:DEnv):itK (some (.ok (.own (L ps)),δ))=some (.ok (ps.map zaj),δ):=rfl
noncomputable def fixK (j:Nat) (F:FS) (δ:DEnv) (o:Option (Option Sl)):Option Out:=match o with
 | some (some (.own (.dct ks vs)))=>F (δ.set j (some (.val (.dcf ks vs))))
 | _=>none
theorem e_fix (j:Nat) (F:FS) (δ:DEnv):fFix j F δ=fixK j F δ (δ[j]?):=rfl
theorem k_fix (j:Nat) (F:FS) (δ:DEnv) (ks:List P2) (g:P2->D):fixK j F δ (some (some (.own (dG ks g))))=F (δ.set j (some (.val (dF ks g)))):=rfl
noncomputable def evE:=And.intro @e_hid <| And.intro @k_hid <| And.intro @e_co <| And.intro @k_co1 <| And.intro @k_co2 <| And.intro @e_itF <| And.intro @k_itF <| And.intro @k_itL <| And.intro @k_itLo <| And.intro @e_fix <| @k_fix
theorem zf2 {i:Nat} {F:FS} {d:D} {ds:List D} {δ δ':DEnv} (e:F (δ.set i (some (.val d)))=some (.next δ')):forD i F (d::ds) δ=forD i F ds δ':=by rw[forD,e];rfl
end Toy
namespace Toy
open PySem L2 L4
theorem rng1_of (n:Nat) (h:n<4000000000):rng1D [.int n]=some (rngD 0 n):=by
 unfold rng1D
 simp only[]
 rw[if_pos (by refine⟨?_,?_⟩<;>lia),Int.toNat_natCast]
theorem fRng1_of {fl:FL} {δ δ':DEnv} {n:Nat} (e:fl δ=some (.ok [.int n],δ')) (h:n<4000000000):fRng1 fl δ=some (.ok (rngD 0 n),δ'):=by
 unfold fRng1;rw[e,Rs.bind_ok,rng1_of n h,zf4]
theorem rng2_of (i j:Int) (h:0<=i/\i<1000000 ∧ -1000000<=j/\j<1000000):rng2D [.int i,.int j]=some (rngD i (j - i).toNat):=by
 unfold rng2D
 simp only[]
 rw[if_pos (by refine⟨?_,?_,?_,?_⟩<;>lia)]
theorem fRng2_of {fl:FL} {δ δ':DEnv} {i j:Int} (e:fl δ=some (.ok [.int i,.int j],δ')) (h:0<=i/\i<1000000 ∧ -1000000<=j/\j<1000000):fRng2 fl δ=some (.ok (rngD i (j - i).toNat),δ'):=by
 unfold fRng2;rw[e,Rs.bind_ok,rng2_of i j h,zf4]
theorem rng_len (lo:Int) (n:Nat):(rngD lo n).length=n:=by simp [rngD]
theorem rng_at {lo:Int} {n k:Nat} {d:D} (h:(rngD lo n)[k]? = some d):k<n/\d=.int (lo+k):=by
 unfold rngD at h
 rw[List.getElem?_map] at h
 obtain⟨i,e1,e2⟩:=Option.map_eq_some_iff.mp h
 obtain⟨h1,h2⟩:=List.getElem?_eq_some_iff.mp e1
 rw[List.getElem_range] at h2
 rw[List.length_range] at h1
 subst h2
 exact⟨h1,e2.symm⟩
theorem forD_ind {i:Nat} {F:FS} (I:Nat->DEnv->Prop):∀ (ds:List D) (j:Nat) (δ:DEnv),(∀ (k:Nat) (d:D) (δ:DEnv),ds[k]? = some d->I (j+k) δ->∃ δ',F (δ.set i (some (.val d)))=some (.next δ')/\I (j+k+1) δ')->I j δ->∃ δ',forD i F ds δ=some (.next δ')/\I (j+ds.length) δ'
 | [],j,δ,_,h=>⟨δ,by simp [forD],by simpa using h⟩
 | d::ds,j,δ,turn,h=>by
  obtain⟨δ1,e1,h1⟩:=turn 0 d δ (by simp) (by simpa using h)
  obtain⟨δ2,e2,h2⟩:=forD_ind (i:=i) (F:=F) I ds (j+1) δ1 (fun k d δ hk hI=>by
   have:=turn (k+1) d δ (by simpa using hk) (by rw[show j+(k+1)=j+1+k by lia];exact hI)
   rw[show j+(k+1)+1=j+1+k+1 by lia] at this
   exact this) (by simpa using h1)
  refine⟨δ2,by rw[zf2 e1];exact e2,?_⟩
  rw[List.length_cons,show j+(ds.length+1)=j+1+ds.length by lia]
  exact h2
theorem comp_G {α:Type} {fe:FE} {δ:DEnv} (en:α->D) (g:α->D):∀ (l:List α) (acc:List D),(∀ x ∈l,fe (sv (en x)::δ)=some (.ok (.val (g x)),sv (en x)::δ))->acc.length+l.length<=10000->compD none fe (l.map en) acc δ=some (acc++l.map g,δ)
 | [],acc,_,_=>by simp [compD]
 | x::l,acc,h2,hl=>by
  rw[List.length_cons] at hl
  rw[List.map_cons,compD,testD]
  simp only[h2 x List.mem_cons_self]
  rw[if_pos (by rw[zbx];lia),List.tail_cons,fz_val,comp_G en g l _ (fun y m=>h2 y (List.mem_cons_of_mem _ m)) (by rw[List.length_append,List.length_singleton];lia)]
  simp
theorem fComp_G {src:FL} {fe:FE} {δ δ':DEnv} {lo:Int} {n:Nat} (g:Int->D) (e:src δ=some (.ok (rngD lo n),δ')) (h:∀ k:Nat,k<n->fe (sv (.int (lo+k))::δ')=some (.ok (.val (g (lo+k))),sv (.int (lo+k))::δ')) (hn:n<=10000):fComp src none fe δ=some (.ok (.own (.lst ((List.range n).map fun k=>g (lo+(k:Nat))))),δ'):=by
 unfold fComp
 rw[e,Rs.bind_ok]
 have:=comp_G (fe:=fe) (δ:=δ') (fun k:Nat=>.int (lo+k)) (fun k:Nat=>g (lo+k)) (List.range n) [] (fun k m=>h k (List.mem_range.mp m)) (by simp;lia)
 unfold rngD
 rw[this];rfl
theorem run_cell (ns:List Int) (k:Int) (h:0<=k):∃ c,za8 [.lst (ns.map D.int),.int k]=some (.ok (.val (.int c)),[])/\0<=c/\c<1000003:=by
 have e1:lenD (.lst (ns.map D.int))=some (.val (.int ns.length)):=by rw[len_lst,List.length_map]
 by_cases l:k<(ns.length:Int)
 ·have e2:=cell_ix ns k h l
  refine⟨(ns.getD k.toNat 0 * 48271+k * 7919) % 1000003,?_,by lia,by lia⟩
  refine runE rfl ?_
  show fin (ze4 [sv (.lst (ns.map D.int)),sv (.int k)])=_
  unfold ze4
  simp -implicitDefEqProofs (disch:=lia) only [evA,if_pos,if_neg,if_true,if_false,e1,e2]
 ·refine⟨0,?_,by lia,by lia⟩
  refine runE rfl ?_
  show fin (ze4 [sv (.lst (ns.map D.int)),sv (.int k)])=_
  unfold ze4
  simp -implicitDefEqProofs (disch:=lia) only [evA,if_pos,if_neg,if_true,if_false,e1]
theorem run_cells (ns:List Int) (hn:ns.length<=63):∃ cs:List Int,r_q_cells [.lst (ns.map D.int),.int 2,.int 40]=some (.ok (.own (.lst (cs.map D.int))),[])/\cs.length<=38/\∀ c ∈cs,0<=c/\c<1000003:=by
 have e1:lenD (.lst (ns.map D.int))=some (.val (.int ns.length)):=by rw[len_lst,List.length_map]
 have ex:∀ k:Int,∃ c,0<=k->za8 [.lst (ns.map D.int),.int k]=some (.ok (.val (.int c)),[])/\0<=c/\c<1000003:=fun k=>by
  by_cases h:0<=k
  ·obtain⟨c,hc⟩:=run_cell ns k h;exact⟨c,fun _=>hc⟩
  ·exact⟨0,fun z=>absurd z h⟩
 obtain⟨f,hf⟩:=Classical.axiomOfChoice ex
 generalize eS:D.lst (ns.map D.int)=S at *
 have c:=fComp_G (src:=fRng2 (fCons (fVar 1) (fCons (fArgs (g2 minD) (fCons (fVar 2) (fCons (fArgs (g1 lenD) (fCons (fVar 0) fNil)) fNil))) fNil))) (fe:=el_q_cells_1) (δ:=[sv S,sv (.int 2),sv (.int 40)]) (δ':=[sv S,sv (.int 2),sv (.int 40)]) (lo:=2) (n:=(min (40:Int) ns.length - 2).toNat) (fun k=>.int (f k))
  (fRng2_of (by simp -implicitDefEqProofs (disch:=lia) only [evA,if_pos,if_neg,if_true,if_false,e1]) (by lia)) (fun k _=>by
   have r:=(hf (2+(k:Int)) (by lia)).1
   unfold el_q_cells_1
   simp -implicitDefEqProofs (disch:=lia) only [evA,if_pos,if_neg,if_true,if_false,r]) (by lia)
 refine⟨(List.range (min (40:Int) ns.length - 2).toNat).map fun k=>f (2+(k:Nat)),?_,by simp;lia,fun c m => ?_⟩
 ·refine runE rfl ?_
  show fin (f_q_cells [sv S,sv (.int 2),sv (.int 40)])=_
  unfold f_q_cells
  simp -implicitDefEqProofs (disch:=lia) only [evA,if_pos,if_neg,if_true,if_false,c]
  rw[List.map_map];rfl
 ·obtain⟨k,_,rfl⟩:=List.mem_map.mp m
  exact (hf (2+(k:Int)) (by lia)).2
end Toy
namespace Toy
open PySem L2 L4
inductive T where
 | num (n:Int) | ref (r c:Int) (a b:Bool) | gone | area (r c:Int) (a b:Bool) (r' c':Int) (a' b':Bool)
 | minus (t:T) | two (s:Nat) (t u:T) | pick (t u v:T) | over (w:Nat) (ts:List T)
noncomputable def sgS:Nat->Str
 | 0 => "+" | 1 => "-" | 2 => "*" | 3 => "/" | 4 => "<" | _ => "="
noncomputable def wdS:Nat->Str
 | 0 => "SUM" | 1 => "COUNT" | _ => "MAX"
noncomputable def refD (r c:Int) (a b:Bool):D:=.tup [.str "ref",.tup [.int r,.int c],.tup [.bl a,.bl b]]
mutual
noncomputable def enc:T->D
 | .num n=>.tup [.str "num",.int n]
 | .ref r c a b=>refD r c a b
 | .gone=>.tup [.str "gone"]
 | .area r c a b r' c' a' b'=>.tup [.str "area",refD r c a b,refD r' c' a' b']
 | .minus t=>.tup [.str "minus",enc t]
 | .two s t u=>.tup [.str "two",.str (sgS s),enc t,enc u]
 | .pick t u v=>.tup [.str "pick",enc t,enc u,enc v]
 | .over w ts=>.tup [.str "over",.str (wdS w),.lst (encL ts)]
noncomputable def encL:List T->List D
 | []=>[]
 | t::ts=>enc t::encL ts
end
theorem encL_map:∀ ts,encL ts=ts.map enc
 | []=>by unfold encL;rfl
 | t::ts=>by unfold encL;rw[encL_map ts];rfl
theorem encL_append (a b:List T):encL (a++b)=encL a++encL b:=by simp [encL_map]
theorem ze7 (a:List T):(encL a).length=a.length:=by simp [encL_map]
noncomputable def parts:T->List T
 | .minus t=>[t]
 | .two _ t u=>[t,u]
 | .pick t u v=>[t,u,v]
 | .over _ ts=>ts
 | _=>[]
noncomputable def isLeaf:T->Bool
 | .num _=>true | .ref .. => true | .gone=>true | .area .. => true | _=>false
mutual
noncomputable def dp:T->Nat
 | .minus t=>dp t+1
 | .two _ t u=>max (dp t) (dp u)+1
 | .pick t u v=>max (dp t) (max (dp u) (dp v))+1
 | .over _ ts=>dpL ts+1
 | _=>1
noncomputable def dpL:List T->Nat
 | []=>0
 | t::ts=>max (dp t) (dpL ts)
end
mutual
noncomputable def lvs:T->Nat
 | .minus t=>lvs t
 | .two _ t u=>lvs t+lvs u
 | .pick t u v=>lvs t+(lvs u+lvs v)
 | .over _ ts=>lvsL ts
 | _=>1
noncomputable def lvsL:List T->Nat
 | []=>0
 | t::ts=>lvs t+lvsL ts
end
mutual
noncomputable def sz:T->Nat
 | .minus t=>sz t+1
 | .two _ t u=>sz t+sz u+1
 | .pick t u v=>sz t+sz u+sz v+1
 | .over _ ts=>szL ts+1
 | _=>1
noncomputable def szL:List T->Nat
 | []=>0
 | t::ts=>sz t+szL ts
end
theorem szL_append:∀ a b:List T,szL (a++b)=szL a+szL b
 | [],b=>by simp [szL]
 | t::a,b=>by rw[List.cons_append,szL,szL,szL_append a b];lia
theorem dpL_append:∀ a b:List T,dpL (a++b)=max (dpL a) (dpL b)
 | [],b=>by simp [dpL]
 | t::a,b=>by rw[List.cons_append,dpL,dpL,dpL_append a b];lia
theorem lvsL_append:∀ a b:List T,lvsL (a++b)=lvsL a+lvsL b
 | [],b=>by simp [lvsL]
 | t::a,b=>by rw[List.cons_append,lvsL,lvsL,lvsL_append a b];lia
theorem sz_pos (t:T):0<sz t:=by cases t<;>simp [sz]
theorem dp_pos (t:T):0<dp t:=by cases t<;>simp [dp]
theorem len_szL:∀ l:List T,l.length<=szL l
 | []=>by simp
 | t::l=>by rw[szL,List.length_cons];have:=len_szL l;have:=sz_pos t;lia
theorem dpL_one (t:T):dpL [t]=dp t:=by simp [dpL]
theorem szL_one (t:T):szL [t]=sz t:=by simp [szL]
theorem sz_parts (t:T):szL (parts t)<sz t:=by cases t<;>simp [parts,sz,szL]<;>lia
theorem dp_parts (t:T):dpL (parts t)+1=dp t:=by cases t<;>simp [parts,dp,dpL]<;>lia
theorem leaf_parts {t:T} (e:isLeaf t=true):parts t=[]/\lvs t=1:=by cases t<;>simp_all [parts,isLeaf,lvs]
theorem lvs_parts {t:T} (e:isLeaf t=false):lvs t=lvsL (parts t):=by cases t<;>simp_all [parts,isLeaf,lvs,lvsL]
noncomputable def down (l:List T):List T:=l.flatMap parts
theorem zfq (t:T) (l:List T):down (t::l)=parts t++down l:=by simp [down]
theorem szL_down:∀ l:List T,szL (down l)+l.length<=szL l
 | []=>by simp [down,szL]
 | t::l=>by rw[zfq,szL_append,szL,List.length_cons];have:=szL_down l;have:=sz_parts t;lia
theorem dpL_down:∀ (l:List T) (n:Nat),dpL l<=n+1->dpL (down l)<=n
 | [],n,_=>by simp [down,dpL]
 | t::l,n,h=>by
  rw[zfq,dpL_append]
  rw[dpL] at h
  have:=dpL_down l n (by lia)
  have:=dp_parts t
  lia
theorem dpL_nil {l:List T} (h:dpL l<=0):l=[]:=by
 cases l with
 | nil=>rfl
 | cons t l=>rw[dpL] at h;have:=dp_pos t;lia
noncomputable def lv:Nat->List T->List (List T)
 | 0,_=>[]
 | n+1,l=>if l.isEmpty then [] else l::lv n (down l)
theorem lv_leaves:∀ (n:Nat) (l:List T),dpL l<=n->((lv n l).flatten.filter isLeaf).length=lvsL l
 | 0,l,h=>by rw[dpL_nil h];rfl
 | n+1,[],h=>by simp [lv,lvsL]
 | n+1,t::l,h=>by
  have h1:=lv_leaves n (down (t::l)) (dpL_down _ n h)
  rw[lv,if_neg (by simp),List.flatten_cons,List.filter_append,List.length_append,h1]
  have key:∀ l:List T,(l.filter isLeaf).length+lvsL (down l)=lvsL l:=by
   intro l
   induction l with
   | nil=>rfl
   | cons t l ih=>
    rw[zfq,lvsL_append,lvsL,List.filter_cons]
    cases e:isLeaf t with
    | true=>obtain⟨e1,e2⟩:=leaf_parts e;rw[e1,e2,if_pos rfl,List.length_cons,lvsL];lia
    | false=>rw[if_neg (by simp),lvs_parts e];lia
  exact key _
mutual
theorem zd8:∀ t:T,za1 (enc t)=true
 | .num n=>by simp [enc,za1,za9];decide +kernel
 | .ref r c a b=>by simp [enc,refD,za1,za9];decide +kernel
 | .gone=>by simp [enc,za1,za9];decide +kernel
 | .area .. => by simp [enc,refD,za1,za9];decide +kernel
 | .minus t=>by simp [enc,za1,za9,zd8 t];decide +kernel
 | .two s t u=>by
  have:strOkD (sgS s)=true:=by unfold sgS;split<;>decide +kernel
  simp [enc,za1,za9,zd8 t,zd8 u,this];decide +kernel
 | .pick t u v=>by simp [enc,za1,za9,zd8 t,zd8 u,zd8 v];decide +kernel
 | .over w ts=>by
  have:strOkD (wdS w)=true:=by unfold wdS;split<;>decide +kernel
  simp [enc,za1,za9,plain_encL ts,this];decide +kernel
theorem plain_encL:∀ ts:List T,za9 (encL ts)=true
 | []=>by simp [encL,za9]
 | t::ts=>by simp [encL,za9,zd8 t,plain_encL ts]
end
mutual
theorem dep_enc:∀ t:T,depD (enc t)<=2 * dp t+1
 | .num n=>by simp [enc,depD,depDs,dp]
 | .ref r c a b=>by simp [enc,refD,depD,depDs,dp]
 | .gone=>by simp [enc,depD,depDs,dp]
 | .area .. => by simp [enc,refD,depD,depDs,dp]
 | .minus t=>by have:=dep_enc t;simp [enc,depD,depDs,dp];lia
 | .two s t u=>by have:=dep_enc t;have:=dep_enc u;simp [enc,depD,depDs,dp];lia
 | .pick t u v=>by have:=dep_enc t;have:=dep_enc u;have:=dep_enc v;simp [enc,depD,depDs,dp];lia
 | .over w ts=>by have:=dep_encL ts;simp [enc,depD,depDs,dp];lia
theorem dep_encL:∀ ts:List T,depDs (encL ts)<=2 * dpL ts+1
 | []=>by simp [encL,depDs]
 | t::ts=>by have:=dep_enc t;have:=dep_encL ts;simp [encL,depDs,dpL];lia
end
theorem eqOp_same (n:Bool) (d:D) (h1:depD d<=100) (h2:za1 d=true):eqOp n d d=some (.val (.bl (!n))):=by
 unfold eqOp
 rw[if_pos (by rw[decide_eq_true h1,h2];rfl),eqD_refl d h2]
 cases n<;>rfl
theorem compD_map {fe:FE} {δ:DEnv} {g:D->D} : ∀ (ds acc:List D),(∀ d ∈ds,∃ s,fe (some (.val d)::δ)=some (.ok s,some (.val d)::δ)/\s.fz=g d)->acc.length+ds.length<=sizeLine->compD none fe ds acc δ=some (acc++ds.map g,δ)
 | [],acc,_,_=>by simp [compD]
 | d::ds,acc,h,hl=>by
  obtain⟨s,e1,e2⟩:=h d List.mem_cons_self
  rw[List.length_cons] at hl
  unfold compD testD
  simp only[e1]
  rw[if_pos (by lia),List.tail_cons,compD_map ds _ (fun d hd=>h d (List.mem_cons_of_mem _ hd)) (by rw[List.length_append,List.length_cons,List.length_nil];lia),e2]
  simp
end Toy
namespace Toy
open PySem L2 L4
theorem run_parts (t:T):r_parts [enc t]=some (.ok (.own (.lst (encL (parts t)))),[]):=by
 cases t<;>kernel_rfl
end Toy
namespace Toy
open PySem L2 L4
mutual
noncomputable def okT (R C:Int):T->Prop
 | .num _=>True
 | .gone=>True
 | .ref r c _ _=>0<=r/\r<R/\0<=c/\c<C
 | .area r c _ _ r' c' _ _=>0<=r/\r<=r'/\r'<R/\0<=c/\c<=c'/\c'<C
 | .minus t=>okT R C t
 | .two _ t u=>okT R C t/\okT R C u
 | .pick t u v=>okT R C t/\okT R C u/\okT R C v
 | .over _ ts=>okL R C ts
noncomputable def okL (R C:Int):List T->Prop
 | []=>True
 | t::ts=>okT R C t/\okL R C ts
end
theorem okL_all {R C:Int} : ∀ {ts:List T},okL R C ts ↔ ∀ t ∈ts,okT R C t
 | []=>by simp [okL]
 | t::ts=>by rw[okL,okL_all (ts:=ts)];simp
theorem kd_over:eqOp false (.str "over") (.str "over")=some (.val (.bl true))/\eqOp false (.str "over") (.str "minus")=some (.val (.bl false))/\eqOp false (.str "over") (.str "two")=some (.val (.bl false))/\eqOp false (.str "over") (.str "pick")=some (.val (.bl false))/\eqOp false (.str "over") (.str "ref")=some (.val (.bl false))/\eqOp false (.str "over") (.str "area")=some (.val (.bl false))/\inOp false (.str "over") za7=some (.val (.bl false)):=by
 refine⟨?_,?_,?_,?_,?_,?_,?_⟩<;>kernel_rfl
theorem kd_minus:eqOp false (.str "minus") (.str "over")=some (.val (.bl false))/\eqOp false (.str "minus") (.str "minus")=some (.val (.bl true))/\eqOp false (.str "minus") (.str "two")=some (.val (.bl false))/\eqOp false (.str "minus") (.str "pick")=some (.val (.bl false))/\eqOp false (.str "minus") (.str "ref")=some (.val (.bl false))/\eqOp false (.str "minus") (.str "area")=some (.val (.bl false))/\inOp false (.str "minus") za7=some (.val (.bl false)):=by
 refine⟨?_,?_,?_,?_,?_,?_,?_⟩<;>kernel_rfl
theorem kd_two:eqOp false (.str "two") (.str "over")=some (.val (.bl false))/\eqOp false (.str "two") (.str "minus")=some (.val (.bl false))/\eqOp false (.str "two") (.str "two")=some (.val (.bl true))/\eqOp false (.str "two") (.str "pick")=some (.val (.bl false))/\eqOp false (.str "two") (.str "ref")=some (.val (.bl false))/\eqOp false (.str "two") (.str "area")=some (.val (.bl false))/\inOp false (.str "two") za7=some (.val (.bl false)):=by
 refine⟨?_,?_,?_,?_,?_,?_,?_⟩<;>kernel_rfl
theorem kd_pick:eqOp false (.str "pick") (.str "over")=some (.val (.bl false))/\eqOp false (.str "pick") (.str "minus")=some (.val (.bl false))/\eqOp false (.str "pick") (.str "two")=some (.val (.bl false))/\eqOp false (.str "pick") (.str "pick")=some (.val (.bl true))/\eqOp false (.str "pick") (.str "ref")=some (.val (.bl false))/\eqOp false (.str "pick") (.str "area")=some (.val (.bl false))/\inOp false (.str "pick") za7=some (.val (.bl false)):=by
 refine⟨?_,?_,?_,?_,?_,?_,?_⟩<;>kernel_rfl
theorem kd_ref:eqOp false (.str "ref") (.str "over")=some (.val (.bl false))/\eqOp false (.str "ref") (.str "minus")=some (.val (.bl false))/\eqOp false (.str "ref") (.str "two")=some (.val (.bl false))/\eqOp false (.str "ref") (.str "pick")=some (.val (.bl false))/\eqOp false (.str "ref") (.str "ref")=some (.val (.bl true))/\eqOp false (.str "ref") (.str "area")=some (.val (.bl false))/\inOp false (.str "ref") za7=some (.val (.bl true)):=by
 refine⟨?_,?_,?_,?_,?_,?_,?_⟩<;>kernel_rfl
theorem kd_area:eqOp false (.str "area") (.str "over")=some (.val (.bl false))/\eqOp false (.str "area") (.str "minus")=some (.val (.bl false))/\eqOp false (.str "area") (.str "two")=some (.val (.bl false))/\eqOp false (.str "area") (.str "pick")=some (.val (.bl false))/\eqOp false (.str "area") (.str "ref")=some (.val (.bl false))/\eqOp false (.str "area") (.str "area")=some (.val (.bl true))/\inOp false (.str "area") za7=some (.val (.bl true)):=by
 refine⟨?_,?_,?_,?_,?_,?_,?_⟩<;>kernel_rfl
theorem kd_num:eqOp false (.str "num") (.str "over")=some (.val (.bl false))/\eqOp false (.str "num") (.str "minus")=some (.val (.bl false))/\eqOp false (.str "num") (.str "two")=some (.val (.bl false))/\eqOp false (.str "num") (.str "pick")=some (.val (.bl false))/\eqOp false (.str "num") (.str "ref")=some (.val (.bl false))/\eqOp false (.str "num") (.str "area")=some (.val (.bl false))/\inOp false (.str "num") za7=some (.val (.bl true)):=by
 refine⟨?_,?_,?_,?_,?_,?_,?_⟩<;>kernel_rfl
theorem kd_gone:eqOp false (.str "gone") (.str "over")=some (.val (.bl false))/\eqOp false (.str "gone") (.str "minus")=some (.val (.bl false))/\eqOp false (.str "gone") (.str "two")=some (.val (.bl false))/\eqOp false (.str "gone") (.str "pick")=some (.val (.bl false))/\eqOp false (.str "gone") (.str "ref")=some (.val (.bl false))/\eqOp false (.str "gone") (.str "area")=some (.val (.bl false))/\inOp false (.str "gone") za7=some (.val (.bl true)):=by
 refine⟨?_,?_,?_,?_,?_,?_,?_⟩<;>kernel_rfl
noncomputable def kd:=And.intro kd_over <| And.intro kd_minus <| And.intro kd_two <| And.intro kd_pick <| And.intro kd_ref <| And.intro kd_area <| And.intro kd_num kd_gone
theorem dpL_mem {l:List T} {t:T} (h:t ∈l):dp t<=dpL l:=by
 induction l with
 | nil=>cases h
 | cons a l ih=>
  rw[dpL]
  rcases List.mem_cons.mp h with rfl | h
  ·lia
  ·have:=ih h;lia
theorem szL_mem {l:List T} {t:T} (h:t ∈l):sz t<=szL l:=by
 induction l with
 | nil=>cases h
 | cons a l ih=>
  rw[szL]
  rcases List.mem_cons.mp h with rfl | h
  ·lia
  ·have:=ih h;lia
abbrev pl (r c:Int):D:=.tup [.int r,.int c]
end Toy
namespace Toy
open PySem L2 L4
noncomputable def lvBody:FS:=(fSeq (fDrop (fMut 1 gAppend (fCons (fVar 2) fNil)))
  (fSeq (fAsg 3 (fArgs gLstD fNil))
  (fSeq (fFor (fItA (fVar 2)) 4 (fDrop (fMut 3 gExtend (fCons (fCall r_parts (fCons (fVar 4) fNil)) fNil))))
  (fAsg 2 (fPure (fVar 3))))))
theorem f_levels_eq:f_levels=(fSeq (fAsg 1 (fArgs gLstD fNil)) (fSeq (fAsg 2 (fArgs gLstD (fCons (fVar 0) fNil))) (fSeq (whileD (fTr (fVar 2)) lvBody 4096) (fRetV 1)))):=rfl
theorem lv_for (a b c:Option Sl):∀ (l B:List T) (x:Option Sl),B.length+(down l).length<=1000000->∃ y,forD 4 (fDrop (fMut 3 gExtend (fCons (fCall r_parts (fCons (fVar 4) fNil)) fNil))) (encL l) [a,b,c,some (.own (.lst (encL B))),x]=some (.next [a,b,c,some (.own (.lst (encL (B++down l)))),y])
 | [],B,x,_=>⟨x,by simp [encL,forD,down]⟩
 | t::l,B,x,h=>by
  rw[zfq,List.length_append] at h
  obtain⟨y,e⟩:=lv_for a b c l (B++parts t) (sv (enc t)) (by rw[List.length_append];lia)
  refine⟨y,?_⟩
  rw[encL,forD_next (δ':=[a,b,c,some (.own (.lst (encL (B++parts t)))),sv (enc t)]),e,zfq,List.append_assoc]
  have g:gExtend (encL B) [.lst (encL (parts t))]=some (encL (B++parts t),.non):=by
   unfold gExtend
   simp only[]
   rw[if_pos (by rw[ze7,ze7,zbx];lia),encL_append]
  simp [fDrop,fMut,mutD,fCons,fNil,fCall,fVar,run_parts,Rs.bind_ok,zc7,fz_val,fz_own,isL,Sl.isO,Sl.now,g]
theorem lv_turn (a:Option Sl) (F:List D) (l:List T) (x y:Option Sl) (hF:F.length<=1000) (h:szL l<=1000):
  ∃ x' y',lvBody [a,some (.own (.lst F)),sv (.lst (encL l)),x,y]=some (.next [a,some (.own (.lst (F++[.lst (encL l)]))),sv (.lst (encL (down l))),x',y']):=by
 have h1:=len_szL (down l)
 have h2:=szL_down l
 obtain⟨y',e⟩:=lv_for a (some (.own (.lst (F++[.lst (encL l)])))) (sv (.lst (encL l))) l [] y (by simp;lia)
 have g:gAppend F [.lst (encL l)]=some (F++[.lst (encL l)],.non):=by
  unfold gAppend
  simp only[]
  rw[if_pos (by rw[zbx];lia)]
 refine⟨sv (.lst (encL (down l))),y',?_⟩
 unfold lvBody
 rw[zcq (δ':=[a,some (.own (.lst (F++[.lst (encL l)]))),sv (.lst (encL l)),x,y])]
 rotate_left
 ·simp [fDrop,fMut,mutD,fCons,fNil,fVar,Rs.bind_ok,zc7,fz_val,fz_own,isL,Sl.isO,Sl.now,g]
 rw[zcq (δ':=[a,some (.own (.lst (F++[.lst (encL l)]))),sv (.lst (encL l)),some (.own (.lst (encL []))),y]) rfl]
 rw[zcq (δ':=[a,some (.own (.lst (F++[.lst (encL l)]))),sv (.lst (encL l)),some (.own (.lst (encL ([]++down l)))),y'])]
 rotate_left
 ·rw[fFor_of (ds:=encL l) (δ':=[a,some (.own (.lst (F++[.lst (encL l)]))),sv (.lst (encL l)),some (.own (.lst (encL []))),y]) rfl]
  exact e
 rw[List.nil_append]
 rfl
theorem lv_while (a:Option Sl):∀ (n fuel:Nat) (l:List T) (F:List D) (x y:Option Sl) (z:Sl),(z=.val (.lst (encL l))\/z=.own (.lst (encL l)))->dpL l<=n->n<fuel->F.length+n<=1000->szL l<=1000 →
  ∃ x' y',whileD (fTr (fVar 2)) lvBody fuel [a,some (.own (.lst F)),some z,x,y]=some (.next [a,some (.own (.lst (F++(lv n l).map fun l=>.lst (encL l)))),sv (.lst []),x',y'])
 | n,0,_,_,_,_,_,_,_,h,_,_=>absurd h (Nat.not_lt_zero _)
 | n,fuel+1,l,F,x,y,z,hz,h1,h2,h3,h4=>by
  have c:fTr (fVar 2) [a,some (.own (.lst F)),some z,x,y]=some (.ok (!(encL l).isEmpty),[a,some (.own (.lst F)),sv (.lst (encL l)),x,y]):=by
   rcases hz with rfl | rfl<;>simp [fTr,fVar,Rs.bind_ok,zf4,fz_val,truD]
  cases l with
  | nil=>
   refine⟨x,y,?_⟩
   rw[whileD,c,zc7]
   cases n<;>simp [encL,lv]
  | cons t l=>
   cases n with
   | zero=>rw[dpL] at h1;have:=dp_pos t;lia
   | succ n=>
    obtain⟨x1,y1,e1⟩:=lv_turn a F (t::l) x y (by lia) h4
    obtain⟨x2,y2,e2⟩:=lv_while a n fuel (down (t::l)) (F++[.lst (encL (t::l))]) x1 y1 _ (.inl rfl) (dpL_down _ n h1) (by lia) (by simp;lia) (by have:=szL_down (t::l);lia)
    refine⟨x2,y2,?_⟩
    rw[whileD,c,zc7,if_pos (by simp [encL]),e1,Option.bind_some]
    show whileD (fTr (fVar 2)) lvBody fuel _=_
    rw[e2,lv,if_neg (by simp),List.map_cons]
    simp
theorem run_levels (t:T) (h:dp t<=900) (hs:sz t<=1000):r_levels [enc t]=some (.ok (.own (.lst ((lv (dp t) [t]).map fun l=>.lst (encL l)))),[]):=by
 obtain⟨x,y,e⟩:=lv_while (sv (enc t)) (dp t) 4096 [t] [] none none (.own (.lst (encL [t]))) (.inr rfl) (by rw[dpL_one];exact Nat.le_refl _) (by lia) (by simp;lia) (by rw[szL_one];exact hs)
 refine runD_ret rfl (δ:=[sv (enc t),none,sv (.lst []),x,y]) ?_
 have e0:startD 5 [] [enc t]=[sv (enc t),none,none,none,none]:=rfl
 rw[e0,f_levels_eq,zcq (δ':=[sv (enc t),some (.own (.lst [])),none,none,none]) rfl,zcq (δ':=[sv (enc t),some (.own (.lst [])),some (.own (.lst (encL [t]))),none,none]) rfl,zcq e]
 rfl
theorem leaf_test (t:T) (δ:DEnv):fTb (fOp (inOp false) (fOp ixD (fVar 0) (fC (.int 0))) (fC za7)) (some (.val (enc t))::δ)=some (.ok (isLeaf t),some (.val (enc t))::δ):=by
 have h:∃ k:D,ixD (enc t) (.int 0)=some (.val k)/\inOp false k za7=some (.val (.bl (isLeaf t))):=by
  cases t
  ·exact⟨.str "num",rfl,by kernel_rfl⟩
  ·exact⟨.str "ref",rfl,by kernel_rfl⟩
  ·exact⟨.str "gone",rfl,by kernel_rfl⟩
  ·exact⟨.str "area",rfl,by kernel_rfl⟩
  ·exact⟨.str "minus",rfl,by kernel_rfl⟩
  ·exact⟨.str "two",rfl,by kernel_rfl⟩
  ·exact⟨.str "pick",rfl,by kernel_rfl⟩
  ·exact⟨.str "over",rfl,by kernel_rfl⟩
 obtain⟨k,h1,h2⟩:=h
 simp [fTb,fOp,fVar,fC,Rs.bind_ok,zf4,fz_val,h1,h2,blOf]
theorem leaf_comp (l:List T) (δ:DEnv) (i:Nat) (hi:δ[i]? = some (some (.val (.lst (encL l))))) (hl:l.length<=1000):
  fComp (fItA (fVar i)) (some (fTb (fOp (inOp false) (fOp ixD (fVar 0) (fC (.int 0))) (fC za7)))) (fVar 0) δ=some (.ok (.own (.lst (encL (l.filter isLeaf)))),δ):=by
 have e1:fVar i δ=some (.ok (.val (.lst (encL l))),δ):=by unfold fVar;rw[hi]
 have key:∀ (l:List T) (acc:List D),acc.length+l.length<=sizeLine->compD (some (fTb (fOp (inOp false) (fOp ixD (fVar 0) (fC (.int 0))) (fC za7)))) (fVar 0) (encL l) acc δ=some (acc++encL (l.filter isLeaf),δ):=by
  intro l
  induction l with
  | nil=>intro acc _;simp [encL,compD]
  | cons t l ih=>
   intro acc hacc
   rw[List.length_cons] at hacc
   rw[encL,compD,testD]
   simp only[leaf_test]
   cases hp:isLeaf t with
   | true=>
    have e2:fVar 0 (some (Sl.val (enc t))::δ)=some (.ok (.val (enc t)),some (.val (enc t))::δ):=rfl
    simp only[e2]
    rw[if_pos (by lia),List.tail_cons,fz_val,ih _ (by simp;lia),List.filter_cons,if_pos hp,encL]
    simp
   | false=>
    simp only[]
    rw[List.tail_cons,ih _ (by lia),List.filter_cons,if_neg (by simp [hp])]
 have e2:=key l [] (by rw[zbx];simp;lia)
 simp [fComp,fItA,e1,Rs.bind_ok,zf4,itemsD,fz_val,e2]
noncomputable def llBody:FS:=(fDrop (fMut 1 gExtend (fCons (fComp (fItA (fVar 2)) (some (fTb (fOp (inOp false) (fOp ixD (fVar 0) (fC (.int 0))) (fC za7)))) (fVar 0)) fNil)))
theorem ll_for (a:Option Sl):∀ (L:List (List T)) (B:List T) (x:Option Sl),(∀ l ∈L,l.length<=1000)->B.length+L.flatten.length<=1000000->∃ y,forD 2 llBody (L.map fun l=>.lst (encL l)) [a,some (.own (.lst (encL B))),x]=some (.next [a,some (.own (.lst (encL (B++L.flatten.filter isLeaf)))),y])
 | [],B,x,_,_=>⟨x,by simp [forD]⟩
 | l::L,B,x,h,hB=>by
  rw[List.flatten_cons,List.length_append] at hB
  have hf:(l.filter isLeaf).length<=l.length:=List.length_filter_le _ _
  obtain⟨y,e⟩:=ll_for a L (B++l.filter isLeaf) (sv (.lst (encL l))) (fun m hm=>h m (List.mem_cons_of_mem _ hm)) (by rw[List.length_append];lia)
  refine⟨y,?_⟩
  rw[List.map_cons,forD_next (δ':=[a,some (.own (.lst (encL (B++l.filter isLeaf)))),sv (.lst (encL l))]),e,List.flatten_cons,List.filter_append,List.append_assoc]
  have g:gExtend (encL B) [.lst (encL (l.filter isLeaf))]=some (encL (B++l.filter isLeaf),.non):=by
   unfold gExtend
   simp only[]
   rw[if_pos (by rw[ze7,ze7,zbx];lia),encL_append]
  have c:=leaf_comp l [a,some (.own (.lst (encL B))),sv (.lst (encL l))] 2 rfl (h l List.mem_cons_self)
  unfold llBody
  show fDrop (fMut 1 gExtend (fCons _ fNil)) [a,some (.own (.lst (encL B))),sv (.lst (encL l))]=_
  simp [fDrop,fMut,mutD,fCons,fNil,c,Rs.bind_ok,zc7,fz_own,isL,Sl.isO,Sl.now,g]
theorem lv_small:∀ (n:Nat) (l:List T),szL l<=1000->(∀ m ∈lv n l,m.length<=1000)/\(lv n l).flatten.length<=n * 1000
 | 0,l,h=>by simp [lv]
 | n+1,l,h=>by
  rw[lv]
  split
  ·simp
  ·obtain⟨h1,h2⟩:=lv_small n (down l) (by have:=szL_down l;lia)
   have:=len_szL l
   refine⟨fun m hm => ?_,?_⟩
   ·rcases List.mem_cons.mp hm with rfl | hm
    ·lia
    ·exact h1 m hm
   ·rw[List.flatten_cons,List.length_append,Nat.add_mul];lia
theorem run_leaf_list (t:T) (h:dp t<=900) (hs:sz t<=1000):∃ L,r_leaf_list [enc t]=some (.ok (.own (.lst (encL L))),[])/\L=(lv (dp t) [t]).flatten.filter isLeaf:=by
 obtain⟨s1,s2⟩:=lv_small (dp t) [t] (by rw[szL_one];exact hs)
 have:dp t * 1000<=900 * 1000:=Nat.mul_le_mul_right _ h
 obtain⟨y,e⟩:=ll_for (sv (enc t)) (lv (dp t) [t]) [] none s1 (by simp at s2 ⊢; lia)
 refine⟨_,?_,rfl⟩
 refine runD_ret rfl (δ:=[sv (enc t),none,y]) ?_
 have e0:startD 3 [] [enc t]=[sv (enc t),none,none]:=rfl
 have src:fItA (fCall r_levels (fCons (fVar 0) fNil)) [sv (enc t),some (.own (.lst (encL []))),none]=some (.ok ((lv (dp t) [t]).map fun l=>.lst (encL l)),[sv (enc t),some (.own (.lst (encL []))),none]):=by
  simp [fItA,fCall,fCons,fNil,fVar,run_levels t h hs,Rs.bind_ok,zf4,fz_val,fz_own,itemsD]
 unfold f_leaf_list
 rw[e0,zcq (δ':=[sv (enc t),some (.own (.lst (encL []))),none]) rfl,zcq (by rw[fFor_of src];exact e)]
 rfl
end Toy
namespace Toy
open PySem L2 L4
theorem catL (xs ys:List D) (h:xs.length+ys.length<=1000000):addD (.lst xs) (.lst ys)=some (.own (.lst (xs++ys))):=by
 show (if xs.length+ys.length<=sizeLine then some (Sl.own (.lst (xs++ys))) else none)=_
 rw[if_pos (by rw[zbx];lia)]
theorem gExt_of (xs ys:List D) (h:xs.length+ys.length<=1000000):gExtend xs [.lst ys]=some (xs++ys,.non):=by
 show (if xs.length+ys.length<=sizeLine then some (xs++ys,D.non) else none)=_
 rw[if_pos (by rw[zbx];lia)]
noncomputable def rngK2 (o:Rs (List D)):Rs (List D):=o.bind fun p δ=>lift (rng2D p) δ
theorem e_rng2 (r:FL) (δ:DEnv):fRng2 r δ=rngK2 (r δ):=rfl
theorem k_rng2 (i j:Int) (δ:DEnv) (h1:0<=i) (h2:i<=1000) (h3:0<=j) (h4:j<=1000):rngK2 (some (.ok [.int i,.int j],δ))=some (.ok (rngD i (j - i).toNat),δ):=by
 unfold rngK2
 rw[Rs.bind_ok]
 have:rng2D [.int i,.int j]=some (rngD i (j - i).toNat):=by
  unfold rng2D
  simp only[]
  rw[if_pos (by lia)]
 rw[this];rfl
noncomputable def nums (x:Int) (n:Nat):List Int:=(List.range n).map fun (k:Nat)=>x+(k:Int)
theorem rng_nums (x:Int) (n:Nat):rngD x n=(nums x n).map D.int:=by unfold rngD nums;rw[List.map_map];rfl
theorem zej (x:Int) (n:Nat):(nums x n).length=n:=by simp [nums]
noncomputable def rowP (x:Int) (ys:List Int):List D:=ys.map fun y=>pl x y
noncomputable def recP (xs ys:List Int):List D:=xs.flatMap fun x=>rowP x ys
theorem recP_cons (x:Int) (xs ys:List Int):recP (x::xs) ys=rowP x ys++recP xs ys:=rfl
theorem recP_len (ys:List Int):∀ xs:List Int,(recP xs ys).length=xs.length * ys.length
 | []=>by simp [recP]
 | x::xs=>by rw[recP_cons,List.length_append,recP_len ys xs,List.length_cons,Nat.succ_mul];simp [rowP];lia
theorem in_loop (a0 a1:Option Sl) (x:Int):∀ (ys:List Int) (l:List D) (a4:Option Sl),l.length+ys.length<=9000->∃ b4,forD 4 zd0 (ys.map D.int) [a0,a1,some (.own (.lst l)),sv (.int x),a4]=some (.next [a0,a1,some (.own (.lst (l++rowP x ys))),sv (.int x),b4])
 | [],l,a4,_=>⟨a4,by simp [e_forN,rowP]⟩
 | y::ys,l,a4,h=>by
  rw[List.length_cons] at h
  obtain⟨b4,e⟩:=in_loop a0 a1 x ys (l++[pl x y]) (sv (.int y)) (by rw[List.length_append,List.length_singleton];lia)
  refine⟨b4,?_⟩
  have g:=gApp_of l (pl x y) (by lia)
  have e1:zd0 [a0,a1,some (.own (.lst l)),sv (.int x),sv (.int y)]=some (.next [a0,a1,some (.own (.lst (l++[pl x y]))),sv (.int x),sv (.int y)]):=by
   unfold zd0
   simp -implicitDefEqProofs (disch:=lia) only [evA,if_pos,if_neg,if_true,if_false,evC,g]
  rw[List.map_cons,e_forC]
  show forCK 4 zd0 (ys.map D.int) (zd0 [a0,a1,some (.own (.lst l)),sv (.int x),sv (.int y)])=_
  rw[e1,k_forC1,e,List.append_assoc];rfl
theorem out_loop (r c r' c':Int) (hc:0<=c/\c<=c'/\c'<26):∀ (xs:List Int) (l:List D) (a3 a4:Option Sl),l.length+xs.length * 26<=9000->∃ b3 b4,forD 3 zdz (xs.map D.int) [sv (pl r c),sv (pl r' c'),some (.own (.lst l)),a3,a4]=some (.next [sv (pl r c),sv (pl r' c'),some (.own (.lst (l++recP xs (nums c (c'+1 - c).toNat)))),b3,b4])
 | [],l,a3,a4,_=>⟨a3,a4,by simp [e_forN,recP]⟩
 | x::xs,l,a3,a4,h=>by
  rw[List.length_cons] at h
  have hm:(rowP x (nums c (c'+1 - c).toNat)).length<=26:=by simp [rowP,nums];lia
  obtain⟨b4,e1⟩:=in_loop (sv (pl r c)) (sv (pl r' c')) x (nums c (c'+1 - c).toNat) l a4 (by rw[zej];lia)
  obtain⟨d3,d4,e2⟩:=out_loop r c r' c' hc xs (l++rowP x (nums c (c'+1 - c).toNat)) (sv (.int x)) b4 (by rw[List.length_append];lia)
  refine⟨d3,d4,?_⟩
  rw[←rng_nums] at e1
  have k1:∀ δ,rngK2 (some (.ok [.int c,.int (c'+1)],δ))=some (.ok (rngD c (c'+1 - c).toNat),δ):=fun δ=>k_rng2 _ _ δ (by lia) (by lia) (by lia) (by lia)
  have e3:zdz [sv (pl r c),sv (pl r' c'),some (.own (.lst l)),sv (.int x),a4]=some (.next [sv (pl r c),sv (pl r' c'),some (.own (.lst (l++rowP x (nums c (c'+1 - c).toNat)))),sv (.int x),b4]):=by
   unfold zdz
   simp -implicitDefEqProofs (disch:=lia) only [evA,if_pos,if_neg,if_true,if_false,e_rng2,k1,e1]
  rw[List.map_cons,e_forC]
  show forCK 3 zdz (xs.map D.int) (zdz [sv (pl r c),sv (pl r' c'),some (.own (.lst l)),sv (.int x),a4])=_
  rw[e3,k_forC1,e2,List.append_assoc,recP_cons]
noncomputable abbrev areaP (r c r' c':Int):List D:=recP (nums r (r'+1 - r).toNat) (nums c (c'+1 - c).toNat)
theorem areaP_len (r c r' c':Int) (hr:0<=r/\r<=r'/\r'<99) (hc:0<=c/\c<=c'/\c'<26):(areaP r c r' c').length<=2574:=by
 rw[recP_len,zej,zej]
 exact Nat.le_trans (Nat.mul_le_mul (show (r'+1 - r).toNat<=99 by lia) (show (c'+1 - c).toNat<=26 by lia)) (by decide)
theorem run_between (r c r' c':Int) (hr:0<=r/\r<=r'/\r'<99) (hc:0<=c/\c<=c'/\c'<26):r_between [pl r c,pl r' c']=some (.ok (.own (.lst (areaP r c r' c'))),[]):=by
 refine runE rfl ?_
 show fin (f_between [sv (pl r c),sv (pl r' c'),none,none,none])=_
 obtain⟨b3,b4,e⟩:=out_loop r c r' c' hc (nums r (r'+1 - r).toNat) [] none none (by rw[zej];simp;lia)
 rw[←rng_nums,List.nil_append] at e
 have k1:∀ δ,rngK2 (some (.ok [.int r,.int (r'+1)],δ))=some (.ok (rngD r (r'+1 - r).toNat),δ):=fun δ=>k_rng2 _ _ δ (by lia) (by lia) (by lia) (by lia)
 unfold f_between
 simp -implicitDefEqProofs (disch:=lia) only [evA,if_pos,if_neg,if_true,if_false,evC,e_rng2,k1,e]
end Toy
namespace Toy
open PySem L2 L4
mutual
noncomputable def inT:T->Int×Int->Prop
 | .ref r c _ _,p=>p=(r,c)
 | .area r c _ _ r' c' _ _,p=>r<=p.1/\p.1<=r'/\c<=p.2/\p.2<=c'
 | .minus t,p=>inT t p
 | .two _ t u,p=>inT t p\/inT u p
 | .pick t u v,p=>inT t p\/inT u p\/inT v p
 | .over _ ts,p=>inL ts p
 | .num _,_=>False
 | .gone,_=>False
noncomputable def inL:List T->Int×Int->Prop
 | [],_=>False
 | t::ts,p=>inT t p\/inL ts p
end
theorem inL_mem {p:Int×Int} : ∀ {ts:List T},inL ts p ↔ ∃ t ∈ts,inT t p
 | []=>by simp [inL]
 | t::ts=>by rw[inL,inL_mem];simp
theorem inL_append {p:Int×Int} {a b:List T} : inL (a++b) p ↔ inL a p\/inL b p:=by
 rw[inL_mem,inL_mem,inL_mem]
 constructor
 ·rintro ⟨t,m,h⟩
  exact (List.mem_append.mp m).elim (fun m=>.inl ⟨t,m,h⟩) fun m=>.inr ⟨t,m,h⟩
 ·rintro (⟨t,m,h⟩ | ⟨t,m,h⟩)
  ·exact⟨t,List.mem_append_left _ m,h⟩
  ·exact⟨t,List.mem_append_right _ m,h⟩
theorem in_parts {t:T} {p:Int×Int} : inT t p ↔ (isLeaf t=true/\inT t p)\/inL (parts t) p:=by
 cases t<;>simp [isLeaf,parts,inT,inL]
theorem in_down {p:Int×Int} : ∀ {l:List T},inL l p ↔ (∃ t ∈l,isLeaf t=true/\inT t p)\/inL (down l) p
 | []=>by simp [inL,down]
 | t::l=>by
  rw[zfq,inL_append,inL,in_parts,in_down (l:=l)]
  constructor
  ·rintro ((h | h) | (⟨u,m,h⟩ | h))
   ·exact .inl ⟨t,List.mem_cons_self,h⟩
   ·exact .inr (.inl h)
   ·exact .inl ⟨u,List.mem_cons_of_mem _ m,h⟩
   ·exact .inr (.inr h)
  ·rintro (⟨u,m,h⟩ | h | h)
   ·rcases List.mem_cons.mp m with rfl | m
    ·exact .inl (.inl h)
    ·exact .inr (.inl ⟨u,m,h⟩)
   ·exact .inl (.inr h)
   ·exact .inr (.inr h)
theorem in_lv {p:Int×Int} : ∀ (n:Nat) (l:List T),dpL l<=n->((∃ u ∈(lv n l).flatten.filter isLeaf,inT u p) ↔ inL l p)
 | 0,l,h=>by rw[dpL_nil h];simp [lv,inL]
 | n+1,[],h=>by simp [lv,inL]
 | n+1,t::l,h=>by
  have ih:=in_lv (p:=p) n (down (t::l)) (dpL_down _ n h)
  rw[in_down,←ih,lv,if_neg (by simp),List.flatten_cons,List.filter_append]
  constructor
  ·rintro ⟨u,m,h⟩
   rcases List.mem_append.mp m with m | m
   ·exact .inl ⟨u,(List.mem_filter.mp m).1,(List.mem_filter.mp m).2,h⟩
   ·exact .inr ⟨u,m,h⟩
  ·rintro (⟨u,m,lf,h⟩ | ⟨u,m,h⟩)
   ·exact⟨u,List.mem_append_left _ (List.mem_filter.mpr ⟨m,lf⟩),h⟩
   ·exact⟨u,List.mem_append_right _ m,h⟩
mutual
theorem lvs_sz:∀ t:T,lvs t<=sz t
 | .num _=>by simp [lvs,sz]
 | .gone=>by simp [lvs,sz]
 | .ref .. => by simp [lvs,sz]
 | .area .. => by simp [lvs,sz]
 | .minus t=>by have:=lvs_sz t;simp [lvs,sz];lia
 | .two _ t u=>by have:=lvs_sz t;have:=lvs_sz u;simp [lvs,sz];lia
 | .pick t u v=>by have:=lvs_sz t;have:=lvs_sz u;have:=lvs_sz v;simp [lvs,sz];lia
 | .over _ ts=>by have:=lvs_szL ts;simp [lvs,sz];lia
theorem lvs_szL:∀ ts:List T,lvsL ts<=szL ts
 | []=>by simp [lvsL,szL]
 | t::ts=>by have:=lvs_sz t;have:=lvs_szL ts;simp [lvsL,szL];lia
end
noncomputable def plc:T->List (Int×Int)
 | .ref r c _ _=>[(r,c)]
 | .area r c _ _ r' c' _ _=>(nums r (r'+1 - r).toNat).flatMap fun x=>(nums c (c'+1 - c).toNat).map fun y=>(x,y)
 | _=>[]
theorem mem_nums {x:Int} {n:Nat} {y:Int} : y ∈nums x n ↔ x<=y/\y<x+n:=by
 unfold nums
 rw[List.mem_map]
 constructor
 ·rintro ⟨k,m,rfl⟩
  have:=List.mem_range.mp m
  lia
 ·rintro ⟨a,b⟩
  exact⟨(y - x).toNat,List.mem_range.mpr (by lia),by lia⟩
theorem mem_plc {u:T} {R C:Int} (h:okT R C u) {p:Int×Int} (lf:isLeaf u=true):p ∈plc u ↔ inT u p:=by
 cases u with
 | ref r c f g=>simp [plc,inT]
 | area r c f g r' c' f' g'=>
  obtain⟨h1,h2,h3,h4,h5,h6⟩:=h
  simp only[plc,inT,List.mem_flatMap,List.mem_map,mem_nums]
  constructor
  ·rintro ⟨x,hx,y,hy,rfl⟩
   dsimp only
   lia
  ·rintro ⟨a,b,c,d⟩
   exact⟨p.1,by lia,p.2,by lia,rfl⟩
 | num n=>simp [plc,inT]
 | gone=>simp [plc,inT]
 | minus t=>cases lf
 | two s t u=>cases lf
 | pick t u v=>cases lf
 | over w ts=>cases lf
theorem areaP_is (r c r' c':Int) (f g f' g':Bool):areaP r c r' c'=(plc (.area r c f g r' c' f' g')).map zaj:=by
 unfold areaP recP rowP plc
 rw[List.map_flatMap]
 congr 1
 funext x
 rw[List.map_map]
 rfl
theorem plc_len {u:T} (h:okT 99 26 u):(plc u).length<=2574:=by
 cases u with
 | area r c f g r' c' f' g'=>
  obtain⟨h1,h2,h3,h4,h5,h6⟩:=h
  have:=areaP_len r c r' c' ⟨h1,h2,h3⟩ ⟨h4,h5,h6⟩
  rw[areaP_is r c r' c' f g f' g',List.length_map] at this
  exact this
 | ref r c f g=>simp [plc]
 | _=>simp [plc]
theorem run_leafpl {u:T} (h:okT 99 26 u) (lf:isLeaf u=true):ze0 [enc u]=some (.ok (.own (L (plc u))),[]):=by
 refine runE rfl ?_
 show fin (zc6 [sv (enc u)])=_
 cases u with
 | ref r c f g=>
  simp only[enc]
  unfold zc6 refD
  simp -implicitDefEqProofs (disch:=lia) only [evA,if_pos,if_neg,if_true,if_false,kd,gLst1]
  rfl
 | area r c f g r' c' f' g'=>
  obtain⟨h1,h2,h3,h4,h5,h6⟩:=h
  have e1:=run_between r c r' c' ⟨h1,h2,h3⟩ ⟨h4,h5,h6⟩
  rw[areaP_is r c r' c' f g f' g'] at e1
  simp only[enc]
  unfold zc6 refD
  unfold pl at e1
  simp -implicitDefEqProofs (disch:=lia) only [evA,if_pos,if_neg,if_true,if_false,kd,e1]
  rfl
 | num n=>
  simp only[enc]
  unfold zc6
  simp -implicitDefEqProofs (disch:=lia) only [evA,if_pos,if_neg,if_true,if_false,kd,gLst0]
  rfl
 | gone=>
  simp only[enc]
  unfold zc6
  simp -implicitDefEqProofs (disch:=lia) only [evA,if_pos,if_neg,if_true,if_false,kd,gLst0]
  rfl
 | minus t=>cases lf
 | two s t u=>cases lf
 | pick t u v=>cases lf
 | over w ts=>cases lf
end Toy
namespace Toy
open PySem L2 L4
theorem L_app (a b:List (Int×Int)):a.map zaj++b.map zaj=(a++b).map zaj:=(List.map_append ..).symm
theorem mt_loop (S:Option Sl):∀ (ls:List T) (B:List (Int×Int)) (x:Option Sl),(∀ u ∈ls,okT 99 26 u/\isLeaf u=true)->B.length+ls.length * 2574<=1000000 →
  ∃ y,forD 2 ze3 (encL ls) [S,some (.own (L B)),x]=some (.next [S,some (.own (L (B++ls.flatMap plc))),y])
 | [],B,x,_,_=>⟨x,by simp [encL,e_forN]⟩
 | u::ls,B,x,h,hl=>by
  obtain⟨hu,lf⟩:=h u List.mem_cons_self
  have pl:=plc_len hu
  rw[List.length_cons,Nat.succ_mul] at hl
  obtain⟨y,e⟩:=mt_loop S ls (B++plc u) (sv (enc u)) (fun v m=>h v (List.mem_cons_of_mem _ m)) (by rw[List.length_append];lia)
  refine⟨y,?_⟩
  have r1:=run_leafpl hu lf
  have g:=gExt_of (B.map zaj) ((plc u).map zaj) (by rw[List.length_map,List.length_map];lia)
  rw[L_app] at g
  have e1:ze3 [S,some (.own (L B)),sv (enc u)]=some (.next [S,some (.own (L (B++plc u))),sv (enc u)]):=by
   unfold ze3
   unfold L at *
   simp -implicitDefEqProofs (disch:=lia) only [evA,if_pos,if_neg,if_true,if_false,evC,r1,g]
  rw[encL,e_forC]
  show forCK 2 ze3 (encL ls) (ze3 [S,some (.own (L B)),sv (enc u)])=_
  rw[e1,k_forC1,e,List.flatMap_cons,List.append_assoc]
noncomputable def Small (ps:List (Int×Int)):Prop:=∀ p ∈ps,0<=p.1/\p.1<99/\0<=p.2/\p.2<26
theorem small_len {ps:List (Int×Int)} (h:Small ps) (n:ps.Nodup):ps.length<=4000:=by
 have:ps.length<=((nums 0 99).flatMap fun x=>(nums 0 26).map fun y=>(x,y)).length:=nodup_le n fun p m=>by
  obtain⟨a,b,c,d⟩:=h p m
  simp only[List.mem_flatMap,List.mem_map,mem_nums]
  exact⟨p.1,by lia,p.2,by lia,rfl⟩
 refine Nat.le_trans this ?_
 decide
theorem zf8 {ps:List (Int×Int)} (h:ps.Pairwise ltP):ps.Nodup:=by
 refine List.nodup_iff_pairwise_ne.mpr (h.imp ?_)
 intro x y l e
 subst e
 exact ltP_irr x l
theorem sortSet_of {ps:List (Int×Int)} (g:Small ps):zeq (L ps)=some (.own (L (ordP ps))):=by
 show (match placesOf (ps.map zaj) with
  | some ps=>if ps.all (fun p=>decide (-1048576<=p.2) && decide (p.2<1048576)) && decide ((ordP ps).length<=4000) then some (Sl.own (.lst ((ordP ps).map zaj))) else none
  | none=>none)=_
 rw[placesOf_map]
 dsimp only
 rw[if_pos]
 ·rfl
 ·rw[Bool.and_eq_true,List.all_eq_true,decide_eq_true_eq]
  refine⟨fun p m => ?_,small_len (fun p m=>g p (mem_ordP.mp m)) (zf8 (zd6 ps))⟩
  have:=g p m
  rw[Bool.and_eq_true,decide_eq_true_eq,decide_eq_true_eq]
  lia
theorem run_ord {ps:List (Int×Int)} (g:Small ps):r_in_order [L ps]=some (.ok (.own (L (ordP ps))),[]):=by
 refine runE rfl ?_
 show fin (f_in_order [sv (L ps)])=_
 have e:=sortSet_of g
 unfold f_in_order
 simp -implicitDefEqProofs (disch:=lia) only [evA,if_pos,if_neg,if_true,if_false,e]
mutual
theorem in_ok {R C:Int} {p:Int×Int} : ∀ {t:T},okT R C t->inT t p->0<=p.1/\p.1<R/\0<=p.2/\p.2<C
 | .num _,_,h=>h.elim
 | .gone,_,h=>h.elim
 | .ref r c _ _,o,h=>by
  have h:p=(r,c):=h
  obtain⟨a,b,c,d⟩:=o
  rw[h]
  exact⟨a,b,c,d⟩
 | .area r c _ _ r' c' _ _,o,h=>by
  obtain⟨o1,o2,o3,o4,o5,o6⟩:=o
  obtain⟨h1,h2,h3,h4⟩:=h
  lia
 | .minus t,o,h=>in_ok (t:=t) o h
 | .two _ t u,o,h=>h.elim (in_ok o.1) (in_ok o.2)
 | .pick t u v,o,h=>h.elim (in_ok o.1) fun h=>h.elim (in_ok o.2.1) (in_ok o.2.2)
 | .over _ ts,o,h=>in_okL (ts:=ts) o h
theorem in_okL {R C:Int} {p:Int×Int} : ∀ {ts:List T},okL R C ts->inL ts p->0<=p.1/\p.1<R/\0<=p.2/\p.2<C
 | [],_,h=>h.elim
 | t::ts,o,h=>h.elim (in_ok o.1) (in_okL o.2)
end
theorem okp_parts {R C:Int} {t:T} (h:okT R C t):okL R C (parts t):=by cases t<;>simp_all [parts,okT,okL]
theorem ok_down {R C:Int} : ∀ {l:List T},okL R C l->okL R C (down l)
 | [],_=>by simp [down,okL]
 | t::l,h=>by
  rw[zfq]
  have:=ok_down h.2
  rw[okL_all] at this ⊢
  intro u m
  rcases List.mem_append.mp m with m | m
  ·exact okL_all.mp (okp_parts h.1) u m
  ·exact this u m
theorem ok_lv {R C:Int} : ∀ (n:Nat) {l:List T},okL R C l->∀ u ∈(lv n l).flatten,okT R C u
 | 0,l,_,u,m=>by simp [lv] at m
 | n+1,l,h,u,m=>by
  rw[lv] at m
  split at m
  ·simp at m
  ·rw[List.flatten_cons] at m
   rcases List.mem_append.mp m with m | m
   ·exact okL_all.mp h u m
   ·exact ok_lv n (ok_down h) u m
theorem run_meant {t:T} (hd:dp t<=900) (hs:sz t<=300) (ho:okT 99 26 t):∃ F,r_meant [enc t]=some (.ok (.own (L F)),[])/\F.Pairwise ltP/\∀ p,p ∈F ↔ inT t p:=by
 obtain⟨Ls,e1,hL⟩:=run_leaf_list t hd (by lia)
 have olv:=ok_lv (R:=99) (C:=26) (dp t) (l:=[t]) ⟨ho,trivial⟩
 have hall:∀ u ∈Ls,okT 99 26 u/\isLeaf u=true:=fun u m=>by
  rw[hL] at m
  exact⟨olv u (List.mem_filter.mp m).1,(List.mem_filter.mp m).2⟩
 have hlen:Ls.length<=300:=by
  rw[hL,lv_leaves (dp t) [t] (by rw[dpL_one];exact Nat.le_refl _)]
  have:=lvs_sz t
  simp [lvsL]
  lia
 obtain⟨y,e2⟩:=mt_loop (sv (enc t)) Ls [] none hall (by have:=Nat.mul_le_mul_right 2574 hlen;simp;lia)
 rw[List.nil_append] at e2
 have mem:∀ p,p ∈Ls.flatMap plc ↔ inT t p:=fun p=>by
  have:=in_lv (p:=p) (dp t) [t] (by rw[dpL_one];exact Nat.le_refl _)
  rw[←hL] at this
  have h1:inL [t] p ↔ inT t p:=by simp [inL]
  rw[←h1,←this,List.mem_flatMap]
  constructor
  ·rintro ⟨u,m,h⟩
   exact⟨u,m,(mem_plc (hall u m).1 (hall u m).2).mp h⟩
  ·rintro ⟨u,m,h⟩
   exact⟨u,m,(mem_plc (hall u m).1 (hall u m).2).mpr h⟩
 have sm:Small (Ls.flatMap plc):=fun p m=>in_ok ho ((mem p).mp m)
 have e3:=run_ord sm
 refine⟨ordP (Ls.flatMap plc),?_,zd6 _,fun p=>by rw[mem_ordP,mem p]⟩
 refine runE rfl ?_
 show fin (f_meant [sv (enc t),none,none])=_
 have e0:gLstD []=some (.own (L [])):=gLst0
 have it:∀ (δ:DEnv),itK (some (.ok (.own (.lst (encL Ls))),δ))=some (.ok (encL Ls),δ):=fun δ=>rfl
 unfold f_meant
 simp -implicitDefEqProofs (disch:=lia) only [evA,if_pos,if_neg,if_true,if_false,evB,evC,e0,e1,e2,e3,pv_L,it]
end Toy
namespace Toy
open PySem L2 L4
theorem fComp_of {src:FL} {fc:Option FT} {fe:FE} {δ δ' δ'':DEnv} {ds r:List D} (e:src δ=some (.ok ds,δ')) (h:compD fc fe ds [] δ'=some (r,δ'')):fComp src fc fe δ=some (.ok (.own (.lst r)),δ''):=by
 unfold fComp;rw[e,Rs.bind_ok];simp only[h]
mutual
noncomputable def plcs:T->List P2
 | .minus t=>plcs t
 | .two _ t u=>plcs t++plcs u
 | .pick t u v=>plcs t++(plcs u++plcs v)
 | .over _ ts=>plcsL ts
 | t=>plc t
noncomputable def plcsL:List T->List P2
 | []=>[]
 | t::ts=>plcs t++plcsL ts
end
theorem plcs_leaf {t:T} (h:isLeaf t=true):plcs t=plc t:=by cases t<;>simp_all [plcs,isLeaf]
theorem plcs_parts {t:T} (h:isLeaf t=false):plcs t=plcsL (parts t):=by cases t<;>simp_all [plcs,plcsL,isLeaf,parts]
theorem plcsL_len:∀ ts:List T,(∀ t ∈ts,(plcs t).length<=2574 * lvs t)->(plcsL ts).length<=2574 * lvsL ts
 | [],_=>by simp [plcsL]
 | t::ts,h=>by
  have h1:=h t List.mem_cons_self
  have h2:=plcsL_len ts fun u m=>h u (List.mem_cons_of_mem _ m)
  rw[plcsL,lvsL,List.length_append,Nat.mul_add]
  lia
theorem mem_plcsL {p:P2} : ∀ {ts:List T},p ∈plcsL ts ↔ ∃ t ∈ts,p ∈plcs t
 | []=>by simp [plcsL]
 | t::ts=>by rw[plcsL,List.mem_append,mem_plcsL];simp
theorem plcs_all:∀ (n:Nat) (t:T),dp t<=n->okT 99 26 t->(plcs t).length<=2574 * lvs t/\∀ p,p ∈plcs t ↔ inT t p
 | 0,t,h,_=>by have:=dp_pos t;lia
 | n+1,t,h,ho=>by
  cases hl:isLeaf t with
  | true=>
   rw[plcs_leaf hl,(leaf_parts hl).2]
   exact⟨plc_len ho,fun p=>mem_plc ho hl⟩
  | false=>
   have op:=okL_all.mp (okp_parts ho)
   have hd:=dp_parts t
   have ih:∀ u ∈parts t,(plcs u).length<=2574 * lvs u/\∀ p,p ∈plcs u ↔ inT u p:=fun u m=>plcs_all n u (by have:=dpL_mem m;lia) (op u m)
   rw[plcs_parts hl,lvs_parts hl]
   refine⟨plcsL_len _ fun u m=>(ih u m).1,fun p => ?_⟩
   rw[mem_plcsL,in_parts,inL_mem]
   constructor
   ·rintro ⟨u,m,h⟩;exact .inr ⟨u,m,((ih u m).2 p).mp h⟩
   ·rintro (⟨h,_⟩ | ⟨u,m,h⟩)
    ·rw[hl] at h;cases h
    ·exact⟨u,m,((ih u m).2 p).mpr h⟩
theorem row_loop (r c r' c':Int) (f g f' g':Bool) (F:Fn) (hc:0<=c/\c<=c'/\c'<26) (x1 x3:Option Sl):∀ (xs:List Int) (l:List D) (x4:Option Sl) (s:Sl),s=.own (.lst l)\/s=.val (.lst l)->l.length+xs.length * 26<=9000 →
  ∃ y4,forD 4 (zdx F) (xs.map D.int) [sv (enc (.area r c f g r' c' f' g')),x1,some s,x3,x4]=some (.next [sv (enc (.area r c f g r' c' f' g')),x1,some (if xs.isEmpty then s else .own (.lst (l++recP xs (nums c (c'+1 - c).toNat)))),x3,y4])
 | [],l,x4,s,_,_=>⟨x4,by simp [e_forN]⟩
 | x::xs,l,x4,s,hs,hl=>by
  rw[List.length_cons,Nat.succ_mul] at hl
  have ln:(rowP x (nums c (c'+1 - c).toNat)).length<=26:=by
   unfold rowP;rw[List.length_map,zej];lia
  obtain⟨y4,e⟩:=row_loop r c r' c' f g f' g' F hc x1 x3 xs (l++rowP x (nums c (c'+1 - c).toNat)) (sv (.int x)) _ (.inl rfl) (by rw[List.length_append];lia)
  refine⟨y4,?_⟩
  have cm:compD none (zfz F) (rngD c (c'+1 - c).toNat) [] [sv (enc (.area r c f g r' c' f' g')),x1,sv (.lst l),x3,sv (.int x)]=some (rowP x (nums c (c'+1 - c).toNat),[sv (enc (.area r c f g r' c' f' g')),x1,sv (.lst l),x3,sv (.int x)]):=by
   rw[rng_nums]
   have:=compD_map (fe:=zfz F) (δ:=[sv (enc (.area r c f g r' c' f' g')),x1,sv (.lst l),x3,sv (.int x)]) (g:=fun d=>.tup [.int x,d]) ((nums c (c'+1 - c).toNat).map D.int) [] (fun d _=>⟨.val (.tup [.int x,d]),by unfold zfz;simp -implicitDefEqProofs (disch:=lia) only [evA,if_pos,if_neg,if_true,if_false,gTup2],rfl⟩) (by rw[List.length_map,zej,zbx];simp;lia)
   rw[this,List.nil_append,List.map_map]
   rfl
  have src:fRng2 (fCons (fOp ixD (fOp ixD (fOp ixD (fVar 0) (fC (.int 1))) (fC (.int 1))) (fC (.int 1))) (fCons (fOp addD (fOp ixD (fOp ixD (fOp ixD (fVar 0) (fC (.int 2))) (fC (.int 1))) (fC (.int 1))) (fC (.int 1))) fNil)) [sv (enc (.area r c f g r' c' f' g')),x1,sv (.lst l),x3,sv (.int x)]=some (.ok (rngD c (c'+1 - c).toNat),[sv (enc (.area r c f g r' c' f' g')),x1,sv (.lst l),x3,sv (.int x)]):=by
   simp only[enc,refD]
   simp -implicitDefEqProofs (disch:=lia) only [evA,if_pos,if_neg,if_true,if_false,e_rng2,k_rng2]
  have cp:=fComp_of src cm
  have ca:=catL l (rowP x (nums c (c'+1 - c).toNat)) (by lia)
  have e1:zdx F [sv (enc (.area r c f g r' c' f' g')),x1,some s,x3,sv (.int x)]=some (.next [sv (enc (.area r c f g r' c' f' g')),x1,some (.own (.lst (l++rowP x (nums c (c'+1 - c).toNat)))),x3,sv (.int x)]):=by
   unfold zdx
   rcases hs with rfl | rfl<;>simp -implicitDefEqProofs (disch:=lia) only [evA,if_pos,if_neg,if_true,if_false,cp,ca]
  rw[List.map_cons,e_forC]
  show forCK 4 (zdx F) (xs.map D.int) (zdx F [sv (enc (.area r c f g r' c' f' g')),x1,some s,x3,sv (.int x)])=_
  rw[e1,k_forC1,e,recP_cons,List.append_assoc]
  cases xs with
  | nil=>simp [recP]
  | cons a b=>rfl
theorem part_loop (E x1 x4:Option Sl) (F:Fn):∀ (ts:List T) (B:List P2) (x3:Option Sl),(∀ t ∈ts,F [enc t]=some (.ok (.own (L (plcs t))),[]))->B.length+(plcsL ts).length<=1000000 →
  ∃ y3,forD 3 (zdj F) (encL ts) [E,x1,some (.own (L B)),x3,x4]=some (.next [E,x1,some (.own (L (B++plcsL ts))),y3,x4])
 | [],B,x3,_,_=>⟨x3,by simp [encL,e_forN,plcsL]⟩
 | t::ts,B,x3,h,hl=>by
  rw[plcsL,List.length_append] at hl
  obtain⟨y3,e⟩:=part_loop E x1 x4 F ts (B++plcs t) (sv (enc t)) (fun u m=>h u (List.mem_cons_of_mem _ m)) (by rw[List.length_append];lia)
  refine⟨y3,?_⟩
  have r1:=h t List.mem_cons_self
  have ca:=catL (B.map zaj) ((plcs t).map zaj) (by rw[List.length_map,List.length_map];lia)
  rw[L_app] at ca
  have e1:zdj F [E,x1,some (.own (L B)),sv (enc t),x4]=some (.next [E,x1,some (.own (L (B++plcs t))),sv (enc t),x4]):=by
   unfold zdj
   unfold L at *
   simp -implicitDefEqProofs (disch:=lia) only [evA,if_pos,if_neg,if_true,if_false,r1,ca]
  rw[encL,e_forC]
  show forCK 3 (zdj F) (encL ts) (zdj F [E,x1,some (.own (L B)),sv (enc t),x4])=_
  rw[e1,k_forC1,e,plcsL,List.append_assoc]
theorem kn:eqOp false (.str "ref") (.str "num")=some (.val (.bl false))/\eqOp false (.str "minus") (.str "num")=some (.val (.bl false))/\eqOp false (.str "two") (.str "num")=some (.val (.bl false))/\eqOp false (.str "pick") (.str "num")=some (.val (.bl false))/\eqOp false (.str "over") (.str "num")=some (.val (.bl false))/\eqOp false (.str "num") (.str "num")=some (.val (.bl true))/\eqOp false (.str "gone") (.str "num")=some (.val (.bl false)) ∧
  eqOp false (.str "gone") (.str "gone")=some (.val (.bl true))/\eqOp false (.str "minus") (.str "gone")=some (.val (.bl false))/\eqOp false (.str "two") (.str "gone")=some (.val (.bl false))/\eqOp false (.str "pick") (.str "gone")=some (.val (.bl false))/\eqOp false (.str "over") (.str "gone")=some (.val (.bl false)):=by
 refine⟨?_,?_,?_,?_,?_,?_,?_,?_,?_,?_,?_,?_⟩<;>kernel_rfl
theorem me_s (n:Nat) (ds:List D):zb3 (n+1) ds=runD 5 1 [] (zc1 (zb3 n)) ds:=rfl
theorem run_means:∀ (n:Nat) (t:T),dp t<=n->okT 99 26 t->sz t<=300->zb3 n [enc t]=some (.ok (.own (L (plcs t))),[])
 | 0,t,h,_,_=>by have:=dp_pos t;lia
 | n+1,t,h,ho,hs=>by
  have ih:∀ u ∈parts t,zb3 n [enc u]=some (.ok (.own (L (plcs u))),[]):=fun u m=>run_means n u (by have:=dp_parts t;have:=dpL_mem m;lia) (okL_all.mp (okp_parts ho) u m) (by have:=sz_parts t;have:=szL_mem m;lia)
  have e0:gLstD []=some (.own (L [])):=gLst0
  have rest:isLeaf t=false->∀ s:Sl,s=.own (.lst (encL (parts t)))\/s=.val (.lst (encL (parts t)))->fin (f_q_means_6 (zb3 n) [sv (enc t),some s,none,none,none])=some (.ok (.own (L (plcs t))),[]):=fun hp s hsl=>by
   have ln:=(plcs_all (dp t) t (Nat.le_refl _) ho).1
   have lz:=lvs_sz t
   rw[plcs_parts hp] at ln
   obtain⟨y2,e⟩:=part_loop (sv (enc t)) (sv (.lst (encL (parts t)))) none (zb3 n) (parts t) [] none ih (by
    have:=Nat.mul_le_mul_left 2574 (Nat.le_trans lz hs)
    simp only[List.length_nil]
    lia)
   rw[List.nil_append,←plcs_parts hp] at e
   unfold f_q_means_6 f_q_means_7 f_q_means_8
   have it:∀ (δ:DEnv),itK (some (.ok (.val (.lst (encL (parts t)))),δ))=some (.ok (encL (parts t)),δ):=fun δ=>rfl
   rcases hsl with rfl | rfl<;>simp -implicitDefEqProofs (disch:=lia) only [evA,if_pos,if_neg,if_true,if_false,evB,evC,e0,it,e]
  rw[me_s]
  refine runE rfl ?_
  show fin (zc1 (zb3 n) [sv (enc t),none,none,none,none])=_
  cases t with
  | ref r c a b=>
   clear rest
   unfold zc1
   simp only[enc,refD]
   simp -implicitDefEqProofs (disch:=lia) only [evA,if_pos,if_neg,if_true,if_false,kd,gLst1]
   rfl
  | area r c a b r' c' a' b'=>
   clear rest
   obtain⟨h1,h2,h3,h4,h5,h6⟩:0<=r/\r<=r'/\r'<99/\0<=c/\c<=c'/\c'<26:=ho
   obtain⟨y4,e⟩:=row_loop r c r' c' a b a' b' (zb3 n) ⟨h4,h5,h6⟩ none none (nums r (r'+1 - r).toNat) [] none _ (.inl rfl) (by rw[zej];simp;lia)
   rw[List.nil_append,←rng_nums,show recP (nums r (r'+1 - r).toNat) (nums c (c'+1 - c).toNat)=_ from areaP_is r c r' c' a b a' b',show (nums r (r'+1 - r).toNat).isEmpty=false by
    rw[List.isEmpty_eq_false_iff_exists_mem]
    exact⟨r,mem_nums.mpr (by lia)⟩] at e
   unfold zc1 zc5
   simp only[enc,refD] at e ⊢
   simp -implicitDefEqProofs (disch:=lia) only [evA,if_pos,if_neg,if_true,if_false,kd,e_rng2,k_rng2,gLst0,e]
   rfl
  | num m=>
   clear rest
   unfold zc1 zc5 zc9
   simp only[enc]
   simp -implicitDefEqProofs (disch:=lia) only [evA,if_pos,if_neg,if_true,if_false,kd,kn,gLst0]
   rfl
  | gone=>
   clear rest
   unfold zc1 zc5 zc9
   simp only[enc]
   simp -implicitDefEqProofs (disch:=lia) only [evA,if_pos,if_neg,if_true,if_false,kd,kn,gLst0]
   rfl
  | minus u=>
   have:=rest rfl _ (.inl rfl)
   unfold zc1 zc5 zc9 ze8 ze5 ze6
   have sl:slSD (.tup [.str "minus",enc u]) (some 1) none=some (.val (.tup [enc u])):=rfl
   have li:listD (.tup [enc u])=some (.own (.lst [enc u])):=rfl
   simp only[enc,parts,encL] at this ⊢
   simp -implicitDefEqProofs (disch:=lia) only [evA,if_pos,if_neg,if_true,if_false,kd,kn,evC,evD,sl,li]
   exact this
  | two w u v=>
   have:=rest rfl _ (.inl rfl)
   unfold zc1 zc5 zc9 ze8 ze5 ze6
   have sl:slSD (.tup [.str "two",.str (sgS w),enc u,enc v]) (some 1) none=some (.val (.tup [.str (sgS w),enc u,enc v])):=rfl
   have li:listD (.tup [.str (sgS w),enc u,enc v])=some (.own (.lst [.str (sgS w),enc u,enc v])):=rfl
   simp only[enc,parts,encL] at this ⊢
   simp -implicitDefEqProofs (disch:=lia) only [evA,if_pos,if_neg,if_true,if_false,kd,kn,evC,evD,sl,li]
   exact this
  | pick u v w=>
   have:=rest rfl _ (.inl rfl)
   unfold zc1 zc5 zc9 ze8 ze5 ze6
   have sl:slSD (.tup [.str "pick",enc u,enc v,enc w]) (some 1) none=some (.val (.tup [enc u,enc v,enc w])):=rfl
   have li:listD (.tup [enc u,enc v,enc w])=some (.own (.lst [enc u,enc v,enc w])):=rfl
   simp only[enc,parts,encL] at this ⊢
   simp -implicitDefEqProofs (disch:=lia) only [evA,if_pos,if_neg,if_true,if_false,kd,kn,evC,evD,sl,li]
   exact this
  | over w ts=>
   have:=rest rfl _ (.inr rfl)
   unfold zc1 zc5 zc9 ze8 ze5 ze6
   have sl:slSD (.tup [.str "over",.str (wdS w),.lst (encL ts)]) (some 1) none=some (.val (.tup [.str (wdS w),.lst (encL ts)])):=rfl
   have li:listD (.tup [.str (wdS w),.lst (encL ts)])=some (.own (.lst [.str (wdS w),.lst (encL ts)])):=rfl
   simp only[enc,parts] at this ⊢
   simp -implicitDefEqProofs (disch:=lia) only [evA,if_pos,if_neg,if_true,if_false,kd,kn,evC,evD,sl,li]
   exact this
end Toy
namespace Toy
open PySem L2 L4
noncomputable def mix (c k:Int):Int:=(c * 48271+k * 69621+11) % 1000003
theorem run_mix (c k:Int):r_q_mix [.int c,.int k]=some (.ok (.val (.int (mix c k))),[]):=by
 refine runE rfl ?_
 show fin (f_q_mix [sv (.int c),sv (.int k)])=_
 unfold f_q_mix mix
 simp -implicitDefEqProofs (disch:=lia) only [evA,if_pos,if_neg,if_true,if_false,evA]
structure Gd (d s:Nat) (t:T):Prop where
 ok:okT 99 26 t
 dp:dp t<=d
 sz:sz t<=s
noncomputable def Md (d s:Nat) (r:Option (Except XD Sl×List D)):Prop:=∃ t,r=some (.ok (.val (enc t)),[])/\Gd d s t
noncomputable def Far (f:P2):Prop:=0<=f.1/\f.1<=95/\0<=f.2/\f.2<=22
theorem ix0_pl (f:P2):ixD (zaj f) (.int 0)=some (.val (.int f.1)):=rfl
theorem ix1_pl (f:P2):ixD (zaj f) (.int 1)=some (.val (.int f.2)):=rfl
theorem run_ref {f:P2} (hf:Far f) (c:Int):Md 1 1 (r_q_ref [.int c,zaj f]):=by
 obtain⟨h1,h2,h3,h4⟩:=hf
 refine⟨.ref (f.1+c % 4) (f.2+c / 4 % 4) (decide (c / 16 % 2=1)) (decide (c / 32 % 2=1)),?_,⟨by lia,by lia,by lia,by lia⟩,Nat.le_refl _,Nat.le_refl _⟩
 refine runE rfl ?_
 show fin (f_q_ref [sv (.int c),sv (zaj f)])=_
 unfold f_q_ref
 have i0:=ix0_pl f
 have i1:=ix1_pl f
 generalize zaj f=F at *
 simp only[enc,refD]
 simp -implicitDefEqProofs (disch:=lia) only [evA,if_pos,if_neg,if_true,if_false,i0,i1]
theorem run_area {f:P2} (hf:Far f) (c:Int):Md 1 1 (r_q_area [.int c,zaj f]):=by
 obtain⟨h1,h2,h3,h4⟩:=hf
 refine⟨.area (f.1+c % 4) (f.2+c / 4 % 4) false true (f.1+max (c % 4) (c / 16 % 4)) (f.2+max (c / 4 % 4) (c / 64 % 4)) false false,?_,⟨by lia,by lia,by lia,by lia,by lia,by lia⟩,Nat.le_refl _,Nat.le_refl _⟩
 refine runE rfl ?_
 show fin (f_q_area [sv (.int c),sv (zaj f),none,none,none])=_
 unfold f_q_area
 have i0:=ix0_pl f
 have i1:=ix1_pl f
 generalize zaj f=F at *
 simp only[enc,refD]
 simp -implicitDefEqProofs (disch:=lia) only [evA,if_pos,if_neg,if_true,if_false,i0,i1]
noncomputable def most:Nat->Nat
 | 0=>1
 | n+1=>3 * most n+2 * n+6
theorem most_pos:∀ n,1<=most n
 | 0=>Nat.le_refl _
 | n+1=>by rw[most];lia
theorem Gd.up {d s d' s':Nat} {t:T} (h:Gd d s t) (h1:d<=d') (h2:s<=s'):Gd d' s' t:=⟨h.ok,Nat.le_trans h.dp h1,Nat.le_trans h.sz h2⟩
theorem pure_no {f:FE} {δ δ1:DEnv} {d:D} {r:Rs Sl} (h:f (frzE δ)=some (.ok (.val d),δ1)) (n:noLst d=false) (e:f δ=r):fPure f δ=r:=by
 unfold fPure;rw[h];show (if noLst d=true then _ else f δ)=_;rw[n,if_neg (by decide),e]
theorem word_ix (c:Int):∃ w,ixD (.lst [.str "SUM",.str "COUNT",.str "MAX"]) (.int (c % 3))=some (.val (.str (wdS w))):=by
 obtain e | e | e:c % 3=0\/c % 3=1\/c % 3=2:=by lia
 ·exact⟨0,by rw[e];rfl⟩
 ·exact⟨1,by rw[e];rfl⟩
 ·exact⟨2,by rw[e];rfl⟩
theorem sign_ix (c:Int):∃ w,ixD (.lst [.str "+",.str "-",.str "*",.str "/",.str "<",.str "="]) (.int (c % 6))=some (.val (.str (sgS w))):=by
 obtain e | e | e | e | e | e:c % 6=0\/c % 6=1\/c % 6=2\/c % 6=3\/c % 6=4\/c % 6=5:=by lia
 ·exact⟨0,by rw[e];rfl⟩
 ·exact⟨1,by rw[e];rfl⟩
 ·exact⟨2,by rw[e];rfl⟩
 ·exact⟨3,by rw[e];rfl⟩
 ·exact⟨4,by rw[e];rfl⟩
 ·exact⟨5,by rw[e];rfl⟩
structure Prt (d s k:Nat) (ts:List T):Prop where
 ok:okL 99 26 ts
 dp:dpL ts<=d
 sz:szL ts<=min k 2 * s+k
 len:ts.length=k
theorem Prt.add {d s k s':Nat} {ts:List T} {t:T} (h:Prt d s k ts) (g:Gd d s' t) (hs:s'<=1\/k<=1/\s'<=s):Prt d s (k+1) (ts++[t]):=by
 refine⟨okL_all.mpr fun u m => ?_,?_,?_,by rw[List.length_append,h.len];rfl⟩
 ·rcases List.mem_append.mp m with m | m
  ·exact okL_all.mp h.ok u m
  ·rw[List.mem_singleton.mp m];exact g.ok
 ·rw[dpL_append,dpL_one];have:=h.dp;have:=g.dp;lia
 ·rw[szL_append,szL_one]
  have:=h.sz
  have:=g.sz
  obtain rfl | rfl | hk:k=0\/k=1\/2<=k:=by lia
  ·simp at *; lia
  ·simp at *; lia
  ·rw[Nat.min_eq_right hk] at *
   rw[Nat.min_eq_right (by lia:2<=k+1)]
   lia
theorem over_turn {f:P2} (hf:Far f) {F G:Fn} {d s k:Nat} (hd:1<=d) (hG:∀ c:Int,Md d s (G [.int c,zaj f,.int ((d:Int) - 1)])) (c:Int) {ts:List T} (h:Prt d s k ts) (hk:k<=1000) (x5:Option Sl):
  ∃ ts' y5,lb_q_over_1 F G [sv (.int c),sv (zaj f),sv (.int d),some (.own (.lst (encL ts))),sv (.int k),x5]=some (.next [sv (.int c),sv (zaj f),sv (.int d),some (.own (.lst (encL ts'))),sv (.int k),y5])/\Prt d s (k+1) ts':=by
 have m1:=run_mix c ((k:Int)+5)
 generalize mix c ((k:Int)+5)=m at m1
 obtain⟨t1,r1,g1⟩:=run_ref hf (m / 3)
 obtain⟨t2,r2,g2⟩:=hG (m / 3)
 obtain⟨t3,r3,g3⟩:=run_area hf (m / 3)
 have ga:∀ t,gAppend (encL ts) [enc t]=some (encL (ts++[t]),.non):=fun t=>by
  rw[gApp_of _ _ (by rw[ze7,h.len];lia),encL_append];rfl
 unfold lb_q_over_1
 generalize zaj f=P at *
 by_cases h0:m % 3=0
 ·exact⟨_,sv (.int m),by simp -implicitDefEqProofs (disch:=lia) only [evA,if_pos,if_neg,if_true,if_false,evC,m1,r1,ga],h.add (g1.up hd (Nat.le_refl _)) (.inl (Nat.le_refl _))⟩
 by_cases h1:m % 3=1
 ·by_cases h2:1<(k:Int)
  ·exact⟨_,sv (.int m),by simp -implicitDefEqProofs (disch:=lia) only [evA,if_pos,if_neg,if_true,if_false,evC,m1,r1,ga],h.add (g1.up hd (Nat.le_refl _)) (.inl (Nat.le_refl _))⟩
  ·exact⟨_,sv (.int m),by simp -implicitDefEqProofs (disch:=lia) only [evA,if_pos,if_neg,if_true,if_false,evC,m1,r2,ga],h.add g2 (.inr ⟨by lia,Nat.le_refl _⟩)⟩
 ·refine⟨_,sv (.int m),?_,h.add (g3.up hd (Nat.le_refl _)) (.inl (Nat.le_refl _))⟩
  by_cases h2:1<(k:Int)<;>simp -implicitDefEqProofs (disch:=lia) only [evA,if_pos,if_neg,if_true,if_false,evC,m1,r3,ga]
theorem run_over {f:P2} (hf:Far f) {F G:Fn} {d:Nat} (hG:∀ c:Int,Md (d+1) (most d) (G [.int c,zaj f,.int (((d+1:Nat):Int) - 1)])) (hd:d<=10) (c:Int):Md (d+2) (most (d+1)) (runD 6 3 [] (f_q_over F G) [.int c,zaj f,.int (d+1:Nat)]):=by
 obtain⟨n,hn⟩:∃ n:Nat,1+c / 3 % (2+2 * ((d+1:Nat):Int))=n:=⟨(1+c / 3 % (2+2 * ((d+1:Nat):Int))).toNat,by have:=Int.emod_nonneg (c / 3) (show (2+2 * ((d+1:Nat):Int)) ≠ 0 by lia);lia⟩
 have hn2:n<=2 * d+4:=by have:=Int.emod_lt_of_pos (c / 3) (show 0<(2+2 * ((d+1:Nat):Int)) by lia);lia
 obtain⟨δ',e,ts,x4,x5,rfl,p⟩:=forD_ind (i:=4) (F:=lb_q_over_1 F G) (fun k δ=>∃ ts x4 x5,δ=[sv (.int c),sv (zaj f),sv (.int (d+1:Nat)),some (.own (.lst (encL ts))),x4,x5]/\Prt (d+1) (most d) k ts) (rngD 0 n) 0 [sv (.int c),sv (zaj f),sv (.int (d+1:Nat)),some (.own (.lst (encL []))),none,none] (by
  rintro k x δ hk ⟨ts,x4,x5,rfl,p⟩
  obtain⟨hk1,rfl⟩:=rng_at hk
  rw[Nat.zero_add] at p
  obtain⟨ts',y5,e,p'⟩:=over_turn hf (F:=F) (by lia) hG c p (by lia) x5
  exact⟨_,by rw[Int.zero_add];exact e,ts',_,y5,rfl,by rw[Nat.zero_add];exact p'⟩) ⟨[],none,none,rfl,⟨trivial,by simp [dpL],by simp [szL],rfl⟩⟩
 rw[rng_len,Nat.zero_add] at p
 obtain⟨w,hw⟩:=word_ix c
 refine⟨.over w ts,?_,p.ok,by rw[dp];have:=p.dp;lia,?_⟩
 ·refine runE rfl ?_
  show fin (f_q_over F G [sv (.int c),sv (zaj f),sv (.int (d+1:Nat)),none,none,none])=_
  have rk:=k_rng1 (n:Int)
  have gl:gLstD [D.str "SUM",.str "COUNT",.str "MAX"]=some (.own (.lst [.str "SUM",.str "COUNT",.str "MAX"])):=gLst_of _ (by simp)
  have g0:gLstD []=some (.own (.lst (encL []))):=gLst0
  have pu:fPure (fArgs gTupD (fCons (fC (.str "over")) (fCons (fOp ixD (fArgs gLstD (fCons (fC (.str "SUM")) (fCons (fC (.str "COUNT")) (fCons (fC (.str "MAX")) fNil)))) (fOp modD (fVar 0) (fC (.int 3)))) (fCons (fVar 3) fNil)))) [sv (.int c),sv (zaj f),sv (.int (d+1:Nat)),some (.own (.lst (encL ts))),x4,x5]=some (.ok (.val (enc (.over w ts))),[sv (.int c),sv (zaj f),sv (.int (d+1:Nat)),sv (.lst (encL ts)),x4,x5]):=by
   refine pure_no (d:=enc (.over w ts)) (δ1:=frzE [sv (.int c),sv (zaj f),sv (.int (d+1:Nat)),some (.own (.lst (encL ts))),x4,x5]) ?_ (by simp [enc,noLst,noLsts]) ?_
   ·have:frzE [sv (.int c),sv (zaj f),sv (.int (d+1:Nat)),some (.own (.lst (encL ts))),x4,x5]=[sv (.int c),sv (zaj f),sv (.int (d+1:Nat)),sv (.lst (encL ts)),frzS x4,frzS x5]:=rfl
    rw[this]
    simp only[enc]
    simp -implicitDefEqProofs (disch:=lia) only [evA,if_pos,if_neg,if_true,if_false,gl,hw]
   ·simp only[enc]
    simp -implicitDefEqProofs (disch:=lia) only [evA,if_pos,if_neg,if_true,if_false,gl,hw]
  unfold f_q_over
  generalize zaj f=P at *
  simp -implicitDefEqProofs (disch:=lia) only [evA,if_pos,if_neg,if_true,if_false,evC,e_rng1,g0,hn,rk,Int.toNat_natCast,e,pu]
 ·rw[sz,most];have:=p.sz;have:min n 2<=2:=Nat.min_le_right _ _;have:=Nat.mul_le_mul_right (most d) this;have:=most_pos d;lia
end Toy
namespace Toy
open PySem L2 L4
theorem leaf_ix {a b c d:T} (h1:Gd 1 1 a) (h2:Gd 1 1 b) (h3:Gd 1 1 c) (h4:Gd 1 1 d) (m:Int):∃ t,ixD (.lst [enc a,enc b,enc c,enc d]) (.int (m % 4 * (m / 4 % 2)))=some (.val (enc t))/\Gd 1 1 t:=by
 obtain e | e:m / 4 % 2=0\/m / 4 % 2=1:=by lia
 ·exact⟨a,by rw[e,Int.mul_zero];rfl,h1⟩
 ·obtain e' | e' | e' | e':m % 4=0\/m % 4=1\/m % 4=2\/m % 4=3:=by lia
  ·exact⟨a,by rw[e,e'];rfl,h1⟩
  ·exact⟨b,by rw[e,e'];rfl,h2⟩
  ·exact⟨c,by rw[e,e'];rfl,h3⟩
  ·exact⟨d,by rw[e,e'];rfl,h4⟩
theorem gLst4 (a b c d:D):gLstD [a,b,c,d]=some (.own (.lst [a,b,c,d])):=gLst_of _ (by simp)
theorem gd_num (n:Int):Gd 1 1 (.num n):=⟨trivial,Nat.le_refl _,Nat.le_refl _⟩
theorem gd_gone:Gd 1 1 .gone:=⟨trivial,Nat.le_refl _,Nat.le_refl _⟩
theorem tree_leaf {f:P2} (hf:Far f) {F G:Fn} (c d:Int) (h:d=0\/c % 9=0):Md 1 1 (runD 7 3 [] (zex F G) [.int c,zaj f,.int d]):=by
 obtain⟨t1,r1,g1⟩:=run_ref hf (c / 9)
 obtain⟨t,e,g⟩:=leaf_ix g1 (gd_num (c / 9 % 11)) g1 gd_gone (c / 9)
 refine⟨t,?_,g⟩
 refine runE rfl ?_
 show fin (zex F G [sv (.int c),sv (zaj f),sv (.int d),none,none,none,none])=_
 unfold zex f_q_tree_1 f_q_tree_2
 generalize zaj f=P at *
 simp only[enc] at e
 have gl:=gLst4 (enc t1) (.tup [.str "num",.int (c / 9 % 11)]) (enc t1) (.tup [.str "gone"])
 rcases h with h | h
 ·subst h
  simp -implicitDefEqProofs (disch:=lia) only [evA,if_pos,if_neg,if_true,if_false,evD,r1,gl,e]
 ·by_cases h0:d=0
  ·subst h0
   simp -implicitDefEqProofs (disch:=lia) only [evA,if_pos,if_neg,if_true,if_false,evD,r1,gl,e]
  ·simp -implicitDefEqProofs (disch:=lia) only [evA,if_pos,if_neg,if_true,if_false,evD,r1,gl,e]
theorem tree_node {f:P2} (hf:Far f) {F G:Fn} {d:Nat} (hF:∀ c:Int,Md (d+2) (most (d+1)) (F [.int c,zaj f,.int (d+1:Nat)])) (hG:∀ c:Int,Md (d+1) (most d) (G [.int c,zaj f,.int (((d+1:Nat):Int) - 1)])) (c:Int) (h:c % 9 ≠ 0):Md (d+2) (most (d+1)) (runD 7 3 [] (zex F G) [.int c,zaj f,.int (d+1:Nat)]):=by
 obtain⟨t0,r0,g0⟩:=hF (c / 9)
 obtain⟨ta,ra,ga⟩:=run_ref hf (c / 9)
 have m1:=run_mix c 1
 have m2:=run_mix c 2
 have m3:=run_mix c 3
 obtain⟨t1,r1,g1⟩:=hG (mix c 1)
 obtain⟨t2,r2,g2⟩:=hG (mix c 2)
 obtain⟨t3,r3,g3⟩:=hG (mix c 3)
 obtain⟨w,hw⟩:=sign_ix (c / 9)
 have gl:gLstD [D.str "+",.str "-",.str "*",.str "/",.str "<",.str "="]=some (.own (.lst [.str "+",.str "-",.str "*",.str "/",.str "<",.str "="])):=gLst_of _ (by simp)
 have h0:¬ ((d+1:Nat):Int)=0:=by lia
 have mp:=most_pos d
 have run:∀ t,fin (f_q_tree_2 F G [sv (.int c),sv (zaj f),sv (.int (d+1:Nat)),sv (.int (c % 9)),sv (.int (c / 9)),none,none])=some (.ok (.val (enc t)),[])->Gd (d+2) (most (d+1)) t->Md (d+2) (most (d+1)) (runD 7 3 [] (zex F G) [.int c,zaj f,.int (d+1:Nat)]):=fun t e g=>by
  refine⟨t,runE rfl ?_,g⟩
  show fin (zex F G [sv (.int c),sv (zaj f),sv (.int (d+1:Nat)),none,none,none,none])=_
  unfold zex f_q_tree_1
  generalize zaj f=P at *
  simp -implicitDefEqProofs (disch:=lia) only [evA,if_pos,if_neg,if_true,if_false,e]
 have in2:=g1.dp
 have in3:=g2.dp
 have in4:=g3.dp
 have in5:=ga.dp
 have s1:=g1.sz
 have s2:=g2.sz
 have s3:=g3.sz
 have s4:=ga.sz
 unfold f_q_tree_2 at run
 by_cases c1:c % 9<3
 ·refine run t0 ?_ g0
  unfold zd5
  generalize zaj f=P at *
  simp -implicitDefEqProofs (disch:=lia) only [evA,if_pos,if_neg,if_true,if_false,r0]
 by_cases c3:c % 9=3
 ·refine run (.minus t1) ?_ ⟨g1.ok,by rw[dp];lia,by rw[sz,most];lia⟩
  unfold zd5 ze2 ze1
  generalize zaj f=P at *
  simp only[enc]
  simp -implicitDefEqProofs (disch:=lia) only [evA,if_pos,if_neg,if_true,if_false,m1,r1]
 by_cases c4:c % 9=4
 ·refine run (.pick ta t1 t2) ?_ ⟨⟨ga.ok,g1.ok,g2.ok⟩,by rw[dp];lia,by rw[sz,most];lia⟩
  unfold zd5 ze2 ze1 zf5 zf9
  generalize zaj f=P at *
  simp only[enc]
  simp -implicitDefEqProofs (disch:=lia) only [evA,if_pos,if_neg,if_true,if_false,m1,r1,m2,r2,ra]
 by_cases c5:c % 9=5
 ·refine run (.pick t1 t2 t3) ?_ ⟨⟨g1.ok,g2.ok,g3.ok⟩,by rw[dp];lia,by rw[sz,most];lia⟩
  unfold zd5 ze2 ze1 zf5 zf9 f_q_tree_8
  generalize zaj f=P at *
  simp only[enc]
  simp -implicitDefEqProofs (disch:=lia) only [evA,if_pos,if_neg,if_true,if_false,m1,r1,m2,r2,m3,r3]
 by_cases c6:c % 9=6
 ·refine run (.two 0 ta (.num 1)) ?_ ⟨⟨ga.ok,trivial⟩,by simp only[dp];lia,by simp only[sz,most];lia⟩
  unfold zd5 ze2 ze1 zf5 zf9 f_q_tree_8 f_q_tree_9
  generalize zaj f=P at *
  simp only[enc,sgS]
  simp -implicitDefEqProofs (disch:=lia) only [evA,if_pos,if_neg,if_true,if_false,m1,r1,m2,r2,ra]
 ·refine run (.two w t1 t2) ?_ ⟨⟨g1.ok,g2.ok⟩,by rw[dp];lia,by rw[sz,most];lia⟩
  unfold zd5 ze2 ze1 zf5 zf9 f_q_tree_8 f_q_tree_9 f_q_tree_10
  generalize zaj f=P at *
  simp only[enc]
  simp -implicitDefEqProofs (disch:=lia) only [evA,if_pos,if_neg,if_true,if_false,m1,r1,m2,r2,gl,hw]
theorem Md.up {d s d' s':Nat} {r:Option (Except XD Sl×List D)} (h:Md d s r) (h1:d<=d') (h2:s<=s'):Md d' s' r:=let ⟨t,e,g⟩:=h;⟨t,e,g.up h1 h2⟩
theorem run_trees {f:P2} (hf:Far f):∀ n:Nat,(∀ (d:Nat) (c:Int),d<=10->2 * d+1<=n->Md (d+1) (most d) (r_q_tree n [.int c,zaj f,.int d]))/\∀ (d:Nat) (c:Int),d<=9->2 * d+2<=n->Md (d+2) (most (d+1)) (r_q_over n [.int c,zaj f,.int (d+1:Nat)])
 | 0=>⟨fun d c _ h=>by lia,fun d c _ h=>by lia⟩
 | n+1=>by
  obtain⟨i1,i2⟩:=run_trees hf n
  have hG:∀ (d:Nat) (c:Int),d<=9->2 * d+2<=n+1->Md (d+1) (most d) (r_q_tree n [.int c,zaj f,.int (((d+1:Nat):Int) - 1)]):=fun d c h1 h2=>by
   rw[show ((d+1:Nat):Int) - 1=(d:Int) by lia]
   exact i1 d c (by lia) (by lia)
  refine⟨fun d c h1 h2 => ?_,fun d c h1 h2=>run_over hf (fun c=>hG d c h1 (by lia)) (by lia) c⟩
  show Md (d+1) (most d) (runD 7 3 [] (zex (r_q_over n) (r_q_tree n)) [.int c,zaj f,.int d])
  by_cases h:(d:Int)=0\/c % 9=0
  ·exact (tree_leaf hf c d h).up (by lia) (most_pos d)
  ·obtain⟨e,rfl⟩:∃ e,d=e+1:=⟨d - 1,by lia⟩
   exact tree_node hf (fun c=>i2 e c (by lia) (by lia)) (fun c=>hG e c (by lia) (by lia)) c fun z=>h (.inr z)
noncomputable def Val (d:D):Prop:=(∃ i,d=.int i)\/∃ t,d=enc t/\Gd 4 300 t
theorem num_ix (a b c d:Int) (m n:Int) (h:0<=m/\m<4) (h':n=0\/n=1):∃ i,ixD (.lst [.int a,.int b,.int c,.int d]) (.int (m * n))=some (.val (.int i)):=by
 rcases h' with rfl | rfl
 ·exact⟨a,by rw[Int.mul_zero];rfl⟩
 ·rw[Int.mul_one]
  obtain rfl | rfl | rfl | rfl:m=0\/m=1\/m=2\/m=3:=by lia
  ·exact⟨a,rfl⟩
  ·exact⟨b,rfl⟩
  ·exact⟨c,rfl⟩
  ·exact⟨d,rfl⟩
theorem run_content {f:P2} (hf:Far f) (c:Int) (hc:0<=c/\c<1000003):∃ v,zfj [.int c,zaj f]=some (.ok (.val v),[])/\(v=.non\/Val v):=by
 have top:∀ v,fin (f_q_content [sv (.int c),sv (zaj f)])=some (.ok (.val v),[])->zfj [.int c,zaj f]=some (.ok (.val v),[]):=fun v e=>runE rfl e
 unfold f_q_content at top
 by_cases h0:c % 8=0
 ·refine⟨.non,top _ ?_,.inl rfl⟩
  generalize zaj f=P
  simp -implicitDefEqProofs (disch:=lia) only [evA,if_pos,if_neg,if_true,if_false,evA]
 by_cases h4:c % 8<4
 ·obtain⟨i,e⟩:=num_ix (c / 8 % 9 - 4) 0 (c ^ 5) (-c ^ 5) (c / 72 % 8 / 2) (c / 576 % 2) (by lia) (by lia)
  refine⟨.int i,top _ ?_,.inr (.inl ⟨i,rfl⟩)⟩
  have pw:powD (.int c) (.int 5)=some (.val (.int (c ^ 5))):=by
   show (if cPow c 5=true then some (Sl.val (D.int (c ^ (5:Int).toNat))) else none)=_
   rw[if_pos]
   ·rfl
   ·unfold cPow
    rw[decide_eq_true (show c.natAbs<2 ^ 64 by lia)];rfl
  have gl:=gLst4 (.int (c / 8 % 9 - 4)) (.int 0) (.int (c ^ 5)) (.int (-c ^ 5))
  generalize zaj f=P
  simp -implicitDefEqProofs (disch:=lia) only [evA,if_pos,if_neg,if_true,if_false,pw,gl,e]
 ·obtain⟨d,hd⟩:∃ d:Nat,1+c % 3=d:=⟨(1+c % 3).toNat,by lia⟩
  obtain⟨t,e,g⟩:=(run_trees hf 40).1 d (c / 8) (by lia) (by lia)
  refine⟨enc t,top _ ?_,.inr (.inr ⟨t,rfl,g.up (by lia) ?_⟩)⟩
  ·generalize zaj f=P at *
   simp -implicitDefEqProofs (disch:=lia) only [evA,if_pos,if_neg,if_true,if_false,hd,e]
  ·obtain rfl | rfl | rfl:d=1\/d=2\/d=3:=by lia
   ·decide
   ·decide
   ·decide
end Toy
namespace Toy
open PySem L2 L4
noncomputable def Sm (p:P2):Prop:=0<=p.1/\p.1<99/\0<=p.2/\p.2<26
structure CB (n:Nat) (ks:List P2) (g:P2->D):Prop where
 nd:ks.Nodup
 len:ks.length<=n
 sm:∀ k ∈ks,Sm k
 vl:∀ k ∈ks,Val (g k)
theorem CB.up {n m:Nat} {ks:List P2} {g:P2->D} (h:CB n ks g) (l:n<=m):CB m ks g:=⟨h.nd,Nat.le_trans h.len l,h.sm,h.vl⟩
theorem cb_put {n:Nat} {ks:List P2} {g:P2->D} {p:P2} {v:D} {j:Nat} {δ δ1 δ2:DEnv} {fk fe:FE} (h:CB n ks g) (hn:n<=1000) (e1:fe δ=some (.ok (.val v),δ1)) (hj1:δ1[j]? = some (some (.own (dG ks g)))) (e2:fk δ1=some (.ok (.val (zaj p)),δ2)) (hj:δ2[j]? = some (some (.own (dG ks g)))) (sp:Sm p) (vv:Val v):
  ∃ ks' g',fPutD j fk fe δ=some (.next (δ2.set j (some (.own (dG ks' g')))))/\CB (n+1) ks' g':=by
 have hl:=h.len
 have up:∀ q,q=p\/q ∈ks->Val (upP g p v q):=fun q hq=>by
  unfold upP
  by_cases e:q=p
  ·rw[if_pos e];exact vv
  ·rw[if_neg e];exact h.vl q (hq.resolve_left e)
 by_cases m:p ∈ks
 ·exact⟨ks,_,pd_old e1 hj1 e2 hj m (by lia),h.nd,by lia,h.sm,fun k mk=>up k (.inr mk)⟩
 ·refine⟨ks++[p],_,pd_new e1 hj1 e2 hj m (by lia),?_,by rw[List.length_append,List.length_singleton];lia,fun k mk => ?_,fun k mk=>up k ?_⟩
  ·exact List.nodup_append.mpr ⟨h.nd,List.nodup_cons.mpr ⟨by simp,List.nodup_nil⟩,fun a ma b mb z=>m (by rw[←List.mem_singleton.mp mb,←z];exact ma)⟩
  ·rcases List.mem_append.mp mk with mk | mk
   ·exact h.sm k mk
   ·rw[List.mem_singleton.mp mk];exact sp
  ·rcases List.mem_append.mp mk with mk | mk
   ·exact .inr mk
   ·exact .inl (List.mem_singleton.mp mk)
theorem seq_ex {Q:Option (Except XD Sl×List D)->Prop} {P:DEnv->Prop} {a b:FS} {δ:DEnv} (h1:∃ δ',a δ=some (.next δ')/\P δ') (h2:∀ δ',P δ'->Q (fin (b δ'))):Q (fin (fSeq a b δ)):=by
 obtain⟨δ',e,p⟩:=h1
 rw[zcq e]
 exact h2 δ' p
theorem col_turn (S a b F:D) (k:Int) (hk:2<=k/\k<=92) {n:Nat} {ks:List P2} {g:P2->D} (h:CB n ks g) (hn:n<=1000):∃ ks' g',zd1 [sv S,sv a,sv b,sv F,some (.own (dG ks g)),none,sv (.int k),none,none,none]=some (.next [sv S,sv a,sv b,sv F,some (.own (dG ks' g')),none,sv (.int k),none,none,none])/\CB (n+1) ks' g':=by
 unfold zd1
 refine cb_put (δ1:=[sv S,sv a,sv b,sv F,some (.own (dG ks g)),none,sv (.int k),none,none,none]) (δ2:=[sv S,sv a,sv b,sv F,some (.own (dG ks g)),none,sv (.int k),none,none,none]) (p:=(k,5)) (v:=enc (.two 0 (.ref (k - 1) 5 false false) (.num k))) h hn ?_ rfl ?_ rfl ⟨by show 0<=k;lia,by show k<99;lia,by show (0:Int)<=5;decide,by show (5:Int)<26;decide⟩ (.inr ⟨_,rfl,⟨⟨⟨by lia,by lia,by decide,by decide⟩,trivial⟩,by simp only[dp];lia,by simp only[sz];lia⟩⟩)
 ·simp only[enc,refD,sgS]
  simp -implicitDefEqProofs (disch:=lia) only [evA,if_pos,if_neg,if_true,if_false,evA]
 ·show _=some (Except.ok (Sl.val (.tup [.int k,.int 5])),_)
  simp -implicitDefEqProofs (disch:=lia) only [evA,if_pos,if_neg,if_true,if_false,evA]
theorem col_loop (S a b F:D):∀ (l:List Int) {n:Nat} {ks:List P2} {g:P2->D} (x:Option Sl),(∀ k ∈l,2<=k/\k<=92)->CB n ks g->n+l.length<=1000->∃ ks' g' y,forD 6 zd1 (l.map D.int) [sv S,sv a,sv b,sv F,some (.own (dG ks g)),none,x,none,none,none]=some (.next [sv S,sv a,sv b,sv F,some (.own (dG ks' g')),none,y,none,none,none])/\CB (n+l.length) ks' g'
 | [],n,ks,g,x,_,h,_=>⟨ks,g,x,by simp [forD],h⟩
 | k::l,n,ks,g,x,hl,h,hn=>by
  rw[List.length_cons] at hn
  obtain⟨ks1,g1,e1,h1⟩:=col_turn S a b F k (hl k List.mem_cons_self) h (by lia)
  obtain⟨ks2,g2,y,e2,h2⟩:=col_loop S a b F l (sv (.int k)) (fun q m=>hl q (List.mem_cons_of_mem _ m)) h1 (by lia)
  refine⟨ks2,g2,y,?_,h2.up (by rw[List.length_cons];lia)⟩
  rw[List.map_cons,zf2 (δ':=[sv S,sv a,sv b,sv F,some (.own (dG ks1 g1)),none,sv (.int k),none,none,none]) e1,e2]
theorem cell_turn (S a b x6 x7 x8:Option Sl) {f:P2} (hf:Far f) (c:Int) (hc:0<=c/\c<1000003) (x9:Option Sl) {n:Nat} {ks:List P2} {g:P2->D} (h:CB n ks g) (hn:n<=1000):
  ∃ ks' g' y9,zd2 [S,a,b,sv (zaj f),some (.own (dG ks g)),sv (.int c),x6,x7,x8,x9]=some (.next [S,a,b,sv (zaj f),some (.own (dG ks' g')),sv (.int c),x6,x7,x8,y9])/\CB (n+1) ks' g':=by
 obtain⟨v,e,hv⟩:=run_content hf (c / 16) (by lia)
 have i0:=ix0_pl f
 have i1:=ix1_pl f
 obtain⟨f1,f2,f3,f4⟩:=hf
 unfold zd2
 rcases hv with rfl | hv
 ·refine⟨ks,g,sv .non,?_,h.up (by lia)⟩
  generalize zaj f=P at *
  generalize dG ks g=C at *
  have:isND true .non .non=some (.val (.bl false)):=rfl
  simp -implicitDefEqProofs (disch:=lia) only [evA,if_pos,if_neg,if_true,if_false,e,this]
 ·have nn:isND true v .non=some (.val (.bl true)):=by
   rcases hv with ⟨i,rfl⟩ | ⟨t,rfl,_⟩
   ·rfl
   ·cases t<;>rfl
  obtain⟨ks',g',e2,h2⟩:=cb_put (j:=4) (fk:=fArgs gTupD (fCons (fOp addD (fOp ixD (fVar 3) (fC (.int 0))) (fOp modD (fVar 5) (fC (.int 4)))) (fCons (fOp addD (fOp ixD (fVar 3) (fC (.int 1))) (fOp modD (fOp fdivD (fVar 5) (fC (.int 4))) (fC (.int 4)))) fNil))) (fe:=fVar 9) (δ:=[S,a,b,sv (zaj f),some (.own (dG ks g)),sv (.int c),x6,x7,x8,sv v]) (δ1:=[S,a,b,sv (zaj f),some (.own (dG ks g)),sv (.int c),x6,x7,x8,sv v]) (δ2:=[S,a,b,sv (zaj f),some (.own (dG ks g)),sv (.int c),x6,x7,x8,sv v]) (p:=(f.1+c % 4,f.2+c / 4 % 4)) (v:=v) h hn rfl rfl (by
    show _=some (Except.ok (Sl.val (.tup [.int (f.1+c % 4),.int (f.2+c / 4 % 4)])),_)
    generalize zaj f=P at *
    generalize dG ks g=C at *
    simp -implicitDefEqProofs (disch:=lia) only [evA,if_pos,if_neg,if_true,if_false,i0,i1]) rfl ⟨by show 0<=f.1+c % 4;lia,by show f.1+c % 4<99;lia,by show 0<=f.2+c / 4 % 4;lia,by show f.2+c / 4 % 4<26;lia⟩ hv
  refine⟨ks',g',sv v,?_,h2⟩
  generalize zaj f=P at *
  generalize dG ks g=C at *
  simp -implicitDefEqProofs (disch:=lia) only [evA,if_pos,if_neg,if_true,if_false,e,nn,e2]
theorem cell_loop (S a b x6 x7 x8:Option Sl) {f:P2} (hf:Far f):∀ (l:List Int) {n:Nat} {ks:List P2} {g:P2->D} (x5 x9:Option Sl),(∀ c ∈l,0<=c/\c<1000003)->CB n ks g->n+l.length<=1000 →
  ∃ ks' g' y5 y9,forD 5 zd2 (l.map D.int) [S,a,b,sv (zaj f),some (.own (dG ks g)),x5,x6,x7,x8,x9]=some (.next [S,a,b,sv (zaj f),some (.own (dG ks' g')),y5,x6,x7,x8,y9])/\CB (n+l.length) ks' g'
 | [],n,ks,g,x5,x9,_,h,_=>⟨ks,g,x5,x9,by simp [forD],h⟩
 | c::l,n,ks,g,x5,x9,hl,h,hn=>by
  rw[List.length_cons] at hn
  obtain⟨ks1,g1,y,e1,h1⟩:=cell_turn S a b x6 x7 x8 hf c (hl c List.mem_cons_self) x9 h (by lia)
  obtain⟨ks2,g2,z5,z9,e2,h2⟩:=cell_loop S a b x6 x7 x8 hf l (sv (.int c)) y (fun q m=>hl q (List.mem_cons_of_mem _ m)) h1 (by lia)
  refine⟨ks2,g2,z5,z9,?_,h2.up (by rw[List.length_cons];lia)⟩
  rw[List.map_cons,zf2 (δ':=[S,a,b,sv (zaj f),some (.own (dG ks1 g1)),sv (.int c),x6,x7,x8,y]) e1,e2]
noncomputable def CQ (r:Option (Except XD Sl×List D)):Prop:=∃ ks g,r=some (.ok (.own (dG ks g)),[])/\CB 130 ks g
theorem run_contents (ns:List Int) (hn:ns.length<=63):∃ ks g,zc4 [.lst (ns.map D.int),.int 2,.int 40]=some (.ok (.own (dG ks g)),[])/\CB 130 ks g:=by
 obtain⟨w,c0,w1,w2⟩:=run_cell ns 0 (by decide)
 obtain⟨c,c1,k1,k2⟩:=run_cell ns 1 (by decide)
 obtain⟨cs,e1,lc,hcs⟩:=run_cells ns hn
 generalize D.lst (ns.map D.int)=S at *
 obtain⟨f,ef,hf⟩:∃ f,ixD (.lst [zaj (0,0),zaj (95,22)]) (.int (w % 8 / 7))=some (.val (zaj f))/\Far f:=by
  obtain e | e:w % 8 / 7=0\/w % 8 / 7=1:=by lia
  ·exact⟨(0,0),by rw[e];rfl,by decide,by decide,by decide,by decide⟩
  ·exact⟨(95,22),by rw[e];rfl,by decide,by decide,by decide,by decide⟩
 have cb0:CB 0 [] fun _=>.non:=⟨List.nodup_nil,Nat.le_refl _,fun k m=>by simp at m,fun k m=>by simp at m⟩
 suffices h:CQ (fin (f_q_contents [sv S,sv (.int 2),sv (.int 40),none,none,none,none,none,none,none])) from by
  obtain⟨ks,g,e,h⟩:=h
  exact⟨ks,g,runE rfl e,h⟩
 unfold f_q_contents
 refine seq_ex (Q:=CQ) (P:=fun δ=>δ=[sv S,sv (.int 2),sv (.int 40),sv (zaj f),none,none,none,none,none,none]) ⟨_,?_,rfl⟩ ?_
 ·have g2:gLstD [zaj (0,0),zaj (95,22)]=some (.own (.lst [zaj (0,0),zaj (95,22)])):=gLst_of _ (by simp)
  unfold zaj at *
  simp -implicitDefEqProofs (disch:=lia) only [evA,if_pos,if_neg,if_true,if_false,c0,g2,ef]
 rintro _ rfl
 refine seq_ex (Q:=CQ) (P:=fun δ=>δ=[sv S,sv (.int 2),sv (.int 40),sv (zaj f),some (.own (dG [] fun _=>.non)),none,none,none,none,none]) ?_ ?_
 ·exact⟨_,rfl,rfl⟩
 rintro _ rfl
 refine seq_ex (Q:=CQ) (P:=fun δ=>∃ ks g y,δ=[sv S,sv (.int 2),sv (.int 40),sv (zaj f),some (.own (dG ks g)),none,y,none,none,none]/\CB 91 ks g) ?_ ?_
 ·by_cases h:w % 8=1
  ·obtain⟨ks,g,y,e,h1⟩:=col_loop S (.int 2) (.int 40) (zaj f) (nums 2 (2+c % 90 - 2).toNat) none (fun k m=>by have:=mem_nums.mp m;lia) cb0 (by rw[zej];lia)
   rw[zej,Nat.zero_add] at h1
   rw[←rng_nums] at e
   obtain⟨ks',g',e',h2⟩:=cb_put (j:=4) (fk:=fArgs gTupD (fCons (fC (.int 1)) (fCons (fC (.int 5)) fNil))) (fe:=fOp modD (fCall za8 (fCons (fVar 0) (fCons (fC (.int 1)) fNil))) (fC (.int 11))) (δ:=[sv S,sv (.int 2),sv (.int 40),sv (zaj f),some (.own (dG ks g)),none,y,none,none,none]) (δ1:=[sv S,sv (.int 2),sv (.int 40),sv (zaj f),some (.own (dG ks g)),none,y,none,none,none]) (δ2:=[sv S,sv (.int 2),sv (.int 40),sv (zaj f),some (.own (dG ks g)),none,y,none,none,none]) (p:=(1,5)) (v:=.int (c % 11)) h1 (by lia) (by generalize dG ks g=C;simp -implicitDefEqProofs (disch:=lia) only [evA,if_pos,if_neg,if_true,if_false,c1]) rfl rfl rfl ⟨by decide,by decide,by decide,by decide⟩ (.inl ⟨_,rfl⟩)
   refine⟨_,?_,ks',g',y,rfl,h2.up (by lia)⟩
   have rk:fRng2 (fCons (fC (.int 2)) (fCons (fOp addD (fC (.int 2)) (fOp modD (fCall za8 (fCons (fVar 0) (fCons (fC (.int 1)) fNil))) (fC (.int 90)))) fNil)) [sv S,sv (.int 2),sv (.int 40),sv (zaj f),some (.own (dG [] fun _=>.non)),none,none,none,none,none]=some (.ok (rngD 2 (2+c % 90 - 2).toNat),[sv S,sv (.int 2),sv (.int 40),sv (zaj f),some (.own (dG [] fun _=>.non)),none,none,none,none,none]):=fRng2_of (by generalize (dG [] fun _=>D.non)=C;simp -implicitDefEqProofs (disch:=lia) only [evA,if_pos,if_neg,if_true,if_false,c1]) (by lia)
   generalize (dG [] fun _=>D.non)=C at *
   generalize dG ks g=C1 at *
   simp -implicitDefEqProofs (disch:=lia) only [evA,if_pos,if_neg,if_true,if_false,c0,rk,e,e']
  ·refine⟨_,?_,[],_,none,rfl,cb0.up (by lia)⟩
   generalize (dG [] fun _=>D.non)=C at *
   simp -implicitDefEqProofs (disch:=lia) only [evA,if_pos,if_neg,if_true,if_false,c0]
 rintro _ ⟨ks,g,y,rfl,h1⟩
 refine seq_ex (Q:=CQ) (P:=fun δ=>∃ ks g y7 y8,δ=[sv S,sv (.int 2),sv (.int 40),sv (zaj f),some (.own (dG ks g)),none,y,y7,y8,none]/\CB 92 ks g) ?_ ?_
 ·by_cases h:w % 8=2
  ·obtain⟨x,ex⟩:∃ x,ixD (.lst [.str "SUM",.str "COUNT"]) (.int (c / 300 % 2))=some (.val (.str (wdS x))):=by
    obtain e | e:c / 300 % 2=0\/c / 300 % 2=1:=by lia
    ·exact⟨0,by rw[e];rfl⟩
    ·exact⟨1,by rw[e];rfl⟩
   obtain⟨ks',g',e',h2⟩:=cb_put (j:=4) (fk:=fArgs gTupD (fCons (fC (.int 60)) (fCons (fC (.int 20)) fNil))) (fe:=fArgs gTupD (fCons (fC (.str "over")) (fCons (fOp ixD (fArgs gLstD (fCons (fC (.str "SUM")) (fCons (fC (.str "COUNT")) fNil))) (fOp modD (fOp fdivD (fCall za8 (fCons (fVar 0) (fCons (fC (.int 1)) fNil))) (fC (.int 300))) (fC (.int 2)))) (fCons (fArgs gLstD (fCons (fVar 8) fNil)) fNil)))) (δ:=[sv S,sv (.int 2),sv (.int 40),sv (zaj f),some (.own (dG ks g)),none,y,sv (.tup [.int (c % 30),.int (3+c / 30 % 9)]),sv (enc (.area 0 0 false false (c % 30) (3+c / 30 % 9) true false)),none]) (δ1:=[sv S,sv (.int 2),sv (.int 40),sv (zaj f),some (.own (dG ks g)),none,y,sv (.tup [.int (c % 30),.int (3+c / 30 % 9)]),sv (enc (.area 0 0 false false (c % 30) (3+c / 30 % 9) true false)),none]) (δ2:=[sv S,sv (.int 2),sv (.int 40),sv (zaj f),some (.own (dG ks g)),none,y,sv (.tup [.int (c % 30),.int (3+c / 30 % 9)]),sv (enc (.area 0 0 false false (c % 30) (3+c / 30 % 9) true false)),none]) (p:=(60,20)) (v:=enc (.over x [.area 0 0 false false (c % 30) (3+c / 30 % 9) true false])) h1 (by lia) (by
     generalize dG ks g=C
     have g2:gLstD [D.str "SUM",.str "COUNT"]=some (.own (.lst [.str "SUM",.str "COUNT"])):=gLst_of _ (by simp)
     simp only[enc,encL]
     generalize D.tup [.str "area",refD 0 0 false false,refD (c % 30) (3+c / 30 % 9) true false]=A
     simp -implicitDefEqProofs (disch:=lia) only [evA,if_pos,if_neg,if_true,if_false,c1,g2,ex,gLst1]) rfl rfl rfl ⟨by decide,by decide,by decide,by decide⟩ (.inr ⟨_,rfl,⟨⟨⟨by lia,by lia,by lia,by lia,by lia,by lia⟩,trivial⟩,by simp only[dp,dpL];lia,by simp only[sz,szL];lia⟩⟩)
   refine⟨_,?_,ks',g',sv (.tup [.int (c % 30),.int (3+c / 30 % 9)]),sv (enc (.area 0 0 false false (c % 30) (3+c / 30 % 9) true false)),rfl,h2⟩
   simp only[enc,refD] at e' ⊢
   generalize dG ks g=C at *
   simp -implicitDefEqProofs (disch:=lia) only [evA,if_pos,if_neg,if_true,if_false,c0,c1,e']
  ·refine⟨_,?_,ks,g,none,none,rfl,h1.up (by lia)⟩
   generalize dG ks g=C at *
   simp -implicitDefEqProofs (disch:=lia) only [evA,if_pos,if_neg,if_true,if_false,c0]
 rintro _ ⟨ks,g,y7,y8,rfl,h2⟩
 obtain⟨ks',g',y5,y9,e,h3⟩:=cell_loop (sv S) (sv (.int 2)) (sv (.int 40)) y y7 y8 hf cs none none hcs h2 (by lia)
 refine⟨ks',g',?_,h3.up (by lia)⟩
 have it:∀ (δ:DEnv),itK (some (.ok (.own (.lst (cs.map D.int))),δ))=some (.ok (cs.map D.int),δ):=fun δ=>rfl
 generalize dG ks g=C at *
 simp -implicitDefEqProofs (disch:=lia) only [evA,if_pos,if_neg,if_true,if_false,e1,it,e]
end Toy
namespace Toy
open PySem L2 L4
noncomputable def isT:D->Bool
 | .tup _=>true
 | _=>false
theorem isi_val {v:D} (h:Val v):isiD v (.ty "tuple")=some (.val (.bl (isT v))):=by
 rcases h with ⟨i,rfl⟩ | ⟨t,rfl,_⟩
 ·rfl
 ·cases t<;>rfl
theorem run_isf {v:D} (h:Val v):zf1 [v]=some (.ok (.val (.bl (isT v))),[]):=by
 refine runE rfl ?_
 show fin (f_is_formula [sv v])=_
 have:=isi_val h
 unfold f_is_formula
 simp -implicitDefEqProofs (disch:=lia) only [evA,if_pos,if_neg,if_true,if_false,this]
theorem val_eq {v:D} (h:Val v):za1 v=true/\depD v<=100:=by
 rcases h with ⟨i,rfl⟩ | ⟨t,rfl,g⟩
 ·exact⟨rfl,by simp [depD]⟩
 ·exact⟨zd8 t,by have:=dep_enc t;have:=g.dp;lia⟩
theorem val_means {v:D} (h:Val v) (e:isT v=true):∃ F ps,r_meant [v]=some (.ok (.own (L F)),[])/\zb3 40 [v]=some (.ok (.own (L ps)),[])/\zeq (L ps)=some (.own (L F))/\F.length<=4000:=by
 rcases h with ⟨i,rfl⟩ | ⟨t,rfl,g⟩
 ·cases e
 have hd:=g.dp
 obtain⟨_,mem⟩:=plcs_all (dp t) t (Nat.le_refl _) g.ok
 have sm:Small (plcs t):=fun p m=>in_ok g.ok ((mem p).mp m)
 obtain⟨F,e1,rise,memF⟩:=run_meant (by lia) g.sz g.ok
 have eF:F=ordP (plcs t):=rise_eq rise (zd6 _) fun p=>by rw[memF,mem_ordP,mem]
 subst eF
 exact⟨_,_,e1,run_means 40 t (by lia) g.ok g.sz,sortSet_of sm,small_len (fun p m=>sm p (mem_ordP.mp m)) (zf8 (zd6 _))⟩
structure Mn (g:P2->D) (F:P2->List P2) (k:P2):Prop where
 meant:r_meant [g k]=some (.ok (.own (L (F k))),[])
 means:∃ ps,zb3 40 [g k]=some (.ok (.own (L ps)),[])/\zeq (L ps)=some (.own (L (F k)))
 len:(F k).length<=4000
theorem means_all {n:Nat} {ks:List P2} {g:P2->D} (h:CB n ks g):∃ F:P2->List P2,∀ k ∈ks,isT (g k)=true->Mn g F k:=by
 have:∀ k,∃ F,k ∈ks->isT (g k)=true->r_meant [g k]=some (.ok (.own (L F)),[])/\(∃ ps,zb3 40 [g k]=some (.ok (.own (L ps)),[])/\zeq (L ps)=some (.own (L F)))/\F.length<=4000:=fun k=>by
  by_cases m:k ∈ks/\isT (g k)=true
  ·obtain⟨F,ps,a,b,c,d⟩:=val_means (h.vl k m.1) m.2
   exact⟨F,fun _ _=>⟨a,⟨ps,b,c⟩,d⟩⟩
  ·exact⟨[],fun a b=>absurd ⟨a,b⟩ m⟩
 obtain⟨F,hF⟩:=Classical.axiomOfChoice this
 exact⟨F,fun k m e=>let ⟨a,b,c⟩:=hF k m e;⟨a,b,c⟩⟩
noncomputable def tgK (o:Rs Sl):Rs Sl:=match o with
 | some (.ok s,δ')=>some (.ok (tgS s),δ')
 | r=>r
theorem e_tg (f:FE) (δ:DEnv):fTg f δ=tgK (f δ):=rfl
theorem k_tg (a:Addr) (d:D) (δ:DEnv):tgK (some (.ok (.val (.tg a d)),δ))=some (.ok (.val d),δ):=rfl
theorem k_tgL (ds:List D) (δ:DEnv):tgK (some (.ok (.val (.lst ds)),δ))=some (.ok (.val (.lst ds)),δ):=rfl
theorem k_tgF (ks:List P2) (g:P2->D) (δ:DEnv):tgK (some (.ok (.val (dF ks g)),δ))=some (.ok (.val (dF ks g)),δ):=rfl
noncomputable def evT:=And.intro @e_tg <| And.intro @k_tg <| And.intro @k_tgL @k_tgF
noncomputable def row (F:P2->List P2) (k:P2):D:=.tup [zaj k,L (F k)]
section
variable {n:Nat} {ks:List P2} {g:P2->D} {F:P2->List P2}
theorem due_loop (h:CB n ks g) (hF:∀ k ∈ks,isT (g k)=true->Mn g F k) (S:Option Sl) (ac:Addr):∀ (l:List P2) (B:List D) (x:Option D),(∀ k ∈l,k ∈ks)->B.length+l.length<=5000 →
  ∃ y:Option D,forD 3 lb_law_1 (l.map zaj) [S,sv (.tg ac (dG ks g)),some (.own (.lst B)),x.map Sl.val,none,none,none,none]=some (.next [S,sv (.tg ac (dG ks g)),some (.own (.lst (B++(l.filter fun k=>isT (g k)).map (row F)))),y.map Sl.val,none,none,none,none])
 | [],B,x,_,_=>⟨x,by simp [forD]⟩
 | k::l,B,x,hl,hB=>by
  rw[List.length_cons] at hB
  have mk:=hl k List.mem_cons_self
  have ix:=ix_pl (g:=g) mk
  have is_:=isi_val (h.vl k mk)
  cases b:isT (g k) with
  | false=>
   obtain⟨y,e⟩:=due_loop h hF S ac l B (some (zaj k)) (fun q m=>hl q (List.mem_cons_of_mem _ m)) (by lia)
   refine⟨y,?_⟩
   rw[b] at is_
   have e1:lb_law_1 [S,sv (.tg ac (dG ks g)),some (.own (.lst B)),sv (zaj k),none,none,none,none]=some (.next [S,sv (.tg ac (dG ks g)),some (.own (.lst B)),sv (zaj k),none,none,none,none]):=by
    unfold lb_law_1
    generalize dG ks g=C at *
    simp -implicitDefEqProofs (disch:=lia) only [evA,if_pos,if_neg,if_true,if_false,evT,ix,is_]
   rw[List.map_cons,zf2 (δ':=[S,sv (.tg ac (dG ks g)),some (.own (.lst B)),sv (zaj k),none,none,none,none]) e1]
   refine (show _=_ from e).trans ?_
   rw[List.filter_cons,b,if_neg (by decide)]
  | true=>
   obtain⟨_,⟨ps,m1,m2⟩,_⟩:=hF k mk b
   obtain⟨y,e⟩:=due_loop h hF S ac l (B++[row F k]) (some (zaj k)) (fun q m=>hl q (List.mem_cons_of_mem _ m)) (by rw[List.length_append,List.length_singleton];lia)
   refine⟨y,?_⟩
   rw[b] at is_
   have ga:=gApp_of B (row F k) (by lia)
   have e1:lb_law_1 [S,sv (.tg ac (dG ks g)),some (.own (.lst B)),sv (zaj k),none,none,none,none]=some (.next [S,sv (.tg ac (dG ks g)),some (.own (.lst (B++[row F k]))),sv (zaj k),none,none,none,none]):=by
    unfold lb_law_1
    unfold row at *
    generalize dG ks g=C at *
    generalize L (F k)=Z at *
    simp -implicitDefEqProofs (disch:=lia) only [evA,if_pos,if_neg,if_true,if_false,evT,evC,ix,is_,m1,m2,ga]
   rw[List.map_cons,zf2 (δ':=[S,sv (.tg ac (dG ks g)),some (.own (.lst (B++[row F k]))),sv (zaj k),none,none,none,none]) e1]
   refine (show _=_ from e).trans ?_
   rw[List.filter_cons,b,if_pos rfl,List.append_assoc]
   rfl
theorem told_loop (h:CB n ks g) (hF:∀ k ∈ks,isT (g k)=true->Mn g F k):∀ (l a:List P2) (x:Option Sl),(∀ k ∈l,k ∈ks)->(a++l).Nodup->a.length+l.length<=5000 →
  ∃ y,forD 2 zb7 (l.map zaj) [sv (dG ks g),some (.own (dG a fun k=>L (F k))),x]=some (.next [sv (dG ks g),some (.own (dG (a++l.filter fun k=>isT (g k)) fun k=>L (F k))),y])
 | [],a,x,_,_,_=>⟨x,by simp [forD]⟩
 | k::l,a,x,hl,nd,ha=>by
  rw[List.length_cons] at ha
  have mk:=hl k List.mem_cons_self
  have ix:=ix_pl (g:=g) mk
  have is_:=run_isf (h.vl k mk)
  have nk:k ∉ a:=fun z=>(List.nodup_append.mp nd).2.2 k z k List.mem_cons_self rfl
  cases b:isT (g k) with
  | false=>
   obtain⟨y,e⟩:=told_loop h hF l a (sv (zaj k)) (fun q m=>hl q (List.mem_cons_of_mem _ m)) (List.Nodup.sublist (List.Sublist.append_left (List.sublist_cons_self k l) a) nd) (by lia)
   refine⟨y,?_⟩
   rw[b] at is_
   have e1:zb7 [sv (dG ks g),some (.own (dG a fun k=>L (F k))),sv (zaj k)]=some (.next [sv (dG ks g),some (.own (dG a fun k=>L (F k))),sv (zaj k)]):=by
    unfold zb7
    generalize dG ks g=C at *
    simp -implicitDefEqProofs (disch:=lia) only [evA,if_pos,if_neg,if_true,if_false,evE,ix,is_]
   rw[List.map_cons,zf2 (δ':=[sv (dG ks g),some (.own (dG a fun k=>L (F k))),sv (zaj k)]) e1,e,List.filter_cons,b,if_neg (by decide)]
  | true=>
   have mm:=(hF k mk b).meant
   obtain⟨y,e⟩:=told_loop h hF l (a++[k]) (sv (zaj k)) (fun q m=>hl q (List.mem_cons_of_mem _ m)) (by rw[List.append_assoc];exact nd) (by rw[List.length_append,List.length_singleton];lia)
   refine⟨y,?_⟩
   rw[b] at is_
   have p1:fNPut 1 (fVar 2) (fCall r_meant (fCons (fOp ixDD (fVar 0) (fVar 2)) fNil)) [sv (dG ks g),some (.own (dG a fun k=>L (F k))),sv (zaj k)]=some (.next [sv (dG ks g),some (.own (dG (a++[k]) fun k=>L (F k))),sv (zaj k)]):=by
    rw[np_of (p:=k) (ks:=a) (g:=fun k=>L (F k)) (es:=(F k).map zaj) (δ1:=[sv (dG ks g),some (.own (dG a fun k=>L (F k))),sv (zaj k)]) (δ2:=[sv (dG ks g),some (.own (dG a fun k=>L (F k))),sv (zaj k)]) (by
     generalize dG ks g=C at *
     unfold L at mm
     simp -implicitDefEqProofs (disch:=lia) only [evA,if_pos,if_neg,if_true,if_false,evE,ix,mm]) (by simp -implicitDefEqProofs (disch:=lia) only [evA,if_pos,if_neg,if_true,if_false,evE]) rfl nk (by lia)]
    have:dG (a++[k]) (upP (fun k=>L (F k)) k (.lst ((F k).map zaj)))=dG (a++[k]) fun k=>L (F k):=dG_congr fun q _=>by
     unfold upP
     by_cases e:q=k
     ·rw[if_pos e,e];rfl
     ·rw[if_neg e]
    rw[this];rfl
   have e1:zb7 [sv (dG ks g),some (.own (dG a fun k=>L (F k))),sv (zaj k)]=some (.next [sv (dG ks g),some (.own (dG (a++[k]) fun k=>L (F k))),sv (zaj k)]):=by
    unfold zb7
    generalize dG ks g=C at *
    simp -implicitDefEqProofs (disch:=lia) only [evA,if_pos,if_neg,if_true,if_false,evE,ix,is_,p1]
   rw[List.map_cons,zf2 (δ':=[sv (dG ks g),some (.own (dG (a++[k]) fun k=>L (F k))),sv (zaj k)]) e1,e,List.filter_cons,b,if_pos rfl,List.append_assoc]
   rfl
theorem sortDD_G (sm:∀ k ∈ks,Sm k) (hl:ks.length<=4000):sortDD (dG ks g)=some (.own (L (ordP ks))):=by
 show (match placesOf (ks.map zaj) with | some ps=>_ | none=>none)=_
 rw[placesOf_map]
 show (if _ then _ else none)=_
 rw[if_pos]
 ·rfl
 ·rw[decide_eq_true hl,Bool.and_true,List.all_eq_true]
  intro p m
  obtain⟨_,_,a,b⟩:=sm p m
  rw[Bool.and_eq_true,decide_eq_true_eq,decide_eq_true_eq]
  lia
noncomputable abbrev fs (ks:List P2) (g:P2->D):List P2:=(ordP ks).filter fun k=>isT (g k)
theorem ord_len (ks:List P2):(ordP ks).length<=ks.length:=nodup_le (zf8 (zd6 ks)) fun x m=>mem_ordP.mp m
theorem run_leans (h:CB 130 ks g) (hF:∀ k ∈ks,isT (g k)=true->Mn g F k):zf6 [dG ks g]=some ((fs ks g).map zaj,(fs ks g).map fun k=>L (F k)):=by
 have hl:=h.len
 have ol:=ord_len ks
 obtain⟨y,e1⟩:=told_loop h hF (ordP ks) [] none (fun k m=>mem_ordP.mp m) (zf8 (zd6 ks)) (by simp;lia)
 rw[List.nil_append] at e1
 have e1':forD 2 zb7 ((ordP ks).map zaj) [sv (dG ks g),some (.own (.dct [] [])),none]=some (.next [sv (dG ks g),some (.own (dG (fs ks g) fun k=>L (F k))),y]):=e1
 have so:=sortDD_G (g:=g) h.sm (by lia)
 have a2:fFor (hid 1 (fItA (fArgs (g1 sortDD) (fCons (fVar 0) fNil)))) 2 zb7 [sv (dG ks g),some (.own (.dct [] [])),none]=some (.next [sv (dG ks g),some (.own (dG (fs ks g) fun k=>L (F k))),y]):=by
  generalize dG ks g=C at *
  simp -implicitDefEqProofs (disch:=lia) only [evA,if_pos,if_neg,if_true,if_false,evE,so,e1']
 show f_leans_of [sv (dG ks g),none,none]=_
 unfold f_leans_of fSeqG
 rw[show fAsg 1 fDNew [sv (dG ks g),none,none]=some (.next [sv (dG ks g),some (.own (.dct [] [])),none]) from rfl]
 show fNestR 1 _ [sv (dG ks g),some (.own (.dct [] [])),none]=_
 unfold fNestR
 rw[a2]
 rfl
theorem same_ks:∀ ks:List P2,sameKs (ks.map zaj) (ks.map zaj)=true
 | []=>rfl
 | p::ks=>by
  rw[List.map_cons]
  show (decide ([p.1,p.2]=[p.1,p.2]) && sameKs (ks.map zaj) (ks.map zaj))=true
  rw[same_ks ks,decide_eq_true rfl]
  rfl
theorem alike_g:∀ ks:List P2,(∀ k ∈ks,Val (g k))->alikeDs (ks.map g) (ks.map g)=true
 | [],_=>rfl
 | p::ks,h=>by
  obtain⟨h1,h2⟩:=val_eq (h p List.mem_cons_self)
  rw[List.map_cons,alikeDs,alike_g ks fun k m=>h k (List.mem_cons_of_mem _ m),h1,eqD_refl _ h1,decide_eq_true h2]
  rfl
theorem ne_dG (h:∀ k ∈ks,Val (g k)):eqDDD true (dG ks g) (dG ks g)=some (.val (.bl false)):=by
 show (if sameKs (ks.map zaj) (ks.map zaj)=true/\alikeDs (ks.map g) (ks.map g)=true then some (Sl.val (.bl (!true))) else none)=_
 rw[if_pos ⟨same_ks ks,alike_g ks h⟩]
 rfl
end
end Toy
namespace Toy
open PySem L2 L4
theorem plain_l:∀ ps:List P2,za9 (ps.map zaj)=true
 | []=>rfl
 | p::ps=>by rw[List.map_cons,za9,plain_l ps];rfl
theorem dep_l:∀ ps:List P2,depDs (ps.map zaj)<=1
 | []=>Nat.zero_le _
 | p::ps=>by
  rw[List.map_cons,depDs]
  have:depD (zaj p)=1:=rfl
  have:=dep_l ps
  lia
theorem nod_l:∀ ps:List P2,noDs (ps.map zaj)=true
 | []=>rfl
 | p::ps=>by rw[List.map_cons,noDs,nod_l ps];rfl
theorem ne_map {α:Type} (f:α->D) (n:Nat) (hn:n<100) (h:∀ a,za1 (f a)=true/\depD (f a)<=n) (b:Bool) (l:List α):eqOp b (.lst (l.map f)) (.lst (l.map f))=some (.val (.bl (!b))):=by
 have h1:∀ l:List α,za9 (l.map f)=true/\depDs (l.map f)<=n:=fun l=>by
  induction l with
  | nil=>exact⟨rfl,Nat.zero_le _⟩
  | cons a l ih=>rw[List.map_cons,za9,depDs,(h a).1,ih.1];have:=(h a).2;have:=ih.2;exact⟨rfl,by lia⟩
 refine eqOp_same b _ ?_ (h1 l).1
 have e:depD (.lst (l.map f))=depDs (l.map f)+1:=rfl
 have:=(h1 l).2
 lia
theorem row_eq (F:P2->List P2) (k:P2):za1 (row F k)=true/\depD (row F k)<=3:=by
 constructor
 ·show (za1 (zaj k) && (za9 ((F k).map zaj) && true))=true
  rw[plain_l];rfl
 ·show max (depD (zaj k)) (max (depDs ((F k).map zaj)+1) 0)+1<=3
  have:=dep_l (F k)
  have:depD (zaj k)=1:=rfl
  lia
noncomputable def mk (i:Int):D:=.tup [.str "mark",.int i]
theorem mk_eq (i:Int):za1 (mk i)=true/\depD (mk i)<=3:=⟨by simp [mk,za1,za9];decide +kernel,by simp [mk,depD,depDs]⟩
noncomputable def posF:List P2->Nat->P2->Nat
 | [],_,_=>0
 | x::l,j,k=>if k=x then j else posF l (j+1) k
noncomputable def mks (j n:Nat):List D:=(List.range n).map fun i=>mk ((j+i:Nat):Int)
theorem mks_succ (j n:Nat):mks j (n+1)=mk j::mks (j+1) n:=by
 unfold mks
 rw[List.range_succ_eq_map,List.map_cons,List.map_map]
 congr 1
 apply List.map_congr_left
 intro i _
 show mk ((j+(i+1):Nat):Int)=mk ((j+1+i:Nat):Int)
 rw[Nat.add_assoc,Nat.add_comm i 1]
theorem pos_map (F:P2->List P2):∀ (l:List P2) (j:Nat),l.Nodup->mks j l.length=l.map (fun k=>mk (posF l j k))/\addM (l.map fun k=>L (F k)) (mks j l.length)=l.map fun k=>.lst ((F k).map zaj++[mk (posF l j k)])
 | [],j,_=>⟨rfl,rfl⟩
 | x::l,j,nd=>by
  obtain⟨n1,n2⟩:=List.nodup_cons.mp nd
  obtain⟨h1,h2⟩:=pos_map F l (j+1) n2
  have hx:posF (x::l) j x=j:=by rw[posF,if_pos rfl]
  have ht:∀ k ∈l,posF (x::l) j k=posF l (j+1) k:=fun k m=>by rw[posF,if_neg fun z:k=x=>n1 (z ▸ m)]
  rw[List.length_cons,mks_succ]
  constructor
  ·rw[List.map_cons,hx,h1]
   congr 1
   exact List.map_congr_left fun k m=>by rw[ht k m]
  ·rw[List.map_cons,List.map_cons,hx]
   show .lst ((F x).map zaj++[mk j])::addM (l.map fun k=>L (F k)) (mks (j+1) l.length)=_
   rw[h2]
   congr 1
   exact List.map_congr_left fun k m=>by rw[ht k m]
theorem nol_mks (j n:Nat):noLsts (mks j n)=true:=by
 unfold mks
 induction (List.range n) with
 | nil=>rfl
 | cons a l ih=>rw[List.map_cons,noLsts,ih];simp [mk,noLst,noLsts]
theorem comp_F {G:P2->D} {fe:FE} {δ δ':DEnv} {src:FL} (e:P2->D) (l:List P2) (hl:l.length<=5000) (hs:src δ=some (.ok (l.map zaj),δ')) (h:∀ k ∈l,fe (sv (zaj k)::δ')=some (.ok (.val (e k)),sv (zaj k)::δ')):fComp src none fe δ=some (.ok (.own (.lst (l.map e))),δ'):=by
 have:=comp_G (fe:=fe) (δ:=δ') zaj e l [] h (by simp;lia)
 rw[List.nil_append] at this
 exact fComp_of hs this
section
variable {ks:List P2} {g:P2->D} {F:P2->List P2}
theorem isl_loop (l:List P2) (G:P2->D) (hG:∀ k,∃ ds,G k=.lst ds) (a b c d e f:Option Sl) (h:Addr):∀ (ps:List P2) (x:Option Sl),(∀ k ∈ps,k ∈l)->∃ y,forD 3 lb_law_2 (ps.map zaj) [a,b,c,x,sv (.tg h (dF l G)),d,e,f]=some (.next [a,b,c,y,sv (.tg h (dF l G)),d,e,f])
 | [],x,_=>⟨x,rfl⟩
 | k::ps,x,hp=>by
  obtain⟨y,e2⟩:=isl_loop l G hG a b c d e f h ps (sv (zaj k)) fun q m=>hp q (List.mem_cons_of_mem _ m)
  refine⟨y,?_⟩
  have ix:=ix_pl (g:=G) (hp k List.mem_cons_self)
  obtain⟨ds,eg⟩:=hG k
  rw[eg] at ix
  have il:isiD (.lst ds) (.ty "list")=some (.val (.bl true)):=rfl
  have e1:lb_law_2 [a,b,c,sv (zaj k),sv (.tg h (dF l G)),d,e,f]=some (.next [a,b,c,sv (zaj k),sv (.tg h (dF l G)),d,e,f]):=by
   unfold lb_law_2
   simp -implicitDefEqProofs (disch:=lia) only [evA,if_pos,if_neg,if_true,if_false,evT,evE,ix,il,Bool.not_true]
  rw[List.map_cons,zf2 (δ':=[a,b,c,sv (zaj k),sv (.tg h (dF l G)),d,e,f]) e1,e2]
end
end Toy
namespace Toy
open PySem L2 L4
section
variable {ks:List P2} {g:P2->D} {F:P2->List P2}
noncomputable abbrev dd (ks:List P2) (g:P2->D) (F:P2->List P2):List D:=(fs ks g).map (row F)
noncomputable abbrev GL (F:P2->List P2):P2->D:=fun k=>L (F k)
theorem fs_len (h:CB 130 ks g):(fs ks g).length<=130:=Nat.le_trans (List.length_filter_le _ _) (Nat.le_trans (ord_len ks) h.len)
theorem fs_nd:(fs ks g).Nodup:=List.Nodup.sublist List.filter_sublist (zf8 (zd6 ks))
theorem chk_b (h:CB 130 ks g) (hF:∀ k ∈ks,isT (g k)=true->Mn g F k) (S:Option Sl) (ac:Addr):∃ y:Option D,f_law_b [S,sv (.tg ac (dG ks g)),none,none,none,none,none,none]=some (.next [S,sv (.tg ac (dG ks g)),some (.own (.lst (dd ks g F))),y.map Sl.val,none,none,none,none]):=by
 have ol:=ord_len ks
 have hl:=h.len
 obtain⟨y,e⟩:=due_loop h hF S ac (ordP ks) [] none (fun k m=>mem_ordP.mp m) (by simp;lia)
 rw[List.nil_append] at e
 have e':forD 3 lb_law_1 ((ordP ks).map zaj) [S,sv (.tg ac (dG ks g)),some (.own (.lst [])),none,none,none,none,none]=_:=e
 refine⟨y,?_⟩
 have so:=sortDD_G (g:=g) h.sm (by lia)
 unfold f_law_b
 generalize dG ks g=C at *
 simp -implicitDefEqProofs (disch:=lia) only [evA,if_pos,if_neg,if_true,if_false,evT,evC,evE,gLst0,so,e']
theorem ix_row (F:P2->List P2) (k:P2):ixD (row F k) (.int 1)=some (.val (L (F k))):=rfl
theorem L_len (ps:List P2):lenD (L ps)=some (.val (.int ps.length)):=by
 unfold L
 rw[len_lst,List.length_map]
theorem chk_c (h:CB 130 ks g) {S:D} (ec:zc4 [S,.int 2,.int 40]=some (.ok (.own (dG ks g)),[])) (ac ad hh:Addr) (y:Option Sl):
  ∃ z,f_law_c [sv S,sv (.tg ac (dG ks g)),sv (.tg ad (.lst (dd ks g F))),y,sv (.tg hh (dF (fs ks g) (GL F))),none,none,none]=some (.next [sv S,sv (.tg ac (dG ks g)),sv (.tg ad (.lst (dd ks g F))),z,sv (.tg hh (dF (fs ks g) (GL F))),some (.own (.lst (mks 0 (fs ks g).length))),none,none]):=by
 have fl:=fs_len h
 have ne:=ne_dG h.vl
 have i1:isiDD (dG (fs ks g) (GL F)) (.ty "dict")=some (.val (.bl true)):=rfl
 obtain⟨z,e2⟩:=isl_loop (fs ks g) (GL F) (fun k=>⟨_,rfl⟩) (sv S) (sv (.tg ac (dG ks g))) (sv (.tg ad (.lst (dd ks g F)))) none none none hh (fs ks g) y fun _ m=>m
 have c3:∀ z,fComp (fItF (fTg (fVar 4))) none el_law_1 [sv S,sv (.tg ac (dG ks g)),sv (.tg ad (.lst (dd ks g F))),z,sv (.tg hh (dF (fs ks g) (GL F))),none,none,none]=some (.ok (.own (.lst (dd ks g F))),[sv S,sv (.tg ac (dG ks g)),sv (.tg ad (.lst (dd ks g F))),z,sv (.tg hh (dF (fs ks g) (GL F))),none,none,none]):=fun z=>comp_F (G:=GL F) (row F) (fs ks g) (by lia) (by simp -implicitDefEqProofs (disch:=lia) only [evA,if_pos,if_neg,if_true,if_false,evT,evE]) fun k m=>by
  have ix:=ix_pl (g:=GL F) m
  unfold el_law_1 row
  generalize dG ks g=C at *
  simp -implicitDefEqProofs (disch:=lia) only [evA,if_pos,if_neg,if_true,if_false,evT,evE,ix]
 have q3:=ne_map (row F) 3 (by decide) (row_eq F) true (fs ks g)
 have ln:lenD (.lst (dd ks g F))=some (.val (.int (fs ks g).length)):=by rw[len_lst,List.length_map]
 have c4:∀ z,fComp (fRng1 (fCons (fArgs (g1 lenD) (fCons (fTg (fVar 2)) fNil)) fNil)) none el_law_2 [sv S,sv (.tg ac (dG ks g)),sv (.tg ad (.lst (dd ks g F))),z,sv (.tg hh (dF (fs ks g) (GL F))),none,none,none]=some (.ok (.own (.lst (mks 0 (fs ks g).length))),[sv S,sv (.tg ac (dG ks g)),sv (.tg ad (.lst (dd ks g F))),z,sv (.tg hh (dF (fs ks g) (GL F))),none,none,none]):=fun z=>by
  have:=fComp_G (src:=fRng1 (fCons (fArgs (g1 lenD) (fCons (fTg (fVar 2)) fNil)) fNil)) (fe:=el_law_2) (δ:=[sv S,sv (.tg ac (dG ks g)),sv (.tg ad (.lst (dd ks g F))),z,sv (.tg hh (dF (fs ks g) (GL F))),none,none,none]) (δ':=[sv S,sv (.tg ac (dG ks g)),sv (.tg ad (.lst (dd ks g F))),z,sv (.tg hh (dF (fs ks g) (GL F))),none,none,none]) (lo:=0) (n:=(fs ks g).length) mk (fRng1_of (by simp -implicitDefEqProofs (disch:=lia) only [evA,if_pos,if_neg,if_true,if_false,evT,ln]) (by lia)) (fun k _=>by unfold el_law_2 mk;simp -implicitDefEqProofs (disch:=lia) only [evA,if_pos,if_neg,if_true,if_false,evA]) (by lia)
  rw[this]
  unfold mks
  simp only[Int.zero_add,Nat.zero_add]
 refine⟨z,?_⟩
 unfold f_law_c
 unfold dd at *
 generalize (fs ks g).map (row F)=DD at *
 generalize hX:dG ks g=C at *
 have a1:fIf (fOrT (fNotT (fTr (fArgs (g2 isiDD) (fCons (fCo (fTg (fVar 4))) (fCons (fC (.ty "dict")) fNil))))) (fTb (fOp (eqDDD true) (fTg (fVar 1)) (fCall zc4 (fCons (fVar 0) (fCons (fC (.int 2)) (fCons (fC (.int 40)) fNil))))))) (fRet (fC (.bl false))) fNext [sv S,sv (.tg ac C),sv (.tg ad (.lst DD)),y,sv (.tg hh (dF (fs ks g) (GL F))),none,none,none]=some (.next [sv S,sv (.tg ac C),sv (.tg ad (.lst DD)),y,sv (.tg hh (dF (fs ks g) (GL F))),none,none,none]):=by
  simp -implicitDefEqProofs (disch:=lia) only [evA,if_pos,if_neg,if_true,if_false,evD,evT,evE,i1,ec,ne,Bool.not_true]
 have a2:fFor (fItF (fTg (fVar 4))) 3 lb_law_2 [sv S,sv (.tg ac C),sv (.tg ad (.lst DD)),y,sv (.tg hh (dF (fs ks g) (GL F))),none,none,none]=some (.next [sv S,sv (.tg ac C),sv (.tg ad (.lst DD)),z,sv (.tg hh (dF (fs ks g) (GL F))),none,none,none]):=by
  simp -implicitDefEqProofs (disch:=lia) only [evA,if_pos,if_neg,if_true,if_false,evT,evE,e2]
 have a3:fIf (fTb (fOp (eqOp true) (fComp (fItF (fTg (fVar 4))) none el_law_1) (fTg (fVar 2)))) (fRet (fC (.bl false))) fNext [sv S,sv (.tg ac C),sv (.tg ad (.lst DD)),z,sv (.tg hh (dF (fs ks g) (GL F))),none,none,none]=some (.next [sv S,sv (.tg ac C),sv (.tg ad (.lst DD)),z,sv (.tg hh (dF (fs ks g) (GL F))),none,none,none]):=by
  simp -implicitDefEqProofs (disch:=lia) only [evA,if_pos,if_neg,if_true,if_false,evT,c3 z,q3,Bool.not_true]
 rw[zcq a1,zcq a2,zcq a3]
 simp -implicitDefEqProofs (disch:=lia) only [evA,if_pos,if_neg,if_true,if_false,c4 z]
theorem chk_d (h:CB 130 ks g) (a b c x y:Option Sl) (ad:Addr):
  f_law_d [a,b,sv (.tg ad (.lst (dd ks g F))),c,sv (.dcf ((fs ks g).map zaj) (addM ((fs ks g).map (GL F)) (mks 0 (fs ks g).length))),sv (.lst (mks 0 (fs ks g).length)),x,y]=some (.next [a,b,sv (.tg ad (.lst (dd ks g F))),c,sv (.dcf ((fs ks g).map zaj) (addM ((fs ks g).map (GL F)) (mks 0 (fs ks g).length))),sv (.lst (mks 0 (fs ks g).length)),x,y]):=by
 have fl:=fs_len h
 obtain⟨p1,p2⟩:=pos_map F (fs ks g) 0 fs_nd
 have q1:=ne_map mk 3 (by decide) mk_eq true ((List.range (fs ks g).length).map fun i=>(((0+i:Nat):Nat):Int))
 rw[List.map_map] at q1
 have q1':eqOp true (.lst (mks 0 (fs ks g).length)) (.lst (mks 0 (fs ks g).length))=some (.val (.bl (!true))):=q1
 rw[p2]
 change f_law_d [a,b,_,c,sv (dF (fs ks g) fun k=>.lst ((F k).map zaj++[mk (posF (fs ks g) 0 k)])),_,x,y]=some (.next [a,b,_,c,sv (dF (fs ks g) fun k=>.lst ((F k).map zaj++[mk (posF (fs ks g) 0 k)])),_,x,y])
 have c3:fComp (fItF (fTg (fVar 4))) none el_law_3 [a,b,sv (.tg ad (.lst (dd ks g F))),c,sv (dF (fs ks g) fun k=>.lst ((F k).map zaj++[mk (posF (fs ks g) 0 k)])),sv (.lst (mks 0 (fs ks g).length)),x,y]=some (.ok (.own (.lst (mks 0 (fs ks g).length))),[a,b,sv (.tg ad (.lst (dd ks g F))),c,sv (dF (fs ks g) fun k=>.lst ((F k).map zaj++[mk (posF (fs ks g) 0 k)])),sv (.lst (mks 0 (fs ks g).length)),x,y]):=by
  rw[show mks 0 (fs ks g).length=_ from p1]
  refine comp_F (G:=GL F) (fun k=>mk (posF (fs ks g) 0 k)) (fs ks g) (by lia) (by simp -implicitDefEqProofs (disch:=lia) only [evA,if_pos,if_neg,if_true,if_false,evT,evE]) fun k m => ?_
  have ix:=ix_pl (g:=fun k=>.lst ((F k).map zaj++[mk (posF (fs ks g) 0 k)])) m
  have il:ixD (.lst ((F k).map zaj++[mk (posF (fs ks g) 0 k)])) (.int (-1))=some (.val (mk (posF (fs ks g) 0 k))):=by
   show (atI _ (-1)).map Sl.val=_
   unfold atI ixN
   rw[if_neg (by decide),if_pos (by simp;lia)]
   show ((((F k).map zaj++[mk (posF (fs ks g) 0 k)])[_]?).map Sl.val)=_
   rw[show ((-1:Int)+(((F k).map zaj++[mk (posF (fs ks g) 0 k)]).length:Nat)).toNat=((F k).map zaj).length by rw[List.length_append,List.length_singleton];lia,List.getElem?_append_right (Nat.le_refl _),Nat.sub_self]
   rfl
  unfold el_law_3
  simp -implicitDefEqProofs (disch:=lia) only [evA,if_pos,if_neg,if_true,if_false,evT,evE,ix,il]
 have c4:fComp (fItF (fTg (fVar 4))) none el_law_4 [a,b,sv (.tg ad (.lst (dd ks g F))),c,sv (dF (fs ks g) fun k=>.lst ((F k).map zaj++[mk (posF (fs ks g) 0 k)])),sv (.lst (mks 0 (fs ks g).length)),x,y]=some (.ok (.own (.lst ((fs ks g).map fun k=>.int (1+(F k).length)))),[a,b,sv (.tg ad (.lst (dd ks g F))),c,sv (dF (fs ks g) fun k=>.lst ((F k).map zaj++[mk (posF (fs ks g) 0 k)])),sv (.lst (mks 0 (fs ks g).length)),x,y]):=by
  refine comp_F (G:=GL F) (fun k=>.int (1+(F k).length)) (fs ks g) (by lia) (by simp -implicitDefEqProofs (disch:=lia) only [evA,if_pos,if_neg,if_true,if_false,evT,evE]) fun k m => ?_
  have ix:=ix_pl (g:=fun k=>.lst ((F k).map zaj++[mk (posF (fs ks g) 0 k)])) m
  have il:lenD (.lst ((F k).map zaj++[mk (posF (fs ks g) 0 k)]))=some (.val (.int (1+(F k).length))):=by
   rw[len_lst,List.length_append,List.length_map,List.length_singleton]
   congr 3
   lia
  unfold el_law_4
  simp -implicitDefEqProofs (disch:=lia) only [evA,if_pos,if_neg,if_true,if_false,evT,evE,ix,il]
 have c5:fComp (fItA (fTg (fVar 2))) none el_law_5 [a,b,sv (.tg ad (.lst (dd ks g F))),c,sv (dF (fs ks g) fun k=>.lst ((F k).map zaj++[mk (posF (fs ks g) 0 k)])),sv (.lst (mks 0 (fs ks g).length)),x,y]=some (.ok (.own (.lst ((fs ks g).map fun k=>.int (1+(F k).length)))),[a,b,sv (.tg ad (.lst (dd ks g F))),c,sv (dF (fs ks g) fun k=>.lst ((F k).map zaj++[mk (posF (fs ks g) 0 k)])),sv (.lst (mks 0 (fs ks g).length)),x,y]):=by
  have it:∀ (δ:DEnv),itK (some (.ok (.val (.lst (dd ks g F))),δ))=some (.ok (dd ks g F),δ):=fun δ=>rfl
  have:=comp_G (fe:=el_law_5) (δ:=[a,b,sv (.tg ad (.lst (dd ks g F))),c,sv (dF (fs ks g) fun k=>.lst ((F k).map zaj++[mk (posF (fs ks g) 0 k)])),sv (.lst (mks 0 (fs ks g).length)),x,y]) (row F) (fun k=>.int (1+(F k).length)) (fs ks g) [] (fun k _=>by
   have ix:=ix_row F k
   have il:=L_len (F k)
   generalize row F k=R at *
   unfold el_law_5
   simp -implicitDefEqProofs (disch:=lia) only [evA,if_pos,if_neg,if_true,if_false,ix,il]) (by simp;lia)
  rw[List.nil_append] at this
  exact fComp_of (by simp -implicitDefEqProofs (disch:=lia) only [evA,if_pos,if_neg,if_true,if_false,evT,it]) this
 have q2:=ne_map (fun k:P2=>D.int (1+(F k).length)) 3 (by decide) (fun k=>⟨rfl,by simp [depD]⟩) true (fs ks g)
 unfold f_law_d
 generalize D.lst (mks 0 (fs ks g).length)=MM at *
 simp -implicitDefEqProofs (disch:=lia) only [evA,if_pos,if_neg,if_true,if_false,evT,c3,c4,c5,q1',q2,Bool.not_true]
theorem chk_e (h:CB 130 ks g) (a b c d e f x:Option Sl):∃ δ9,f_law_e [a,b,sv (.lst (dd ks g F)),c,d,e,sv (dF (fs ks g) (GL F)),x]=some (.ok (.val (.bl true)),δ9):=by
 have fl:=fs_len h
 have c3:fComp (fItF (fVar 6)) none el_law_6 [a,b,sv (.lst (dd ks g F)),c,d,e,sv (dF (fs ks g) (GL F)),x]=some (.ok (.own (.lst (dd ks g F))),[a,b,sv (.lst (dd ks g F)),c,d,e,sv (dF (fs ks g) (GL F)),x]):=comp_F (G:=GL F) (row F) (fs ks g) (by lia) (by simp -implicitDefEqProofs (disch:=lia) only [evA,if_pos,if_neg,if_true,if_false,evE]) fun k m=>by
  have ix:=ix_pl (g:=GL F) m
  unfold el_law_6 row
  simp -implicitDefEqProofs (disch:=lia) only [evA,if_pos,if_neg,if_true,if_false,evE,ix]
 have q3:=ne_map (row F) 3 (by decide) (row_eq F) false (fs ks g)
 refine⟨[a,b,sv (.lst (dd ks g F)),c,d,e,sv (dF (fs ks g) (GL F)),x],?_⟩
 unfold f_law_e
 unfold dd at *
 generalize (fs ks g).map (row F)=DD at *
 simp -implicitDefEqProofs (disch:=lia) only [evA,if_pos,if_neg,if_true,if_false,evT,c3,q3,Bool.not_false]
end
theorem sv_one {S:D} {n i:Nat} {s:Sl} (e:(sv S::noS n)[i]? = some (some s)):∃ d,s=.val d:=by
 cases i with
 | zero=>cases e;exact⟨S,rfl⟩
 | succ i=>exact (noS_no (by simpa using e)).elim
theorem pl_inj {p q:P2} (h:zaj p=zaj q):p=q:=by
 unfold zaj at h
 injection h with h
 simp only[List.cons.injEq,D.int.injEq,and_true] at h
 exact Prod.ext h.1 h.2
theorem nod_rows (F:P2->List P2):∀ l:List P2,noDs (l.map (row F))=true
 | []=>rfl
 | a::l=>by
  rw[List.map_cons,noDs,nod_rows F l]
  show ((noD (zaj a) && (noDs ((F a).map zaj) && true)) && true)=true
  rw[nod_l];rfl
theorem law_true (ns:List Int) (hn:ns.length<=63):r_law [.lst (ns.map D.int)]=some (.ok (.val (.bl true)),[]):=by
 obtain⟨ks,g,ec,h⟩:=run_contents ns hn
 obtain⟨F,hF⟩:=means_all h
 generalize D.lst (ns.map D.int)=S at *
 have rn:=run_leans h hF
 have e3:=chk_e (F:=F) h none none none none none none none
 suffices T:Tail6 zf6 f_law_a f_law_b f_law_c f_law_d f_law_e 1 2 4 5 6 [sv S,none,none,none,none,none,none,none] (ks.map zaj) (ks.map g) (dd ks g F) ((fs ks g).map zaj) ((fs ks g).map (GL F)) (mks 0 (fs ks g).length) [sv S,some (.own (dG ks g)),none,none,none,none,none,none] from by
  refine runE rfl ?_
  show fin (f_law [sv S,none,none,none,none,none,none,none])=_
  unfold f_law fTail6
  rw[if_pos ⟨⟨_,_,_,_,_,_,_,T⟩,by simp,by simp⟩]
  rfl
 refine⟨fun i s e=>sv_one (n:=7) e,⟨?_,rfl,fun i s hi e => ?_,rfl⟩,fun ac => ?_,e3,rn,by simp [mks],?_,nol_mks 0 _,fun es m => ?_,?_,by simp⟩
 ·unfold f_law_a
  generalize dG ks g=C at *
  simp -implicitDefEqProofs (disch:=lia) only [evA,if_pos,if_neg,if_true,if_false,ec]
 ·match i,hi,e with
  | 0,_,e=>cases e;exact⟨S,rfl⟩
  | 1,z,_=>exact absurd rfl z
  | i+2,_,e=>exact (noS_no (n:=6) (i:=i) (show ([none,none,none,none,none,none]:DEnv)[i]? = some (some s) by simpa using e)).elim
 ·obtain⟨y,eB⟩:=chk_b h hF (sv S) ac
  refine⟨_,eB,rfl,rfl,fun i s hi e => ?_,rfl,fun ad hh => ?_⟩
  ·match i,hi,e with
   | 0,_,e=>cases e;exact⟨S,rfl⟩
   | 1,_,e=>cases e;exact⟨_,rfl⟩
   | 2,z,_=>exact absurd rfl z
   | 3,_,e=>
    cases y with
    | none=>cases e
    | some d=>cases e;exact⟨d,rfl⟩
   | i+4,_,e=>exact (noS_no (n:=4) (i:=i) (show ([none,none,none,none]:DEnv)[i]? = some (some s) by simpa using e)).elim
  ·obtain⟨z,eC⟩:=chk_c (F:=F) h ec ac ad hh (y.map Sl.val)
   exact⟨_,eC,rfl,rfl,rfl,rfl,rfl,_,chk_d (F:=F) h none (sv (.tg ac (dG ks g))) none none none ad,rfl,rfl,rfl⟩
 ·exact List.pairwise_map.mpr ((List.nodup_iff_pairwise_ne.mp (fs_nd (ks:=ks) (g:=g))).imp fun h e=>h (pl_inj e))
 ·obtain⟨k,mk,e⟩:=List.mem_map.mp m
  injection e with e
  have:=(hF k (mem_ordP.mp (List.mem_filter.mp mk).1) (List.mem_filter.mp mk).2).len
  exact⟨by rw[←e,List.length_map];lia,by rw[←e];exact nod_l _⟩
 ·exact nod_rows F _
end Toy
namespace Toy
open PySem L2 L4
noncomputable def top (i:Nat):Stmt:=PySem.Challenge.pw_slate_k61_leans_told.main.body.getD i (.Pass ⟨0,0,0,0⟩)
structure Blt (mg:Str->Option Value):Prop where
 dict_:mg "dict" = none
 enumerate_:mg "enumerate" = none
 isinstance_:mg "isinstance" = none
 len_:mg "len" = none
 list_:mg "list" = none
 max_:mg "max" = none
 min_:mg "min" = none
 range_:mg "range" = none
 set_:mg "set" = none
 sorted_:mg "sorted" = none
 tuple_:mg "tuple" = none
structure Cst (w:World) (K:PySem.W.Frag) (mg:Str->Option Value):Prop where
 LEAF_KINDS:GlD K mg "LEAF_KINDS" za7
section
variable {P:Program} {w:World} {K:PySem.W.Frag} {mg:Str->Option Value} {base:Heap}
theorem sc_q_cell_at:FnScope ["_law_script","_law_k"] ["_law_script","_law_k"] (defScope (top 14)):=⟨rfl,rfl,rfl,by decide +kernel,rfl,by decide +kernel,by decide +kernel⟩
theorem ok_q_cell_at (B:Blt mg) (C:Cst w K mg) {f:Addr} {fd:FuncData} (F:Fun K "_law_cell_at" "_law_cell_at" (top 14) f fd) (b:Binds K fd ["_law_script","_law_k"] []) (hm:mg "_law_cell_at" = some (.ref f)):FnD P w K mg base "_law_cell_at" 1 ["_law_script","_law_k"] [] za8:=by
 have SC:=sc_q_cell_at
 refine zd3 (n:=2) (m:=2) (k:=0) F SC rfl rfl b hm fun cdv A outer s H E hr => ?_
 exact (za0 (ds_if (zb0 q_lt (de 1) (de_len rfl B.len_ (zaq (de 0) zaz)) (nomark _)) (za3 (zb1 (zbz (zc0 (de_mul (de_ix (de 0) (de 1) (fun _ _=>rfl)) zax) (de_mul (de 1) zax)) zax))) zb6)
  (za3 (zb1 zax)))
theorem sc_q_cells:FnScope ["_law_script","_law_low","_law_high"] ["_law_script","_law_low","_law_high"] (defScope (top 15)):=⟨rfl,rfl,rfl,by decide +kernel,rfl,by decide +kernel,by decide +kernel⟩
theorem ok_q_cells (B:Blt mg) (C:Cst w K mg) (G_q_cell_at:FnD P w K mg base "_law_cell_at" 1 ["_law_script","_law_k"] [] za8) {f:Addr} {fd:FuncData} (F:Fun K "_law_cells" "_law_cells" (top 15) f fd) (b:Binds K fd ["_law_script","_law_low","_law_high"] []) (hm:mg "_law_cells" = some (.ref f)):FnD P w K mg base "_law_cells" 2 ["_law_script","_law_low","_law_high"] [] r_q_cells:=by
 have SC:=sc_q_cells
 refine zd3 (n:=3) (m:=3) (k:=1) F SC rfl rfl b hm fun cdv A outer s H E hr => ?_
 exact (za3 (zb1 (de_comp (comp_ok (M:=["_law_script","_law_low","_law_high"]) (sc:=defScope (top 15)) (N:=["_law_script","_law_low","_law_high"]) rfl rfl (by decide +kernel)) rfl (di_rng2 rfl B.range_ (zaq (de 1) (zaq (de_min rfl rfl B.min_ (zaq (de 2) (zaq (de_len rfl B.len_ (zaq (de 0) zaz)) zaz))) zaz))) zf0 (fun s H fp pn=>(za6 G_q_cell_at (hr.mono (by lia)) rfl (zaq (de 1) (zaq (de 0) zaz)))))))
theorem sc_q_mix:FnScope ["_law_cell","_law_k"] ["_law_cell","_law_k"] (defScope (top 18)):=⟨rfl,rfl,rfl,by decide +kernel,rfl,by decide +kernel,by decide +kernel⟩
theorem ok_q_mix (B:Blt mg) (C:Cst w K mg) {f:Addr} {fd:FuncData} (F:Fun K "_law_mix" "_law_mix" (top 18) f fd) (b:Binds K fd ["_law_cell","_law_k"] []) (hm:mg "_law_mix" = some (.ref f)):FnD P w K mg base "_law_mix" 1 ["_law_cell","_law_k"] [] r_q_mix:=by
 have SC:=sc_q_mix
 refine zd3 (n:=2) (m:=2) (k:=0) F SC rfl rfl b hm fun cdv A outer s H E hr => ?_
 exact (za3 (zb1 (zbz (zc0 (zc0 (de_mul (de 0) zax) (de_mul (de 1) zax)) zax) zax)))
theorem sc_q_ref:FnScope ["_law_cell","_law_far"] ["_law_cell","_law_far"] (defScope (top 16)):=⟨rfl,rfl,rfl,by decide +kernel,rfl,by decide +kernel,by decide +kernel⟩
theorem ok_q_ref (B:Blt mg) (C:Cst w K mg) {f:Addr} {fd:FuncData} (F:Fun K "_law_ref" "_law_ref" (top 16) f fd) (b:Binds K fd ["_law_cell","_law_far"] []) (hm:mg "_law_ref" = some (.ref f)):FnD P w K mg base "_law_ref" 1 ["_law_cell","_law_far"] [] r_q_ref:=by
 have SC:=sc_q_ref
 refine zd3 (n:=2) (m:=2) (k:=0) F SC rfl rfl b hm fun cdv A outer s H E hr => ?_
 exact (za3 (zb1 (zbj (zaq zbq (zaq (zbj (zaq (zc0 (de_ix (de 1) zax (fun _ _=>rfl)) (zbz (de 0) zax)) (zaq (zc0 (de_ix (de 1) zax (fun _ _=>rfl)) (zbz (zb5 (de 0) zax) zax)) zaz))) (zaq (zbj (zaq (de_cmp (q_eq (zb4 hr)) (zbz (zb5 (de 0) zax) zax) zax (nomark _)) (zaq (de_cmp (q_eq (zb4 hr)) (zbz (zb5 (de 0) zax) zax) zax (nomark _)) zaz))) zaz))))))
theorem sc_q_area:FnScope ["_law_cell","_law_far","_law_row","_law_column","_law_last"] ["_law_cell","_law_far"] (defScope (top 17)):=⟨rfl,rfl,rfl,by decide +kernel,rfl,by decide +kernel,by decide +kernel⟩
theorem ok_q_area (B:Blt mg) (C:Cst w K mg) {f:Addr} {fd:FuncData} (F:Fun K "_law_area" "_law_area" (top 17) f fd) (b:Binds K fd ["_law_cell","_law_far"] []) (hm:mg "_law_area" = some (.ref f)):FnD P w K mg base "_law_area" 1 ["_law_cell","_law_far"] [] r_q_area:=by
 have SC:=sc_q_area
 refine zd3 (n:=5) (m:=2) (k:=0) F SC rfl rfl b hm fun cdv A outer s H E hr => ?_
 exact (za0 (zb2 (i:=2) SC.nd rfl (by first | exact Or.inl rfl | exact Or.inr rfl) (zbz (de 0) zax))
  (za0 (zb2 (i:=3) SC.nd rfl (by first | exact Or.inl rfl | exact Or.inr rfl) (zbz (zb5 (de 0) zax) zax))
  (za0 (zb2 (i:=4) SC.nd rfl (by first | exact Or.inl rfl | exact Or.inr rfl) (zbj (zaq (zc0 (de_ix (de 1) zax (fun _ _=>rfl)) (de_max rfl rfl B.max_ (zaq (de 2) (zaq (zbz (zb5 (de 0) zax) zax) zaz)))) (zaq (zc0 (de_ix (de 1) zax (fun _ _=>rfl)) (de_max rfl rfl B.max_ (zaq (de 3) (zaq (zbz (zb5 (de 0) zax) zax) zaz)))) zaz))))
  (za3 (zb1 (zbj (zaq zbq (zaq (zbj (zaq zbq (zaq (zbj (zaq (zc0 (de_ix (de 1) zax (fun _ _=>rfl)) (de 2)) (zaq (zc0 (de_ix (de 1) zax (fun _ _=>rfl)) (de 3)) zaz))) (zaq (zbj (zaq de_bl (zaq de_bl zaz))) zaz)))) (zaq (zbj (zaq zbq (zaq (de 4) (zaq (zbj (zaq de_bl (zaq de_bl zaz))) zaz)))) zaz)))))))))
theorem sc_q_over:FnScope ["_law_cell","_law_far","_law_depth","_law_some","_law_k","_law_more"] ["_law_cell","_law_far","_law_depth"] (defScope (top 19)):=⟨rfl,rfl,rfl,by decide +kernel,rfl,by decide +kernel,by decide +kernel⟩
theorem sc_q_tree:FnScope ["_law_cell","_law_far","_law_depth","_law_way","_law_more","_law_one","_law_two"] ["_law_cell","_law_far","_law_depth"] (defScope (top 20)):=⟨rfl,rfl,rfl,by decide +kernel,rfl,by decide +kernel,by decide +kernel⟩
theorem ok_q_over (B:Blt mg) (C:Cst w K mg) (G_q_mix:FnD P w K mg base "_law_mix" 1 ["_law_cell","_law_k"] [] r_q_mix) (G_q_ref:FnD P w K mg base "_law_ref" 1 ["_law_cell","_law_far"] [] r_q_ref) (G_q_area:FnD P w K mg base "_law_area" 1 ["_law_cell","_law_far"] [] r_q_area) {f0:Addr} {fd0:FuncData} (F0:Fun K "_law_over" "_law_over" (top 19) f0 fd0) (b0:Binds K fd0 ["_law_cell","_law_far","_law_depth"] []) (hm0:mg "_law_over" = some (.ref f0)) {f1:Addr} {fd1:FuncData} (F1:Fun K "_law_tree" "_law_tree" (top 20) f1 fd1) (b1:Binds K fd1 ["_law_cell","_law_far","_law_depth"] []) (hm1:mg "_law_tree" = some (.ref f1)):∀ n:Nat,FnD P w K mg base "_law_over" (1+n) ["_law_cell","_law_far","_law_depth"] [] (r_q_over n)/\FnD P w K mg base "_law_tree" (1+n) ["_law_cell","_law_far","_law_depth"] [] (r_q_tree n)
 | 0=>⟨fnD_none F0 b0 hm0 _,fnD_none F1 b1 hm1 _⟩
 | n+1=>by
  obtain⟨G_q_over,G_q_tree⟩:=ok_q_over B C G_q_mix G_q_ref G_q_area F0 b0 hm0 F1 b1 hm1 n
  refine⟨?_,?_⟩
  ·have SC:=sc_q_over
   refine zd3 (n:=6) (m:=3) (k:=1+n) F0 SC rfl rfl b0 hm0 fun cdv A outer s H E hr => ?_
   exact (za0 (zb2 (i:=3) SC.nd rfl (by first | exact Or.inl rfl | exact Or.inr rfl) (zcx zaz))
  (za0 (ds_for (i:=4) SC.nd rfl (by first | exact Or.inl rfl | exact Or.inr rfl) rfl (di_rng1 rfl B.range_ (zaq (zc0 zax (zbz (zb5 (de 0) zax) (zc0 zax (de_mul zax (de 2))))) zaz)) (za0 (zb2 (i:=5) SC.nd rfl (by first | exact Or.inl rfl | exact Or.inr rfl) (za6 G_q_mix (hr.mono (by lia)) rfl (zaq (de 0) (zaq (zc0 (de 4) zax) zaz))))
  (za3 (ds_if (dw (dw_or (zb0 (q_eq (zb4 hr)) (zbz (de 5) zax) zax (nomark _)) (dw_or1 (dw (dw_and (zb0 q_gt (de 4) zax (nomark _)) (dw_and1 (zb0 (q_eq (zb4 hr)) (zbz (de 5) zax) zax (nomark _)))))))) (za3 (ds_expr (de_append 3 (zaq (za6 G_q_ref (hr.mono (by lia)) rfl (zaq (zb5 (de 5) zax) (zaq (de 1) zaz))) zaz)))) (za3 (ds_if (zb0 (q_eq (zb4 hr)) (zbz (de 5) zax) zax (nomark _)) (za3 (ds_expr (de_append 3 (zaq (za6 G_q_tree (hr.mono (by lia)) rfl (zaq (zb5 (de 5) zax) (zaq (de 1) (zaq (de_sub (de 2) zax) zaz)))) zaz)))) (za3 (ds_expr (de_append 3 (zaq (za6 G_q_area (hr.mono (by lia)) rfl (zaq (zb5 (de 5) zax) (zaq (de 1) zaz))) zaz))))))))))
  (za3 (zb1 (de_pure (zbj (zaq zbq (zaq (de_ix (zcx (zaq zbq (zaq zbq (zaq zbq zaz)))) (zbz (de 0) zax) (fun _ _=>rfl)) (zaq (de 3) zaz)))))))))
  ·have SC:=sc_q_tree
   refine zd3 (n:=7) (m:=3) (k:=1+n) F1 SC rfl rfl b1 hm1 fun cdv A outer s H E hr => ?_
   exact (za0 (zb2 (i:=3) SC.nd rfl (by first | exact Or.inl rfl | exact Or.inr rfl) (zbz (de 0) zax))
  (za0 (zb2 (i:=4) SC.nd rfl (by first | exact Or.inl rfl | exact Or.inr rfl) (zb5 (de 0) zax))
  (za0 (ds_if (dw (dw_or (zb0 (q_eq (zb4 hr)) (de 2) zax (nomark _)) (dw_or1 (zb0 (q_eq (zb4 hr)) (de 3) zax (nomark _))))) (za3 (zb1 (de_ix (zcx (zaq (za6 G_q_ref (hr.mono (by lia)) rfl (zaq (de 4) (zaq (de 1) zaz))) (zaq (zbj (zaq zbq (zaq (zbz (de 4) zax) zaz))) (zaq (za6 G_q_ref (hr.mono (by lia)) rfl (zaq (de 4) (zaq (de 1) zaz))) (zaq (zbj (zaq zbq zaz)) zaz))))) (de_mul (zbz (de 4) zax) (zbz (zb5 (de 4) zax) zax)) (fun _ _=>rfl)))) zb6)
  (za0 (ds_if (zb0 q_lt (de 3) zax (nomark _)) (za3 (zb1 (za6 G_q_over (hr.mono (by lia)) rfl (zaq (de 4) (zaq (de 1) (zaq (de 2) zaz)))))) zb6)
  (za0 (zb2 (i:=5) SC.nd rfl (by first | exact Or.inl rfl | exact Or.inr rfl) (za6 G_q_tree (hr.mono (by lia)) rfl (zaq (za6 G_q_mix (hr.mono (by lia)) rfl (zaq (de 0) (zaq zax zaz))) (zaq (de 1) (zaq (de_sub (de 2) zax) zaz)))))
  (za0 (ds_if (zb0 (q_eq (zb4 hr)) (de 3) zax (nomark _)) (za3 (zb1 (zbj (zaq zbq (zaq (de 5) zaz))))) zb6)
  (za0 (zb2 (i:=6) SC.nd rfl (by first | exact Or.inl rfl | exact Or.inr rfl) (za6 G_q_tree (hr.mono (by lia)) rfl (zaq (za6 G_q_mix (hr.mono (by lia)) rfl (zaq (de 0) (zaq zax zaz))) (zaq (de 1) (zaq (de_sub (de 2) zax) zaz)))))
  (za0 (ds_if (zb0 (q_eq (zb4 hr)) (de 3) zax (nomark _)) (za3 (zb1 (zbj (zaq zbq (zaq (za6 G_q_ref (hr.mono (by lia)) rfl (zaq (de 4) (zaq (de 1) zaz))) (zaq (de 5) (zaq (de 6) zaz))))))) zb6)
  (za0 (ds_if (zb0 (q_eq (zb4 hr)) (de 3) zax (nomark _)) (za3 (zb1 (zbj (zaq zbq (zaq (de 5) (zaq (de 6) (zaq (za6 G_q_tree (hr.mono (by lia)) rfl (zaq (za6 G_q_mix (hr.mono (by lia)) rfl (zaq (de 0) (zaq zax zaz))) (zaq (de 1) (zaq (de_sub (de 2) zax) zaz)))) zaz))))))) zb6)
  (za0 (ds_if (zb0 (q_eq (zb4 hr)) (de 3) zax (nomark _)) (za3 (zb1 (zbj (zaq zbq (zaq zbq (zaq (za6 G_q_ref (hr.mono (by lia)) rfl (zaq (de 4) (zaq (de 1) zaz))) (zaq (zbj (zaq zbq (zaq zax zaz))) zaz))))))) zb6)
  (za3 (zb1 (zbj (zaq zbq (zaq (de_ix (zcx (zaq zbq (zaq zbq (zaq zbq (zaq zbq (zaq zbq (zaq zbq zaz))))))) (zbz (de 4) zax) (fun _ _=>rfl)) (zaq (de 5) (zaq (de 6) zaz)))))))))))))))))
theorem sc_q_content:FnScope ["_law_cell","_law_far"] ["_law_cell","_law_far"] (defScope (top 21)):=⟨rfl,rfl,rfl,by decide +kernel,rfl,by decide +kernel,by decide +kernel⟩
theorem ok_q_content (B:Blt mg) (C:Cst w K mg) (G_q_tree:FnD P w K mg base "_law_tree" 41 ["_law_cell","_law_far","_law_depth"] [] (r_q_tree 40)) {f:Addr} {fd:FuncData} (F:Fun K "_law_content" "_law_content" (top 21) f fd) (b:Binds K fd ["_law_cell","_law_far"] []) (hm:mg "_law_content" = some (.ref f)):FnD P w K mg base "_law_content" 42 ["_law_cell","_law_far"] [] zfj:=by
 have SC:=sc_q_content
 refine zd3 (n:=2) (m:=2) (k:=41) F SC rfl rfl b hm fun cdv A outer s H E hr => ?_
 exact (za0 (ds_if (zb0 (q_eq (zb4 hr)) (zbz (de 0) zax) zax (nomark _)) (za3 (zb1 de_non)) zb6)
  (za0 (ds_if (zb0 q_lt (zbz (de 0) zax) zax (nomark _)) (za3 (zb1 (de_ix (zcx (zaq (de_sub (zbz (zb5 (de 0) zax) zax) zax) (zaq zax (zaq (de_pow (de 0) zax) (zaq (de_neg (de_pow (de 0) zax)) zaz))))) (de_mul (zb5 (zbz (zb5 (de 0) zax) zax) zax) (zbz (zb5 (de 0) zax) zax)) (fun _ _=>rfl)))) zb6)
  (za3 (zb1 (za6 G_q_tree (hr.mono (by lia)) rfl (zaq (zb5 (de 0) zax) (zaq (de 1) (zaq (zc0 zax (zbz (de 0) zax)) zaz))))))))
theorem sc_q_contents:FnScope ["_law_script","_law_low","_law_high","_law_far","_law_contents_here","_law_cell","_law_k","_law_last","_law_area_here","_law_content_here"] ["_law_script","_law_low","_law_high"] (defScope (top 22)):=⟨rfl,rfl,rfl,by decide +kernel,rfl,by decide +kernel,by decide +kernel⟩
theorem ok_q_contents (B:Blt mg) (C:Cst w K mg) (G_q_cell_at:FnD P w K mg base "_law_cell_at" 1 ["_law_script","_law_k"] [] za8) (G_q_cells:FnD P w K mg base "_law_cells" 2 ["_law_script","_law_low","_law_high"] [] r_q_cells) (G_q_content:FnD P w K mg base "_law_content" 42 ["_law_cell","_law_far"] [] zfj) {f:Addr} {fd:FuncData} (F:Fun K "_law_contents" "_law_contents" (top 22) f fd) (b:Binds K fd ["_law_script","_law_low","_law_high"] []) (hm:mg "_law_contents" = some (.ref f)):FnD P w K mg base "_law_contents" 43 ["_law_script","_law_low","_law_high"] [] zc4:=by
 have SC:=sc_q_contents
 refine zd3 (n:=10) (m:=3) (k:=42) F SC rfl rfl b hm fun cdv A outer s H E hr => ?_
 exact (za0 (zb2 (i:=3) SC.nd rfl (by first | exact Or.inl rfl | exact Or.inr rfl) (de_ix (zcx (zaq (zbj (zaq zax (zaq zax zaz))) (zaq (zbj (zaq zax (zaq zax zaz))) zaz))) (zb5 (zbz (za6 G_q_cell_at (hr.mono (by lia)) rfl (zaq (de 0) (zaq zax zaz))) zax) zax) (fun _ _=>rfl)))
  (za0 (zb2 (i:=4) SC.nd rfl (by first | exact Or.inl rfl | exact Or.inr rfl) de_dnew)
  (za0 (ds_if (zb0 (q_eq (zb4 hr)) (zbz (za6 G_q_cell_at (hr.mono (by lia)) rfl (zaq (de 0) (zaq zax zaz))) zax) zax (nomark _)) (za0 (ds_for (i:=6) SC.nd rfl (by first | exact Or.inl rfl | exact Or.inr rfl) rfl (di_rng2 rfl B.range_ (zaq zax (zaq (zc0 zax (zbz (za6 G_q_cell_at (hr.mono (by lia)) rfl (zaq (de 0) (zaq zax zaz))) zax)) zaz))) (za3 (ds_putD 4 (ze9 hr) (zbj (zaq zbq (zaq zbq (zaq (zbj (zaq zbq (zaq (zbj (zaq (de_sub (de 6) zax) (zaq zax zaz))) (zaq (zbj (zaq de_bl (zaq de_bl zaz))) zaz)))) (zaq (zbj (zaq zbq (zaq (de 6) zaz))) zaz))))) (zbj (zaq (de 6) (zaq zax zaz))))))
  (za3 (ds_putD 4 (ze9 hr) (zbz (za6 G_q_cell_at (hr.mono (by lia)) rfl (zaq (de 0) (zaq zax zaz))) zax) (zbj (zaq zax (zaq zax zaz)))))) zb6)
  (za0 (ds_if (zb0 (q_eq (zb4 hr)) (zbz (za6 G_q_cell_at (hr.mono (by lia)) rfl (zaq (de 0) (zaq zax zaz))) zax) zax (nomark _)) (za0 (zb2 (i:=7) SC.nd rfl (by first | exact Or.inl rfl | exact Or.inr rfl) (zbj (zaq (zbz (za6 G_q_cell_at (hr.mono (by lia)) rfl (zaq (de 0) (zaq zax zaz))) zax) (zaq (zc0 zax (zbz (zb5 (za6 G_q_cell_at (hr.mono (by lia)) rfl (zaq (de 0) (zaq zax zaz))) zax) zax)) zaz))))
  (za0 (zb2 (i:=8) SC.nd rfl (by first | exact Or.inl rfl | exact Or.inr rfl) (zbj (zaq zbq (zaq (zbj (zaq zbq (zaq (zbj (zaq zax (zaq zax zaz))) (zaq (zbj (zaq de_bl (zaq de_bl zaz))) zaz)))) (zaq (zbj (zaq zbq (zaq (de 7) (zaq (zbj (zaq de_bl (zaq de_bl zaz))) zaz)))) zaz)))))
  (za3 (ds_putD 4 (ze9 hr) (zbj (zaq zbq (zaq (de_ix (zcx (zaq zbq (zaq zbq zaz))) (zbz (zb5 (za6 G_q_cell_at (hr.mono (by lia)) rfl (zaq (de 0) (zaq zax zaz))) zax) zax) (fun _ _=>rfl)) (zaq (zcx (zaq (de 8) zaz)) zaz)))) (zbj (zaq zax (zaq zax zaz))))))) zb6)
  (za0 (ds_for (i:=5) SC.nd rfl (by first | exact Or.inl rfl | exact Or.inr rfl) rfl (di_any (za6 G_q_cells (hr.mono (by lia)) rfl (zaq (de 0) (zaq (de 1) (zaq (de 2) zaz))))) (za0 (zb2 (i:=9) SC.nd rfl (by first | exact Or.inl rfl | exact Or.inr rfl) (za6 G_q_content (hr.mono (by lia)) rfl (zaq (zb5 (de 5) zax) (zaq (de 3) zaz))))
  (za3 (ds_if (zb0 q_notN (de 9) de_non (nomark _)) (za3 (ds_putD 4 (ze9 hr) (de 9) (zbj (zaq (zc0 (de_ix (de 3) zax (fun _ _=>rfl)) (zbz (de 5) zax)) (zaq (zc0 (de_ix (de 3) zax (fun _ _=>rfl)) (zbz (zb5 (de 5) zax) zax)) zaz))))) zb6))))
  (za3 (ds_retV 4)))))))
theorem sc_q_means:FnScope ["_law_tree_here","_law_below","_law_found","_law_one","_law_row"] ["_law_tree_here"] (defScope (top 23)):=⟨rfl,rfl,rfl,by decide +kernel,rfl,by decide +kernel,by decide +kernel⟩
theorem ok_q_means (B:Blt mg) (C:Cst w K mg) {f:Addr} {fd:FuncData} (F:Fun K "_law_means" "_law_means" (top 23) f fd) (b:Binds K fd ["_law_tree_here"] []) (hm:mg "_law_means" = some (.ref f)):∀ n:Nat,FnD P w K mg base "_law_means" (0+n) ["_law_tree_here"] [] (zb3 n)
 | 0=>fnD_none F b hm _
 | n+1=>by
  have G_q_means:=ok_q_means B C F b hm n
  have SC:=sc_q_means
  refine zd3 (n:=5) (m:=1) (k:=0+n) F SC rfl rfl b hm fun cdv A outer s H E hr => ?_
  exact (za0 (ds_if (zb0 (q_eq (zb4 hr)) (de_ix (de 0) zax (fun _ _=>rfl)) zbq (nomark _)) (za3 (zb1 (zcx (zaq (de_ix (de 0) zax (fun _ _=>rfl)) zaz)))) zb6)
  (za0 (ds_if (zb0 (q_eq (zb4 hr)) (de_ix (de 0) zax (fun _ _=>rfl)) zbq (nomark _)) (za0 (zb2 (i:=2) SC.nd rfl (by first | exact Or.inl rfl | exact Or.inr rfl) (zcx zaz))
  (za0 (ds_for (i:=4) SC.nd rfl (by first | exact Or.inl rfl | exact Or.inr rfl) rfl (di_rng2 rfl B.range_ (zaq (de_ix (de_ix (de_ix (de 0) zax (fun _ _=>rfl)) zax (fun _ _=>rfl)) zax (fun _ _=>rfl)) (zaq (zc0 (de_ix (de_ix (de_ix (de 0) zax (fun _ _=>rfl)) zax (fun _ _=>rfl)) zax (fun _ _=>rfl)) zax) zaz))) (za3 (zb2 (i:=2) SC.nd rfl (by first | exact Or.inl rfl | exact Or.inr rfl) (zc0 (de 2) (de_comp (comp_ok (M:=["_law_tree_here","_law_below","_law_found","_law_one","_law_row"]) (sc:=defScope (top 23)) (N:=["_law_tree_here","_law_below","_law_found","_law_one","_law_row"]) rfl rfl (by decide +kernel)) rfl (di_rng2 rfl B.range_ (zaq (de_ix (de_ix (de_ix (de 0) zax (fun _ _=>rfl)) zax (fun _ _=>rfl)) zax (fun _ _=>rfl)) (zaq (zc0 (de_ix (de_ix (de_ix (de 0) zax (fun _ _=>rfl)) zax (fun _ _=>rfl)) zax (fun _ _=>rfl)) zax) zaz))) zf0 (fun s H fp pn=>(zbj (zaq (de 5) (zaq (de 0) zaz)))))))))
  (za3 (ds_retV 2)))) zb6)
  (za0 (ds_if (dw (dw_or (zb0 (q_eq (zb4 hr)) (de_ix (de 0) zax (fun _ _=>rfl)) zbq (nomark _)) (dw_or1 (zb0 (q_eq (zb4 hr)) (de_ix (de 0) zax (fun _ _=>rfl)) zbq (nomark _))))) (za3 (zb1 (zcx zaz))) zb6)
  (za0 (zb2 (i:=1) SC.nd rfl (by first | exact Or.inl rfl | exact Or.inr rfl) (de_list_ rfl B.list_ (zaq (de_slS (de 0) (dp_some zax) dp_none) zaz)))
  (za0 (ds_if (zb0 (q_eq (zb4 hr)) (de_ix (de 0) zax (fun _ _=>rfl)) zbq (nomark _)) (za3 (zb2 (i:=1) SC.nd rfl (by first | exact Or.inl rfl | exact Or.inr rfl) (zcx (zaq (de_ix (de 0) zax (fun _ _=>rfl)) (zaq (de_ix (de 0) zax (fun _ _=>rfl)) zaz))))) zb6)
  (za0 (ds_if (zb0 (q_eq (zb4 hr)) (de_ix (de 0) zax (fun _ _=>rfl)) zbq (nomark _)) (za3 (zb2 (i:=1) SC.nd rfl (by first | exact Or.inl rfl | exact Or.inr rfl) (de_ix (de 0) zax (fun _ _=>rfl)))) zb6)
  (za0 (zb2 (i:=2) SC.nd rfl (by first | exact Or.inl rfl | exact Or.inr rfl) (zcx zaz))
  (za0 (ds_for (i:=3) SC.nd rfl (by first | exact Or.inl rfl | exact Or.inr rfl) rfl (di_any (de 1)) (za3 (zb2 (i:=2) SC.nd rfl (by first | exact Or.inl rfl | exact Or.inr rfl) (zc0 (de 2) (za6 G_q_means (hr.mono (by lia)) rfl (zaq (de 3) zaz))))))
  (za3 (ds_retV 2))))))))))
theorem sc_is_formula:FnScope ["content"] ["content"] (defScope (top 11)):=⟨rfl,rfl,rfl,by decide +kernel,rfl,by decide +kernel,by decide +kernel⟩
theorem ok_is_formula (B:Blt mg) (C:Cst w K mg) {f:Addr} {fd:FuncData} (F:Fun K "is_formula" "is_formula" (top 11) f fd) (b:Binds K fd ["content"] []) (hm:mg "is_formula" = some (.ref f)):FnD P w K mg base "is_formula" 1 ["content"] [] zf1:=by
 have SC:=sc_is_formula
 refine zd3 (n:=1) (m:=1) (k:=0) F SC rfl rfl b hm fun cdv A outer s H E hr => ?_
 exact (za3 (zb1 (de_isi rfl B.isinstance_ (zaq (de 0) (zaq (de_ty rfl B.tuple_ bo_tuple) zaz)))))
theorem sc_parts:FnScope ["tree","kind"] ["tree"] (defScope (top 5)):=⟨rfl,rfl,rfl,by decide +kernel,rfl,by decide +kernel,by decide +kernel⟩
theorem ok_parts (B:Blt mg) (C:Cst w K mg) {f:Addr} {fd:FuncData} (F:Fun K "parts" "parts" (top 5) f fd) (b:Binds K fd ["tree"] []) (hm:mg "parts" = some (.ref f)):FnD P w K mg base "parts" 1 ["tree"] [] r_parts:=by
 have SC:=sc_parts
 refine zd3 (n:=2) (m:=1) (k:=0) F SC rfl rfl b hm fun cdv A outer s H E hr => ?_
 exact (za0 (zb2 (i:=1) SC.nd rfl (by first | exact Or.inl rfl | exact Or.inr rfl) (de_ix (de 0) zax (fun _ _=>rfl)))
  (za0 (ds_if (zb0 (q_in (zb4 hr)) (de 1) (de_gl C.LEAF_KINDS rfl) (by with_unfolding_all rfl)) (za3 (zb1 (zcx zaz))) zb6)
  (za0 (ds_if (zb0 (q_eq (zb4 hr)) (de 1) zbq (nomark _)) (za3 (zb1 (de_list_ rfl B.list_ (zaq (de_ix (de 0) zax (fun _ _=>rfl)) zaz)))) zb6)
  (za0 (ds_if (zb0 (q_eq (zb4 hr)) (de 1) zbq (nomark _)) (za3 (zb1 (zcx (zaq (de_ix (de 0) zax (fun _ _=>rfl)) (zaq (de_ix (de 0) zax (fun _ _=>rfl)) zaz))))) zb6)
  (za3 (zb1 (de_list_ rfl B.list_ (zaq (de_slS (de 0) (dp_some zax) dp_none) zaz))))))))
theorem sc_levels:FnScope ["tree","found","level","below","part"] ["tree"] (defScope (top 6)):=⟨rfl,rfl,rfl,by decide +kernel,rfl,by decide +kernel,by decide +kernel⟩
theorem ok_levels (B:Blt mg) (C:Cst w K mg) (G_parts:FnD P w K mg base "parts" 1 ["tree"] [] r_parts) {f:Addr} {fd:FuncData} (F:Fun K "levels" "levels" (top 6) f fd) (b:Binds K fd ["tree"] []) (hm:mg "levels" = some (.ref f)):FnD P w K mg base "levels" 2 ["tree"] [] r_levels:=by
 have SC:=sc_levels
 refine zd3 (n:=5) (m:=1) (k:=1) F SC rfl rfl b hm fun cdv A outer s H E hr => ?_
 exact (za0 (zb2 (i:=1) SC.nd rfl (by first | exact Or.inl rfl | exact Or.inr rfl) (zcx zaz))
  (za0 (zb2 (i:=2) SC.nd rfl (by first | exact Or.inl rfl | exact Or.inr rfl) (zcx (zaq (de 0) zaz)))
  (za0 (ds_while 4096 (dt_truth (de 2) (fun _=>rfl)) (za0 (ds_expr (de_append 1 (zaq (de 2) zaz)))
  (za0 (zb2 (i:=3) SC.nd rfl (by first | exact Or.inl rfl | exact Or.inr rfl) (zcx zaz))
  (za0 (ds_for (i:=4) SC.nd rfl (by first | exact Or.inl rfl | exact Or.inr rfl) rfl (di_any (de 2)) (za3 (ds_expr (de_extend 3 (zaq (za6 G_parts (hr.mono (by lia)) rfl (zaq (de 4) zaz)) zaz)))))
  (za3 (zb2 (i:=2) SC.nd rfl (by first | exact Or.inl rfl | exact Or.inr rfl) (de_pure (de 3))))))))
  (za3 (ds_retV 1)))))
theorem sc_leaf_list:FnScope ["tree","found","level"] ["tree"] (defScope (top 7)):=⟨rfl,rfl,rfl,by decide +kernel,rfl,by decide +kernel,by decide +kernel⟩
theorem ok_leaf_list (B:Blt mg) (C:Cst w K mg) (G_levels:FnD P w K mg base "levels" 2 ["tree"] [] r_levels) {f:Addr} {fd:FuncData} (F:Fun K "leaf_list" "leaf_list" (top 7) f fd) (b:Binds K fd ["tree"] []) (hm:mg "leaf_list" = some (.ref f)):FnD P w K mg base "leaf_list" 3 ["tree"] [] r_leaf_list:=by
 have SC:=sc_leaf_list
 refine zd3 (n:=3) (m:=1) (k:=2) F SC rfl rfl b hm fun cdv A outer s H E hr => ?_
 exact (za0 (zb2 (i:=1) SC.nd rfl (by first | exact Or.inl rfl | exact Or.inr rfl) (zcx zaz))
  (za0 (ds_for (i:=2) SC.nd rfl (by first | exact Or.inl rfl | exact Or.inr rfl) rfl (di_any (za6 G_levels (hr.mono (by lia)) rfl (zaq (de 0) zaz))) (za3 (ds_expr (de_extend 1 (zaq (de_comp (comp_ok (M:=["tree","found","level"]) (sc:=defScope (top 7)) (N:=["tree","found","level"]) rfl rfl (by decide +kernel)) rfl (di_any (de 2)) (tests_one fun s H fp pn=>(zb0 (q_in (zb4 hr)) (de_ix (de 0) zax (fun _ _=>rfl)) (de_gl C.LEAF_KINDS rfl) (by with_unfolding_all rfl))) (fun s H fp pn=>(de 0))) zaz)))))
  (za3 (ds_retV 1))))
theorem sc_between:FnScope ["first","last","found","row","column"] ["first","last"] (defScope (top 1)):=⟨rfl,rfl,rfl,by decide +kernel,rfl,by decide +kernel,by decide +kernel⟩
theorem ok_between (B:Blt mg) (C:Cst w K mg) {f:Addr} {fd:FuncData} (F:Fun K "between" "between" (top 1) f fd) (b:Binds K fd ["first","last"] []) (hm:mg "between" = some (.ref f)):FnD P w K mg base "between" 1 ["first","last"] [] r_between:=by
 have SC:=sc_between
 refine zd3 (n:=5) (m:=2) (k:=0) F SC rfl rfl b hm fun cdv A outer s H E hr => ?_
 exact (za0 (zb2 (i:=2) SC.nd rfl (by first | exact Or.inl rfl | exact Or.inr rfl) (zcx zaz))
  (za0 (ds_if (zb0 q_gt (de_ix (de 0) zax (fun _ _=>rfl)) (de_ix (de 1) zax (fun _ _=>rfl)) (nomark _)) (za3 (ds_retV 2)) zb6)
  (za0 (ds_for (i:=3) SC.nd rfl (by first | exact Or.inl rfl | exact Or.inr rfl) rfl (di_rng2 rfl B.range_ (zaq (de_ix (de 0) zax (fun _ _=>rfl)) (zaq (zc0 (de_ix (de 1) zax (fun _ _=>rfl)) zax) zaz))) (za3 (ds_for (i:=4) SC.nd rfl (by first | exact Or.inl rfl | exact Or.inr rfl) rfl (di_rng2 rfl B.range_ (zaq (de_ix (de 0) zax (fun _ _=>rfl)) (zaq (zc0 (de_ix (de 1) zax (fun _ _=>rfl)) zax) zaz))) (za3 (ds_expr (de_append 2 (zaq (zbj (zaq (de 3) (zaq (de 4) zaz))) zaz)))))))
  (za3 (ds_retV 2)))))
theorem sc_leaf_places:FnScope ["leaf"] ["leaf"] (defScope (top 8)):=⟨rfl,rfl,rfl,by decide +kernel,rfl,by decide +kernel,by decide +kernel⟩
theorem ok_leaf_places (B:Blt mg) (C:Cst w K mg) (G_between:FnD P w K mg base "between" 1 ["first","last"] [] r_between) {f:Addr} {fd:FuncData} (F:Fun K "leaf_places" "leaf_places" (top 8) f fd) (b:Binds K fd ["leaf"] []) (hm:mg "leaf_places" = some (.ref f)):FnD P w K mg base "leaf_places" 2 ["leaf"] [] ze0:=by
 have SC:=sc_leaf_places
 refine zd3 (n:=1) (m:=1) (k:=1) F SC rfl rfl b hm fun cdv A outer s H E hr => ?_
 exact (za0 (ds_if (zb0 (q_eq (zb4 hr)) (de_ix (de 0) zax (fun _ _=>rfl)) zbq (nomark _)) (za3 (zb1 (zcx (zaq (de_ix (de 0) zax (fun _ _=>rfl)) zaz)))) zb6)
  (za0 (ds_if (zb0 (q_eq (zb4 hr)) (de_ix (de 0) zax (fun _ _=>rfl)) zbq (nomark _)) (za3 (zb1 (za6 G_between (hr.mono (by lia)) rfl (zaq (de_ix (de_ix (de 0) zax (fun _ _=>rfl)) zax (fun _ _=>rfl)) (zaq (de_ix (de_ix (de 0) zax (fun _ _=>rfl)) zax (fun _ _=>rfl)) zaz))))) zb6)
  (za3 (zb1 (zcx zaz)))))
theorem sc_in_order:FnScope ["places"] ["places"] (defScope (top 2)):=⟨rfl,rfl,rfl,by decide +kernel,rfl,by decide +kernel,by decide +kernel⟩
theorem ok_in_order (B:Blt mg) (C:Cst w K mg) {f:Addr} {fd:FuncData} (F:Fun K "in_order" "in_order" (top 2) f fd) (b:Binds K fd ["places"] []) (hm:mg "in_order" = some (.ref f)):FnD P w K mg base "in_order" 1 ["places"] [] r_in_order:=by
 have SC:=sc_in_order
 refine zd3 (n:=1) (m:=1) (k:=0) F SC rfl rfl b hm fun cdv A outer s H E hr => ?_
 exact (za3 (zb1 (de_sortSet rfl (hu_of4 hr) rfl B.sorted_ rfl B.set_ (zaq (de 0) zaz))))
theorem sc_meant:FnScope ["tree","found","leaf"] ["tree"] (defScope (top 9)):=⟨rfl,rfl,rfl,by decide +kernel,rfl,by decide +kernel,by decide +kernel⟩
theorem ok_meant (B:Blt mg) (C:Cst w K mg) (G_leaf_list:FnD P w K mg base "leaf_list" 3 ["tree"] [] r_leaf_list) (G_leaf_places:FnD P w K mg base "leaf_places" 2 ["leaf"] [] ze0) (G_in_order:FnD P w K mg base "in_order" 1 ["places"] [] r_in_order) {f:Addr} {fd:FuncData} (F:Fun K "meant" "meant" (top 9) f fd) (b:Binds K fd ["tree"] []) (hm:mg "meant" = some (.ref f)):FnD P w K mg base "meant" 4 ["tree"] [] r_meant:=by
 have SC:=sc_meant
 refine zd3 (n:=3) (m:=1) (k:=3) F SC rfl rfl b hm fun cdv A outer s H E hr => ?_
 exact (za0 (zb2 (i:=1) SC.nd rfl (by first | exact Or.inl rfl | exact Or.inr rfl) (zcx zaz))
  (za0 (ds_for (i:=2) SC.nd rfl (by first | exact Or.inl rfl | exact Or.inr rfl) rfl (di_any (za6 G_leaf_list (hr.mono (by lia)) rfl (zaq (de 0) zaz))) (za3 (ds_expr (de_extend 1 (zaq (za6 G_leaf_places (hr.mono (by lia)) rfl (zaq (de 2) zaz)) zaz)))))
  (za3 (zb1 (de_pure (za6 G_in_order (hr.mono (by lia)) rfl (zaq (de 1) zaz)))))))
theorem sc_leans_of:FnScope ["contents","leans","place"] ["contents"] (defScope (top 12)):=⟨rfl,rfl,rfl,by decide +kernel,rfl,by decide +kernel,by decide +kernel⟩
theorem ok_leans_of (B:Blt mg) (C:Cst w K mg) (G_is_formula:FnD P w K mg base "is_formula" 1 ["content"] [] zf1) (G_meant:FnD P w K mg base "meant" 4 ["tree"] [] r_meant) {f:Addr} {fd:FuncData} (F:Fun K "leans_of" "leans_of" (top 12) f fd) (b:Binds K fd ["contents"] []) (hm:mg "leans_of" = some (.ref f)):FnG P w K mg base (NestN K) "leans_of" 5 ["contents"] zf6:=by
 have SC:=sc_leans_of
 refine fnG_mk (n:=3) (m:=1) (k:=4) F SC rfl rfl b hm fun cdv A outer s H E hr => ?_
 exact (dbg_cons (zb2 (i:=1) SC.nd rfl (by first | exact Or.inl rfl | exact Or.inr rfl) de_dnew)
  (dbg_nest (pv 1) (dn_for (i:=2) (show (2:Nat) ≠ 1 by decide) SC.nd rfl (by first | exact Or.inl rfl | exact Or.inr rfl) rfl (di_any (de_sortDD rfl rfl B.sorted_ (zaq (de 0) zaz))) (nb_one (dn_if (dt_truth (za6 G_is_formula (hr.mono (by lia)) rfl (zaq (de_ixDD (ze9 hr) (de 0) (de 2) (fun _ _=>rfl)) zaz)) (fun _=>rfl)) (nb_one (dn_put (j:=1) (ze9 hr) (za6 G_meant (hr.mono (by lia)) rfl (zaq (de_ixDD (ze9 hr) (de 0) (de 2) (fun _ _=>rfl)) zaz)) (de 2))) nb_nil)))))
theorem sc_law:FnScope ["_law_script","_law_contents_here","_law_due","_law_place","_law_found","_law_marks","_law_again","_law_k"] ["_law_script"] (defScope (top 24)):=⟨rfl,rfl,rfl,by decide +kernel,rfl,by decide +kernel,by decide +kernel⟩
theorem ok_law (B:Blt mg) (C:Cst w K mg) (G_q_contents:FnD P w K mg base "_law_contents" 43 ["_law_script","_law_low","_law_high"] [] zc4) (G_q_means:FnD P w K mg base "_law_means" 40 ["_law_tree_here"] [] (zb3 40)) (G_leans_of:FnG P w K mg base (NestN K) "leans_of" 5 ["contents"] zf6) {f:Addr} {fd:FuncData} (F:Fun K "law" "law" (top 24) f fd):FnOk P w K mg base (CXA P w) 44 f fd ["_law_script"] (spM K [] r_law):=by
 have SC:=sc_law
 refine (fnD_ok (n:=8) (m:=1) (k:=43) F SC rfl rfl fun cdv A outer s H E hr => ?_)
 exact (db_tail6 (jc:=1) (jd:=2) (jh:=4) (jm:=5) (ja:=6) (jk:=7) (jp:=3) (f0:=f_law_a) (fB:=f_law_b) (fC1:=f_law_c) (fC2:=f_law_d) (f3:=f_law_e) (dba_one (zb2 (i:=1) SC.nd rfl (by first | exact Or.inl rfl | exact Or.inr rfl) (za6 G_q_contents (hr.mono (by lia)) rfl (zaq (de 0) (zaq zax (zaq zax zaz)))))) (dba_cons (zb2 (i:=2) SC.nd rfl (by first | exact Or.inl rfl | exact Or.inr rfl) (zcx zaz))
  (dba_one (ds_for (i:=3) SC.nd rfl (by first | exact Or.inl rfl | exact Or.inr rfl) rfl (di_any (de_sortDD rfl rfl B.sorted_ (zaq (de_tg (de 1)) zaz))) (za3 (ds_if (dt_truth (de_isi rfl B.isinstance_ (zaq (de_ixDD (ze9 hr) (de_tg (de 1)) (de 3) (fun _ _=>rfl)) (zaq (de_ty rfl B.tuple_ bo_tuple) zaz))) (fun _=>rfl)) (za3 (ds_expr (de_append 2 (zaq (zbj (zaq (de 3) (zaq (de_sortSet rfl (hu_of4 hr) rfl B.sorted_ rfl B.set_ (zaq (za6 G_q_means (hr.mono (by lia)) rfl (zaq (de_ixDD (ze9 hr) (de_tg (de 1)) (de 3) (fun _ _=>rfl)) zaz)) zaz)) zaz))) zaz)))) zb6))))) (ps_set (i:=4) SC.nd rfl (by first | exact Or.inl rfl | exact Or.inr rfl) (pe_callG G_leans_of (hr.mono (by lia)) rfl (pv 1))) (dba_cons (ds_if (dw (dw_or (dt_not (dt_truth (de_isiDD rfl B.isinstance_ (zaq (de_co (de_tg (de 4))) (zaq (de_ty rfl B.dict_ bo_dict) zaz))) (fun _=>rfl))) (dw_or1 (zb0 (q_neDDD (zb4 hr)) (de_tg (de 1)) (za6 G_q_contents (hr.mono (by lia)) rfl (zaq (de 0) (zaq zax (zaq zax zaz)))) (nomark _))))) (za3 (zb1 de_bl)) zb6)
  (dba_cons (ds_for (i:=3) SC.nd rfl (by first | exact Or.inl rfl | exact Or.inr rfl) rfl (di_dcf (de_tg (de 4))) (za3 (ds_if (dt_not (dt_truth (de_isi rfl B.isinstance_ (zaq (de_ixDD (ze9 hr) (de_co (de_tg (de 4))) (de 3) (fun _ _=>rfl)) (zaq (de_ty rfl B.list_ bo_list) zaz))) (fun _=>rfl))) (za3 (zb1 de_bl)) zb6)))
  (dba_cons (ds_if (zb0 (q_ne (zb4 hr)) (de_comp (comp_ok (M:=["_law_script","_law_contents_here","_law_due","","_law_found","_law_marks","_law_again","_law_k"]) (sc:=defScope (top 24)) (N:=["_law_script","_law_contents_here","_law_due","_law_place","_law_found","_law_marks","_law_again","_law_k"]) rfl rfl (by decide +kernel)) rfl (di_dcf (de_tg (de 4))) zf0 (fun s H fp pn=>(zbj (zaq (de 0) (zaq (de_ixDD (ze9 hr) (de_co (de_tg (de 5))) (de 0) (fun _ _=>rfl)) zaz))))) (de_tg (de 2)) (nomark _)) (za3 (zb1 de_bl)) zb6)
  (dba_one (ds_setcomp (i:=5) SC.nd rfl (by first | exact Or.inl rfl | exact Or.inr rfl) (comp_ok (M:=["_law_script","_law_contents_here","_law_due","_law_place","_law_found","_law_marks","_law_again",""]) (sc:=defScope (top 24)) (N:=["_law_script","_law_contents_here","_law_due","_law_place","_law_found","_law_marks","_law_again","_law_k"]) rfl rfl (by decide +kernel)) rfl (di_rng1 rfl B.range_ (zaq (de_len rfl B.len_ (zaq (de_tg (de 2)) zaz)) zaz)) zf0 (fun s H fp pn=>(zbj (zaq zbq (zaq (de 0) zaz)))))))))
  (ps_mess6 (pv 4) (pv 3) (pv 7) (pv 5) (ze9 hr) rfl SC.nd rfl (by first | exact Or.inl rfl | exact Or.inr rfl) rfl (by first | exact Or.inl rfl | exact Or.inr rfl) rfl B.list_ rfl B.enumerate_ (fun _ _=>rfl) (fun _ _=>rfl)) (dba_cons (ds_if (zb0 (q_ne (zb4 hr)) (de_comp (comp_ok (M:=["_law_script","_law_contents_here","_law_due","","_law_found","_law_marks","_law_again","_law_k"]) (sc:=defScope (top 24)) (N:=["_law_script","_law_contents_here","_law_due","_law_place","_law_found","_law_marks","_law_again","_law_k"]) rfl rfl (by decide +kernel)) rfl (di_dcf (de_tg (de 4))) zf0 (fun s H fp pn=>(de_ix (de_ixDD (ze9 hr) (de_co (de_tg (de 5))) (de 0) (fun _ _=>rfl)) (de_neg zax) (fun _ _=>rfl)))) (de 5) (nomark _)) (za3 (zb1 de_bl)) zb6)
  (dba_one (ds_if (zb0 (q_ne (zb4 hr)) (de_comp (comp_ok (M:=["_law_script","_law_contents_here","_law_due","","_law_found","_law_marks","_law_again","_law_k"]) (sc:=defScope (top 24)) (N:=["_law_script","_law_contents_here","_law_due","_law_place","_law_found","_law_marks","_law_again","_law_k"]) rfl rfl (by decide +kernel)) rfl (di_dcf (de_tg (de 4))) zf0 (fun s H fp pn=>(de_len rfl B.len_ (zaq (de_ixDD (ze9 hr) (de_co (de_tg (de 5))) (de 0) (fun _ _=>rfl)) zaz)))) (de_comp (comp_ok (M:=["_law_script","_law_contents_here","_law_due","_law_place","_law_found","_law_marks","_law_again","_law_k"]) (sc:=defScope (top 24)) (N:=["_law_script","_law_contents_here","_law_due","_law_place","_law_found","_law_marks","_law_again","_law_k"]) rfl rfl (by decide +kernel)) rfl (di_any (de_tg (de 2))) zf0 (fun s H fp pn=>(zc0 zax (de_len rfl B.len_ (zaq (de_ix (de 0) zax (fun _ _=>rfl)) zaz))))) (nomark _)) (za3 (zb1 de_bl)) zb6))) (ps_set (i:=6) SC.nd rfl (by first | exact Or.inl rfl | exact Or.inr rfl) (pe_callG G_leans_of (hr.mono (by lia)) rfl (pv 1))) (ps_clT (pv 1)) (de_cmp (q_eq (zb4 hr)) (de_comp (comp_ok (M:=["_law_script","_law_contents_here","_law_due","","_law_found","_law_marks","_law_again","_law_k"]) (sc:=defScope (top 24)) (N:=["_law_script","_law_contents_here","_law_due","_law_place","_law_found","_law_marks","_law_again","_law_k"]) rfl rfl (by decide +kernel)) rfl (di_dcf (de 6)) zf0 (fun s H fp pn=>(zbj (zaq (de 0) (zaq (de_ixDD (ze9 hr) (de_co (de 7)) (de 0) (fun _ _=>rfl)) zaz))))) (de_tg (de 2)) (nomark _)))
end
theorem ln1 {us:List Value} (h:us.length=1):∃ a0,us=[a0]:=by
 match us,h with
 | [a0],_=>exact⟨a0,rfl⟩
theorem ln2 {us:List Value} (h:us.length=2):∃ a0 a1,us=[a0,a1]:=by
 match us,h with
 | [a0,a1],_=>exact⟨a0,a1,rfl⟩
theorem ln3 {us:List Value} (h:us.length=3):∃ a0 a1 a2,us=[a0,a1,a2]:=by
 match us,h with
 | [a0,a1,a2],_=>exact⟨a0,a1,a2,rfl⟩
theorem all_mk {l : PySem.W.OpenLaw} {w : World} {K : PySem.W.Frag} {h : Heap} {mg : Str → Option Value} {fa : Addr} (X : K.In h) (G : h.Ns mainGlobals mg) (hfa : mg "law" = some (.ref fa))
    {od0 an0 : Option Addr} {sl0 : Array (Option Value)} {oc0 kV0 dc0 pm0 cd0 ct0 : Value} {f0 : Addr}
    {od1 an1 : Option Addr} {sl1 : Array (Option Value)} {oc1 kV1 dc1 pm1 cd1 ct1 : Value} {f1 : Addr}
    {od2 an2 : Option Addr} {sl2 : Array (Option Value)} {oc2 kV2 dc2 pm2 cd2 ct2 : Value} {f2 : Addr}
    {od3 an3 : Option Addr} {sl3 : Array (Option Value)} {oc3 kV3 dc3 pm3 cd3 ct3 : Value} {f3 : Addr}
    {od4 an4 : Option Addr} {sl4 : Array (Option Value)} {oc4 kV4 dc4 pm4 cd4 ct4 : Value} {f4 : Addr}
    {od5 an5 : Option Addr} {sl5 : Array (Option Value)} {oc5 kV5 dc5 pm5 cd5 ct5 : Value} {f5 : Addr}
    {od6 an6 : Option Addr} {sl6 : Array (Option Value)} {oc6 kV6 dc6 pm6 cd6 ct6 : Value} {f6 : Addr}
    {od7 an7 : Option Addr} {sl7 : Array (Option Value)} {oc7 kV7 dc7 pm7 cd7 ct7 : Value} {f7 : Addr}
    {od8 an8 : Option Addr} {sl8 : Array (Option Value)} {oc8 kV8 dc8 pm8 cd8 ct8 : Value} {f8 : Addr}
    {od9 an9 : Option Addr} {sl9 : Array (Option Value)} {oc9 kV9 dc9 pm9 cd9 ct9 : Value} {f9 : Addr}
    {od10 an10 : Option Addr} {sl10 : Array (Option Value)} {oc10 kV10 dc10 pm10 cd10 ct10 : Value} {f10 : Addr}
    {od11 an11 : Option Addr} {sl11 : Array (Option Value)} {oc11 kV11 dc11 pm11 cd11 ct11 : Value} {f11 : Addr}
    {od12 an12 : Option Addr} {sl12 : Array (Option Value)} {oc12 kV12 dc12 pm12 cd12 ct12 : Value} {f12 : Addr}
    {od13 an13 : Option Addr} {sl13 : Array (Option Value)} {oc13 kV13 dc13 pm13 cd13 ct13 : Value} {f13 : Addr}
    {od14 an14 : Option Addr} {sl14 : Array (Option Value)} {oc14 kV14 dc14 pm14 cd14 ct14 : Value} {f14 : Addr}
    {od15 an15 : Option Addr} {sl15 : Array (Option Value)} {oc15 kV15 dc15 pm15 cd15 ct15 : Value} {f15 : Addr}
    {od16 an16 : Option Addr} {sl16 : Array (Option Value)} {oc16 kV16 dc16 pm16 cd16 ct16 : Value} {f16 : Addr}
    {od17 an17 : Option Addr} {sl17 : Array (Option Value)} {oc17 kV17 dc17 pm17 cd17 ct17 : Value} {f17 : Addr}
    {od18 an18 : Option Addr} {sl18 : Array (Option Value)} {oc18 kV18 dc18 pm18 cd18 ct18 : Value} {f18 : Addr}
    {od19 an19 : Option Addr} {sl19 : Array (Option Value)} {oc19 kV19 dc19 pm19 cd19 ct19 : Value} {f19 : Addr}
    {a_0 : Addr} {od_0 : Option Addr} {n_0 : Nat} {sl_0 : Array (Option Value)} {u0_0 : Tok} {u0_1 : Tok} {u0_2 : Tok} {u0_3 : Tok}
    (a0 : PySem.W.nsIn K mainGlobals "_law_cell_at" = some (some (.ref f0))) (l0 : K.lookup f0 = some ⟨oc0, od0, .func (PySem.W.fnOf "_law_cell_at" "_law_cell_at" (defArgs (top 14)) (defBody (top 14)) (defScope (top 14)) .none kV0 dc0 pm0 an0 cd0 ct0), sl0⟩) (c0 : PySem.W.codeIn K cd0 "_law_cell_at" = true) (k0 : PySem.W.keepIn K (.ref f0) = true)
    (a1 : PySem.W.nsIn K mainGlobals "_law_cells" = some (some (.ref f1))) (l1 : K.lookup f1 = some ⟨oc1, od1, .func (PySem.W.fnOf "_law_cells" "_law_cells" (defArgs (top 15)) (defBody (top 15)) (defScope (top 15)) .none kV1 dc1 pm1 an1 cd1 ct1), sl1⟩) (c1 : PySem.W.codeIn K cd1 "_law_cells" = true) (k1 : PySem.W.keepIn K (.ref f1) = true)
    (a2 : PySem.W.nsIn K mainGlobals "_law_mix" = some (some (.ref f2))) (l2 : K.lookup f2 = some ⟨oc2, od2, .func (PySem.W.fnOf "_law_mix" "_law_mix" (defArgs (top 18)) (defBody (top 18)) (defScope (top 18)) .none kV2 dc2 pm2 an2 cd2 ct2), sl2⟩) (c2 : PySem.W.codeIn K cd2 "_law_mix" = true) (k2 : PySem.W.keepIn K (.ref f2) = true)
    (a3 : PySem.W.nsIn K mainGlobals "_law_ref" = some (some (.ref f3))) (l3 : K.lookup f3 = some ⟨oc3, od3, .func (PySem.W.fnOf "_law_ref" "_law_ref" (defArgs (top 16)) (defBody (top 16)) (defScope (top 16)) .none kV3 dc3 pm3 an3 cd3 ct3), sl3⟩) (c3 : PySem.W.codeIn K cd3 "_law_ref" = true) (k3 : PySem.W.keepIn K (.ref f3) = true)
    (a4 : PySem.W.nsIn K mainGlobals "_law_area" = some (some (.ref f4))) (l4 : K.lookup f4 = some ⟨oc4, od4, .func (PySem.W.fnOf "_law_area" "_law_area" (defArgs (top 17)) (defBody (top 17)) (defScope (top 17)) .none kV4 dc4 pm4 an4 cd4 ct4), sl4⟩) (c4 : PySem.W.codeIn K cd4 "_law_area" = true) (k4 : PySem.W.keepIn K (.ref f4) = true)
    (a5 : PySem.W.nsIn K mainGlobals "_law_over" = some (some (.ref f5))) (l5 : K.lookup f5 = some ⟨oc5, od5, .func (PySem.W.fnOf "_law_over" "_law_over" (defArgs (top 19)) (defBody (top 19)) (defScope (top 19)) .none kV5 dc5 pm5 an5 cd5 ct5), sl5⟩) (c5 : PySem.W.codeIn K cd5 "_law_over" = true) (k5 : PySem.W.keepIn K (.ref f5) = true)
    (a6 : PySem.W.nsIn K mainGlobals "_law_tree" = some (some (.ref f6))) (l6 : K.lookup f6 = some ⟨oc6, od6, .func (PySem.W.fnOf "_law_tree" "_law_tree" (defArgs (top 20)) (defBody (top 20)) (defScope (top 20)) .none kV6 dc6 pm6 an6 cd6 ct6), sl6⟩) (c6 : PySem.W.codeIn K cd6 "_law_tree" = true) (k6 : PySem.W.keepIn K (.ref f6) = true)
    (a7 : PySem.W.nsIn K mainGlobals "_law_content" = some (some (.ref f7))) (l7 : K.lookup f7 = some ⟨oc7, od7, .func (PySem.W.fnOf "_law_content" "_law_content" (defArgs (top 21)) (defBody (top 21)) (defScope (top 21)) .none kV7 dc7 pm7 an7 cd7 ct7), sl7⟩) (c7 : PySem.W.codeIn K cd7 "_law_content" = true) (k7 : PySem.W.keepIn K (.ref f7) = true)
    (a8 : PySem.W.nsIn K mainGlobals "_law_contents" = some (some (.ref f8))) (l8 : K.lookup f8 = some ⟨oc8, od8, .func (PySem.W.fnOf "_law_contents" "_law_contents" (defArgs (top 22)) (defBody (top 22)) (defScope (top 22)) .none kV8 dc8 pm8 an8 cd8 ct8), sl8⟩) (c8 : PySem.W.codeIn K cd8 "_law_contents" = true) (k8 : PySem.W.keepIn K (.ref f8) = true)
    (a9 : PySem.W.nsIn K mainGlobals "_law_means" = some (some (.ref f9))) (l9 : K.lookup f9 = some ⟨oc9, od9, .func (PySem.W.fnOf "_law_means" "_law_means" (defArgs (top 23)) (defBody (top 23)) (defScope (top 23)) .none kV9 dc9 pm9 an9 cd9 ct9), sl9⟩) (c9 : PySem.W.codeIn K cd9 "_law_means" = true) (k9 : PySem.W.keepIn K (.ref f9) = true)
    (a10 : PySem.W.nsIn K mainGlobals "is_formula" = some (some (.ref f10))) (l10 : K.lookup f10 = some ⟨oc10, od10, .func (PySem.W.fnOf "is_formula" "is_formula" (defArgs (top 11)) (defBody (top 11)) (defScope (top 11)) .none kV10 dc10 pm10 an10 cd10 ct10), sl10⟩) (c10 : PySem.W.codeIn K cd10 "is_formula" = true) (k10 : PySem.W.keepIn K (.ref f10) = true)
    (a11 : PySem.W.nsIn K mainGlobals "parts" = some (some (.ref f11))) (l11 : K.lookup f11 = some ⟨oc11, od11, .func (PySem.W.fnOf "parts" "parts" (defArgs (top 5)) (defBody (top 5)) (defScope (top 5)) .none kV11 dc11 pm11 an11 cd11 ct11), sl11⟩) (c11 : PySem.W.codeIn K cd11 "parts" = true) (k11 : PySem.W.keepIn K (.ref f11) = true)
    (a12 : PySem.W.nsIn K mainGlobals "levels" = some (some (.ref f12))) (l12 : K.lookup f12 = some ⟨oc12, od12, .func (PySem.W.fnOf "levels" "levels" (defArgs (top 6)) (defBody (top 6)) (defScope (top 6)) .none kV12 dc12 pm12 an12 cd12 ct12), sl12⟩) (c12 : PySem.W.codeIn K cd12 "levels" = true) (k12 : PySem.W.keepIn K (.ref f12) = true)
    (a13 : PySem.W.nsIn K mainGlobals "leaf_list" = some (some (.ref f13))) (l13 : K.lookup f13 = some ⟨oc13, od13, .func (PySem.W.fnOf "leaf_list" "leaf_list" (defArgs (top 7)) (defBody (top 7)) (defScope (top 7)) .none kV13 dc13 pm13 an13 cd13 ct13), sl13⟩) (c13 : PySem.W.codeIn K cd13 "leaf_list" = true) (k13 : PySem.W.keepIn K (.ref f13) = true)
    (a14 : PySem.W.nsIn K mainGlobals "between" = some (some (.ref f14))) (l14 : K.lookup f14 = some ⟨oc14, od14, .func (PySem.W.fnOf "between" "between" (defArgs (top 1)) (defBody (top 1)) (defScope (top 1)) .none kV14 dc14 pm14 an14 cd14 ct14), sl14⟩) (c14 : PySem.W.codeIn K cd14 "between" = true) (k14 : PySem.W.keepIn K (.ref f14) = true)
    (a15 : PySem.W.nsIn K mainGlobals "leaf_places" = some (some (.ref f15))) (l15 : K.lookup f15 = some ⟨oc15, od15, .func (PySem.W.fnOf "leaf_places" "leaf_places" (defArgs (top 8)) (defBody (top 8)) (defScope (top 8)) .none kV15 dc15 pm15 an15 cd15 ct15), sl15⟩) (c15 : PySem.W.codeIn K cd15 "leaf_places" = true) (k15 : PySem.W.keepIn K (.ref f15) = true)
    (a16 : PySem.W.nsIn K mainGlobals "in_order" = some (some (.ref f16))) (l16 : K.lookup f16 = some ⟨oc16, od16, .func (PySem.W.fnOf "in_order" "in_order" (defArgs (top 2)) (defBody (top 2)) (defScope (top 2)) .none kV16 dc16 pm16 an16 cd16 ct16), sl16⟩) (c16 : PySem.W.codeIn K cd16 "in_order" = true) (k16 : PySem.W.keepIn K (.ref f16) = true)
    (a17 : PySem.W.nsIn K mainGlobals "meant" = some (some (.ref f17))) (l17 : K.lookup f17 = some ⟨oc17, od17, .func (PySem.W.fnOf "meant" "meant" (defArgs (top 9)) (defBody (top 9)) (defScope (top 9)) .none kV17 dc17 pm17 an17 cd17 ct17), sl17⟩) (c17 : PySem.W.codeIn K cd17 "meant" = true) (k17 : PySem.W.keepIn K (.ref f17) = true)
    (a18 : PySem.W.nsIn K mainGlobals "leans_of" = some (some (.ref f18))) (l18 : K.lookup f18 = some ⟨oc18, od18, .func (PySem.W.fnOf "leans_of" "leans_of" (defArgs (top 12)) (defBody (top 12)) (defScope (top 12)) .none kV18 dc18 pm18 an18 cd18 ct18), sl18⟩) (c18 : PySem.W.codeIn K cd18 "leans_of" = true) (k18 : PySem.W.keepIn K (.ref f18) = true)
    (a19 : PySem.W.nsIn K mainGlobals "law" = some (some (.ref f19))) (l19 : K.lookup f19 = some ⟨oc19, od19, .func (PySem.W.fnOf "law" "law" (defArgs (top 24)) (defBody (top 24)) (defScope (top 24)) .none kV19 dc19 pm19 an19 cd19 ct19), sl19⟩) (c19 : PySem.W.codeIn K cd19 "law" = true) (k19 : PySem.W.keepIn K (.ref f19) = true)
    (z0 : PySem.W.nsIn K mainGlobals "dict" = some none)
    (z1 : PySem.W.nsIn K mainGlobals "enumerate" = some none)
    (z2 : PySem.W.nsIn K mainGlobals "isinstance" = some none)
    (z3 : PySem.W.nsIn K mainGlobals "len" = some none)
    (z4 : PySem.W.nsIn K mainGlobals "list" = some none)
    (z5 : PySem.W.nsIn K mainGlobals "max" = some none)
    (z6 : PySem.W.nsIn K mainGlobals "min" = some none)
    (z7 : PySem.W.nsIn K mainGlobals "range" = some none)
    (z8 : PySem.W.nsIn K mainGlobals "set" = some none)
    (z9 : PySem.W.nsIn K mainGlobals "sorted" = some none)
    (z10 : PySem.W.nsIn K mainGlobals "tuple" = some none)
    (xg0 : PySem.W.nsIn K mainGlobals "LEAF_KINDS" = some (some (.ref a_0)))
    (xt0 : K.lookup a_0 = some ⟨.type "tuple", od_0, .seq #[.str "num" u0_0, .str "ref" u0_1, .str "gone" u0_2, .str "area" u0_3] n_0, sl_0⟩) :
    ∃ fd : FuncData, (∀ (s : Shared) (v : Value), BindsTo s fd ⟨[v], []⟩ [("_law_script", v)]) ∧ ∀ base : Heap, K.In base → base.Ns mainGlobals mg → FnOk l.prog w K mg base (CXA l.prog w) 44 fa fd ["_law_script"] (spM K [] r_law) := by
  have e := hfa.symm.trans (PySem.W.mg_of X G a19)
  cases e
  have B : Blt mg := ⟨PySem.W.mg_none_of X G z0, PySem.W.mg_none_of X G z1, PySem.W.mg_none_of X G z2, PySem.W.mg_none_of X G z3, PySem.W.mg_none_of X G z4, PySem.W.mg_none_of X G z5, PySem.W.mg_none_of X G z6, PySem.W.mg_none_of X G z7, PySem.W.mg_none_of X G z8, PySem.W.mg_none_of X G z9, PySem.W.mg_none_of X G z10⟩
  have C : Cst w K mg := ⟨GlD.texts (ys := ["num", "ref", "gone", "area"]) (PySem.W.mg_of X G xg0) xt0 (show 4 ≤ sizeLine by decide) (.cons ⟨_, rfl⟩ (.cons ⟨_, rfl⟩ (.cons ⟨_, rfl⟩ (.cons ⟨_, rfl⟩ (.nil)))))⟩
  have F0 := zdq (st := top 14) l0 c0 k0
  have b0 := F0.binds (ps := ["_law_script", "_law_k"]) fun _ _ _ _ _ _ us hl => by obtain ⟨_, _, rfl⟩ := ln2 hl; rfl
  have F1 := zdq (st := top 15) l1 c1 k1
  have b1 := F1.binds (ps := ["_law_script", "_law_low", "_law_high"]) fun _ _ _ _ _ _ us hl => by obtain ⟨_, _, _, rfl⟩ := ln3 hl; rfl
  have F2 := zdq (st := top 18) l2 c2 k2
  have b2 := F2.binds (ps := ["_law_cell", "_law_k"]) fun _ _ _ _ _ _ us hl => by obtain ⟨_, _, rfl⟩ := ln2 hl; rfl
  have F3 := zdq (st := top 16) l3 c3 k3
  have b3 := F3.binds (ps := ["_law_cell", "_law_far"]) fun _ _ _ _ _ _ us hl => by obtain ⟨_, _, rfl⟩ := ln2 hl; rfl
  have F4 := zdq (st := top 17) l4 c4 k4
  have b4 := F4.binds (ps := ["_law_cell", "_law_far"]) fun _ _ _ _ _ _ us hl => by obtain ⟨_, _, rfl⟩ := ln2 hl; rfl
  have F5 := zdq (st := top 19) l5 c5 k5
  have b5 := F5.binds (ps := ["_law_cell", "_law_far", "_law_depth"]) fun _ _ _ _ _ _ us hl => by obtain ⟨_, _, _, rfl⟩ := ln3 hl; rfl
  have F6 := zdq (st := top 20) l6 c6 k6
  have b6 := F6.binds (ps := ["_law_cell", "_law_far", "_law_depth"]) fun _ _ _ _ _ _ us hl => by obtain ⟨_, _, _, rfl⟩ := ln3 hl; rfl
  have F7 := zdq (st := top 21) l7 c7 k7
  have b7 := F7.binds (ps := ["_law_cell", "_law_far"]) fun _ _ _ _ _ _ us hl => by obtain ⟨_, _, rfl⟩ := ln2 hl; rfl
  have F8 := zdq (st := top 22) l8 c8 k8
  have b8 := F8.binds (ps := ["_law_script", "_law_low", "_law_high"]) fun _ _ _ _ _ _ us hl => by obtain ⟨_, _, _, rfl⟩ := ln3 hl; rfl
  have F9 := zdq (st := top 23) l9 c9 k9
  have b9 := F9.binds (ps := ["_law_tree_here"]) fun _ _ _ _ _ _ us hl => by obtain ⟨_, rfl⟩ := ln1 hl; rfl
  have F10 := zdq (st := top 11) l10 c10 k10
  have b10 := F10.binds (ps := ["content"]) fun _ _ _ _ _ _ us hl => by obtain ⟨_, rfl⟩ := ln1 hl; rfl
  have F11 := zdq (st := top 5) l11 c11 k11
  have b11 := F11.binds (ps := ["tree"]) fun _ _ _ _ _ _ us hl => by obtain ⟨_, rfl⟩ := ln1 hl; rfl
  have F12 := zdq (st := top 6) l12 c12 k12
  have b12 := F12.binds (ps := ["tree"]) fun _ _ _ _ _ _ us hl => by obtain ⟨_, rfl⟩ := ln1 hl; rfl
  have F13 := zdq (st := top 7) l13 c13 k13
  have b13 := F13.binds (ps := ["tree"]) fun _ _ _ _ _ _ us hl => by obtain ⟨_, rfl⟩ := ln1 hl; rfl
  have F14 := zdq (st := top 1) l14 c14 k14
  have b14 := F14.binds (ps := ["first", "last"]) fun _ _ _ _ _ _ us hl => by obtain ⟨_, _, rfl⟩ := ln2 hl; rfl
  have F15 := zdq (st := top 8) l15 c15 k15
  have b15 := F15.binds (ps := ["leaf"]) fun _ _ _ _ _ _ us hl => by obtain ⟨_, rfl⟩ := ln1 hl; rfl
  have F16 := zdq (st := top 2) l16 c16 k16
  have b16 := F16.binds (ps := ["places"]) fun _ _ _ _ _ _ us hl => by obtain ⟨_, rfl⟩ := ln1 hl; rfl
  have F17 := zdq (st := top 9) l17 c17 k17
  have b17 := F17.binds (ps := ["tree"]) fun _ _ _ _ _ _ us hl => by obtain ⟨_, rfl⟩ := ln1 hl; rfl
  have F18 := zdq (st := top 12) l18 c18 k18
  have b18 := F18.binds (ps := ["contents"]) fun _ _ _ _ _ _ us hl => by obtain ⟨_, rfl⟩ := ln1 hl; rfl
  have F19 := zdq (st := top 24) l19 c19 k19
  have b19 := F19.binds (ps := ["_law_script"]) fun _ _ _ _ _ _ us hl => by obtain ⟨_, rfl⟩ := ln1 hl; rfl
  refine ⟨PySem.W.fnOf "law" "law" (defArgs (top 24)) (defBody (top 24)) (defScope (top 24)) .none kV19 dc19 pm19 an19 cd19 ct19, fun s v => .of_eq rfl, fun base _ _ => ?_⟩
  have G_q_cell_at := ok_q_cell_at (P := l.prog) (w := w) (base := base) B C F0 b0 (PySem.W.mg_of X G a0)
  have G_q_cells := ok_q_cells (P := l.prog) (w := w) (base := base) B C G_q_cell_at F1 b1 (PySem.W.mg_of X G a1)
  have G_q_mix := ok_q_mix (P := l.prog) (w := w) (base := base) B C F2 b2 (PySem.W.mg_of X G a2)
  have G_q_ref := ok_q_ref (P := l.prog) (w := w) (base := base) B C F3 b3 (PySem.W.mg_of X G a3)
  have G_q_area := ok_q_area (P := l.prog) (w := w) (base := base) B C F4 b4 (PySem.W.mg_of X G a4)
  obtain ⟨G_q_over, G_q_tree⟩ := ok_q_over (P := l.prog) (w := w) (base := base) B C G_q_mix G_q_ref G_q_area F5 b5 (PySem.W.mg_of X G a5) F6 b6 (PySem.W.mg_of X G a6) 40
  have G_q_content := ok_q_content (P := l.prog) (w := w) (base := base) B C G_q_tree F7 b7 (PySem.W.mg_of X G a7)
  have G_q_contents := ok_q_contents (P := l.prog) (w := w) (base := base) B C G_q_cell_at G_q_cells G_q_content F8 b8 (PySem.W.mg_of X G a8)
  have G_q_means := ok_q_means (P := l.prog) (w := w) (base := base) B C F9 b9 (PySem.W.mg_of X G a9) 40
  have G_is_formula := ok_is_formula (P := l.prog) (w := w) (base := base) B C F10 b10 (PySem.W.mg_of X G a10)
  have G_parts := ok_parts (P := l.prog) (w := w) (base := base) B C F11 b11 (PySem.W.mg_of X G a11)
  have G_levels := ok_levels (P := l.prog) (w := w) (base := base) B C G_parts F12 b12 (PySem.W.mg_of X G a12)
  have G_leaf_list := ok_leaf_list (P := l.prog) (w := w) (base := base) B C G_levels F13 b13 (PySem.W.mg_of X G a13)
  have G_between := ok_between (P := l.prog) (w := w) (base := base) B C F14 b14 (PySem.W.mg_of X G a14)
  have G_leaf_places := ok_leaf_places (P := l.prog) (w := w) (base := base) B C G_between F15 b15 (PySem.W.mg_of X G a15)
  have G_in_order := ok_in_order (P := l.prog) (w := w) (base := base) B C F16 b16 (PySem.W.mg_of X G a16)
  have G_meant := ok_meant (P := l.prog) (w := w) (base := base) B C G_leaf_list G_leaf_places G_in_order F17 b17 (PySem.W.mg_of X G a17)
  have G_leans_of := ok_leans_of (P := l.prog) (w := w) (base := base) B C G_is_formula G_meant F18 b18 (PySem.W.mg_of X G a18)
  have G_law := ok_law (P := l.prog) (w := w) (base := base) B C G_q_contents G_q_means G_leans_of F19
  exact G_law
theorem walk {l:PySem.W.OpenLaw} {q:Program} {loose:List Str} {XP:(Str->Option Value)->Heap->Prop} {YP:World->Heap->Prop} {d:DefRec} {K:Params->PySem.W.Frag} (hn:l.most=some 63) (hdf:d.params.defaults=[])
  (hY:∀ (w:World) (h:Heap),YP w h->(K w.params).In h)
  (F:∀ (w:World) (mg:Str->Option Value) (fa:Addr) (h:Heap),(K w.params).In h->h.Ns mainGlobals mg->mg d.name=some (.ref fa) →
   ∃ fd:FuncData,(∀ (s:Shared) (u:Value),BindsTo s fd ⟨[u],[]⟩ [("_law_script",u)])/\∀ base:Heap,(K w.params).In base->base.Ns mainGlobals mg->FnOk l.prog w (K w.params) mg base (CXA l.prog w) 44 fa fd ["_law_script"] (spM (K w.params) [] r_law))
  (true_:∀ ns:List Int,ns.length<=63->r_law [.lst (ns.map D.int)]=some (.ok (.val (.bl true)),[])):
  PySem.W.WalkO q loose XP YP l.row.toRowW d [] (fun f vs=>PySem.call f vs):=
 L4.walk_ofL (n:=63) (k:=44) (x:="_law_script") (CX:=fun w=>CXA l.prog w) (sp:=fun w=>spM (K w.params) [] r_law) hn (by decide) hdf ⟨rfl,by decide,by decide⟩ hY F
  (fun w H a ns hl _ hS=>law_sp (true_ ns hl) hS) fun _ _ _ _ _ z=>cxa_no z
end Toy
open PySem PySem.W PyProof.Rows
set_option maxRecDepth 100000 in
set_option maxHeartbeats 0 in
theorem PySem.Challenge.cw_slate_k61_leans_told_holds : PySem.Challenge.rw_slate_k61_leans_told.Holds := by
  w_on; o_law; k_head; (case hw => w_witness2)
  k_fill
  refine Toy.walk (l := PySem.Challenge.rw_slate_k61_leans_told) rfl rfl (fun w h Y => PySem.W.kIn_of Y) ?F Toy.law_true
  case F =>
    intro w mg fa h KX G hmg
    refine' Toy.all_mk KX G hmg ?a0 ?l0 ?c0 ?k0 ?a1 ?l1 ?c1 ?k1 ?a2 ?l2 ?c2 ?k2 ?a3 ?l3 ?c3 ?k3 ?a4 ?l4 ?c4 ?k4 ?a5 ?l5 ?c5 ?k5 ?a6 ?l6 ?c6 ?k6 ?a7 ?l7 ?c7 ?k7 ?a8 ?l8 ?c8 ?k8 ?a9 ?l9 ?c9 ?k9 ?a10 ?l10 ?c10 ?k10 ?a11 ?l11 ?c11 ?k11 ?a12 ?l12 ?c12 ?k12 ?a13 ?l13 ?c13 ?k13 ?a14 ?l14 ?c14 ?k14 ?a15 ?l15 ?c15 ?k15 ?a16 ?l16 ?c16 ?k16 ?a17 ?l17 ?c17 ?k17 ?a18 ?l18 ?c18 ?k18 ?a19 ?l19 ?c19 ?k19 ?z0 ?z1 ?z2 ?z3 ?z4 ?z5 ?z6 ?z7 ?z8 ?z9 ?z10 ?xg0 ?xt0
    (case a0 => k_is)
    (case l0 => k_is)
    (case c0 => k_is)
    (case k0 => k_is)
    (case a1 => k_is)
    (case l1 => k_is)
    (case c1 => k_is)
    (case k1 => k_is)
    (case a2 => k_is)
    (case l2 => k_is)
    (case c2 => k_is)
    (case k2 => k_is)
    (case a3 => k_is)
    (case l3 => k_is)
    (case c3 => k_is)
    (case k3 => k_is)
    (case a4 => k_is)
    (case l4 => k_is)
    (case c4 => k_is)
    (case k4 => k_is)
    (case a5 => k_is)
    (case l5 => k_is)
    (case c5 => k_is)
    (case k5 => k_is)
    (case a6 => k_is)
    (case l6 => k_is)
    (case c6 => k_is)
    (case k6 => k_is)
    (case a7 => k_is)
    (case l7 => k_is)
    (case c7 => k_is)
    (case k7 => k_is)
    (case a8 => k_is)
    (case l8 => k_is)
    (case c8 => k_is)
    (case k8 => k_is)
    (case a9 => k_is)
    (case l9 => k_is)
    (case c9 => k_is)
    (case k9 => k_is)
    (case a10 => k_is)
    (case l10 => k_is)
    (case c10 => k_is)
    (case k10 => k_is)
    (case a11 => k_is)
    (case l11 => k_is)
    (case c11 => k_is)
    (case k11 => k_is)
    (case a12 => k_is)
    (case l12 => k_is)
    (case c12 => k_is)
    (case k12 => k_is)
    (case a13 => k_is)
    (case l13 => k_is)
    (case c13 => k_is)
    (case k13 => k_is)
    (case a14 => k_is)
    (case l14 => k_is)
    (case c14 => k_is)
    (case k14 => k_is)
    (case a15 => k_is)
    (case l15 => k_is)
    (case c15 => k_is)
    (case k15 => k_is)
    (case a16 => k_is)
    (case l16 => k_is)
    (case c16 => k_is)
    (case k16 => k_is)
    (case a17 => k_is)
    (case l17 => k_is)
    (case c17 => k_is)
    (case k17 => k_is)
    (case a18 => k_is)
    (case l18 => k_is)
    (case c18 => k_is)
    (case k18 => k_is)
    (case a19 => k_is)
    (case l19 => k_is)
    (case c19 => k_is)
    (case k19 => k_is)
    (case z0 => k_is)
    (case z1 => k_is)
    (case z2 => k_is)
    (case z3 => k_is)
    (case z4 => k_is)
    (case z5 => k_is)
    (case z6 => k_is)
    (case z7 => k_is)
    (case z8 => k_is)
    (case z9 => k_is)
    (case z10 => k_is)
    (case xg0 => k_is)
    (case xt0 => k_is)
