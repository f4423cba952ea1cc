import PyProof.Rows.All
import Wide.All
import OpenK.AllK
import Wide.FinOn
import Lean
import PyProof.EqAt
import PyProof.EqKinds
import PyProof.TupleCall
import PyProof.Rows.SortShell
import PyProof.Rows.SortWalk
import PyProof.CompFree
import PyProof.Rows.SortRuns
import PyProof.EqLayable
import PyProof.NeData
import PyProof.P3In
import PyProof.ZipIter
import PyProof.EnumMake
import PyProof.EnumFor
import PyProof.Rows.Range3
import PyProof.AttrMissSeq
import KE.KDictOf
import PySem.Challenge.RW_archrow_k30_most_of_kinds
set_option Elab.async false
set_option compiler.extract_closed false
set_option linter.all false
set_option maxRecDepth 100000
noncomputable section
set_option Elab.async false
set_option linter.all false
set_option maxRecDepth 100000
namespace Mx
end Mx
namespace L2
open PySem PySem.Spec PyProof.Rows
abbrev Key:=Sum Int Str
def keyIs:Key→Value→Bool
 | .inl k,v=>Value.isInt k v
 | .inr x,v=>Value.isStrOf x v
def keyH (w:World):Key→Int
 | .inl k=>hashInt k
 | .inr x=>hashStr w x
theorem keyIs_shape:∀ {k:Key} {v:Value},keyIs k v=true→(∃ i t,k=Sum.inl i∧v=Value.int i t)∨(∃ x t,k=Sum.inr x∧v=Value.str x t)
 | .inl i,v,h=>by
  obtain ⟨t,e⟩:=Value.isInt_shape (k:=i) (v:=v) h
  exact .inl ⟨i,t,rfl,e⟩
 | .inr x,v,h=>by
  obtain ⟨t,e⟩:=Value.isStrOf_shape (x:=x) (v:=v) h
  exact .inr ⟨x,t,rfl,e⟩
theorem keyIs_int (i:Int) (t:Tok):keyIs (.inl i) (.int i t)=true:=by simp [keyIs,Value.isInt]
theorem keyIs_str (x:Str) (t:Tok):keyIs (.inr x) (.str x t)=true:=by simp [keyIs,Value.isStrOf]
theorem key_ll (a b:Int):decide ((Sum.inl a:Key)=Sum.inl b)=(a == b):=by
 by_cases e:a=b
 ·subst e; simp
 ·have h:¬ (Sum.inl a:Key)=Sum.inl b:=fun q=>e (Sum.inl.inj q)
  rw [decide_eq_false h]
  exact (beq_eq_false_iff_ne.mpr e).symm
theorem key_rr (a b:Str):decide ((Sum.inr a:Key)=Sum.inr b)=decide (a=b):=by
 by_cases e:a=b
 ·subst e; simp
 ·have h:¬ (Sum.inr a:Key)=Sum.inr b:=fun q=>e (Sum.inr.inj q)
  rw [decide_eq_false h,decide_eq_false e]
theorem key_lr (a:Int) (b:Str):decide ((Sum.inl a:Key)=Sum.inr b)=false:=decide_eq_false (fun q=>nomatch q)
theorem key_rl (a:Str) (b:Int):decide ((Sum.inr a:Key)=Sum.inl b)=false:=decide_eq_false (fun q=>nomatch q)
def mixKind (prog:Program) (w:World):PySem.KeyKind prog w Key where
 is:=keyIs
 hash:=keyH w
 inj:=fun v a b ha hb=>by
  rcases keyIs_shape ha with ⟨i,t,rfl,rfl⟩ | ⟨x,t,rfl,rfl⟩
  ·rcases keyIs_shape hb with ⟨j,u,rfl,e⟩ | ⟨y,u,rfl,e⟩
   ·injection e with e1 _; rw [e1]
   ·exact nomatch e
  ·rcases keyIs_shape hb with ⟨j,u,rfl,e⟩ | ⟨y,u,rfl,e⟩
   ·exact nomatch e
   ·injection e with e1 _; rw [e1]
 byValue:=fun k v h=>by
  rcases keyIs_shape h with ⟨i,t,rfl,rfl⟩ | ⟨x,t,rfl,rfl⟩ <;> rfl
 pyHash:=fun hv h=>by
  rcases keyIs_shape hv with ⟨i,t,rfl,rfl⟩ | ⟨x,t,rfl,rfl⟩
  ·exact wpAny_pyHash_int h
  ·exact wpAny_pyHash_str h
 eqBool:=fun hu hv h=>by
  rcases keyIs_shape hu with ⟨i,t,rfl,rfl⟩ | ⟨x,t,rfl,rfl⟩
  ·rcases keyIs_shape hv with ⟨j,u,rfl,rfl⟩ | ⟨y,u,rfl,rfl⟩
   ·rw [key_ll] at h; exact wpAny_eqBool_int h
   ·rw [key_lr] at h; exact SeqAt.EqAt.int_str i t y u _ _ _ _ h
  ·rcases keyIs_shape hv with ⟨j,u,rfl,rfl⟩ | ⟨y,u,rfl,rfl⟩
   ·rw [key_rl] at h; exact SeqAt.EqAt.str_int x t j u _ _ _ _ h
   ·rw [key_rr] at h; exact wpAny_eqBool_str h
 «strs»:=fun k x t v h=>by
  rcases keyIs_shape h with ⟨i,u,rfl,e⟩ | ⟨y,u,rfl,e⟩
  ·exact nomatch e
  ·injection e with e1 _
   subst e1
   cases v <;> rfl
theorem mixKind_int (prog:Program) (w:World) (i:Int) (t:Tok):(mixKind prog w).is (.inl i) (.int i t)=true:=keyIs_int i t
theorem mixKind_str (prog:Program) (w:World) (x:Str) (t:Tok):(mixKind prog w).is (.inr x) (.str x t)=true:=keyIs_str x t
end L2
namespace L2
open PySem PySem.Spec PyProof.Rows
inductive V where
 | non | bl (b:Bool) | int (i:Int) | str (x:Str) | byt (b:Array UInt8) | flt (b:UInt64) | ref (a:Addr) | ty (n:String)
 deriving DecidableEq
def RelV:V→Value→Prop
 | .non,u=>u=Value.none
 | .bl b,u=>u=Value.bool b
 | .int i,u=>∃ t,u=Value.int i t
 | .str x,u=>∃ t,u=Value.str x t
 | .byt b,u=>∃ t,u=Value.bytes b t
 | .flt b,u=>∃ t,u=Value.float b t
 | .ref a,u=>u=Value.ref a
 | .ty n,u=>u=Value.type n
abbrev Vals:List V→List Value→Prop:=Paired RelV
theorem Vals.length {xs:List V} {us:List Value} (r:Vals xs us):xs.length=us.length:=Paired.length r
theorem Vals.get:∀ {xs:List V} {us:List Value} {i:Nat} {x:V},Vals xs us→xs[i]?=some x→∃ u,us[i]?=some u∧RelV x u
 | _,_,_,_,.nil,e=>by simp at e
 | _,_,0,_,.cons r _,e=>by simp at e; subst e; exact ⟨_,rfl,r⟩
 | _,_,i+1,x,.cons _ t,e=>by
  obtain ⟨u,h1,h2⟩:=Vals.get (i:=i) (x:=x) t (by simpa using e)
  exact ⟨u,by simpa using h1,h2⟩
theorem Vals.set {x:V} {u:Value} (r:RelV x u):∀ {xs:List V} {us:List Value} (i:Nat),Vals xs us→Vals (xs.set i x) (us.set i u)
 | _,_,_,.nil=>.nil
 | _,_,0,.cons _ t=>.cons r t
 | _,_,i+1,.cons q t=>.cons q (Vals.set r i t)
theorem Vals.append:∀ {xs ys:List V} {us ws:List Value},Vals xs us→Vals ys ws→Vals (xs++ys) (us++ws)
 | _,_,_,_,.nil,s=>s
 | _,_,_,_,.cons r t,s=>.cons r (Vals.append t s)
theorem Vals.take:∀ {xs:List V} {us:List Value} (n:Nat),Vals xs us→Vals (xs.take n) (us.take n)
 | _,_,0,_=>.nil
 | _,_,_+1,.nil=>.nil
 | _,_,n+1,.cons r t=>.cons r (Vals.take n t)
theorem Vals.drop:∀ {xs:List V} {us:List Value} (n:Nat),Vals xs us→Vals (xs.drop n) (us.drop n)
 | _,_,0,r=>r
 | _,_,_+1,.nil=>.nil
 | _,_,n+1,.cons _ t=>Vals.drop n t
theorem Vals.none_of:∀ {xs:List V} {us:List Value} {i:Nat},Vals xs us→xs[i]?=none→us[i]?=none:=fun {xs us i} r e=>by
 have h1:=r.length
 have h2:xs.length≤i:=List.getElem?_eq_none_iff.mp e
 exact List.getElem?_eq_none_iff.mpr (by lia)
def RelO:Option V→Option Value→Prop
 | some v,some u=>RelV v u
 | none,none=>True
 | _,_=>False
def KV {κ:Type}:List (κ × V)→List (κ × Value)→Prop:=Paired fun (p:κ × V) (q:κ × Value)=>p.1=q.1∧RelV p.2 q.2
def kV:Key→V
 | .inl i=>.int i
 | .inr x=>.str x
inductive HO where
 /-- a list -/
 | lst (xs:List V)
 /-- a tuple (never changes) -/
 | tup (xs:List V)
 /-- a dict whose keys are ints and texts; one whose keys are tuples of ints and texts (the empty one is both) -/
 | dK (kvs:List (Key × V)) | dT (kvs:List (List Key × V))
 /-- a set of ints: its members,its size -/
 | set (S:Int→Bool) (n:Nat)
 /-- an instance of the class at C,its dict at dx,its attributes -/
 | ins (C dx:Addr) (fs:List (Str × V))
 /-- the dict of the instance at x -/
 | own (x:Addr)
 /-- the dict of an exception -/
 | xd (fs:List (Str × V))
 /-- a bound method,f of x -/
 | met (f x:Addr)
 /-- a range object lo,lo+1,.. below hi -/
 | rng (lo hi:Int)
 /-- a thing that is known to the object (the script; a dict while a loop walks it): read,never written while it is so -/
 | frz (o:Obj) (u:HO)
 /-- a code object's table -/
 | tbl (ps:Array Value)
 /-- any other thing,by what is true of its one object (a def of one's own: SetO a S n:=HO.ext fun h=>..) -/
 | ext (φ:Heap→Prop)
abbrev Hp:=Addr→Option HO
def upd (H:Hp) (a:Addr) (o:HO):Hp:=fun b=>if b=a then some o else H b
theorem upd_same {H:Hp} {a:Addr} {o:HO}:upd H a o a=some o:=by unfold upd; rw [if_pos rfl]
theorem upd_ne {H:Hp} {a b:Addr} {o:HO} (h:b≠a):upd H a o b=H b:=by unfold upd; rw [if_neg h]
theorem ne_of {H:Hp} {a b:Addr} {o u:HO} (h:H a=some o) (h':H b=some u) (d:o≠u):a≠b:=by
 intro e; subst e; rw [h] at h'; exact d (Option.some.inj h')
theorem ne_of_none {H:Hp} {a b:Addr} {o:HO} (h:H a=some o) (h':H b=none):a≠b:=by
 intro e; subst e; rw [h] at h'; cases h'
section
variable (P:Program) (w:World)
def ObjOk (H:Hp) (h:Heap) (a:Addr):HO→Prop
 | .lst xs=>xs.length≤sizeLine∧∃ (its:List Value) (n:Nat),Vals xs its∧h.get? a=some { cls:=.type "list",data:=.seq its.toArray n }
 | .tup xs=>xs.length≤sizeLine∧∃ its:List Value,Vals xs its∧IsTup h a its.toArray
 | .dK kvs=>kvs.length≤sizeLine∧(a == sysModules)=false∧∃ vs,KV kvs vs∧h.DictOf (mixKind P w) a vs
 | .dT kvs=>kvs.length≤sizeLine∧(a == sysModules)=false∧∃ xs:List (List Key × Addr × Value),
   Paired (fun (p:List Key × V) (q:List Key × Addr × Value)=>p.1=q.1∧H q.2.1=some (.tup (p.1.map kV))∧RelV p.2 q.2.2) kvs xs ∧
   ∃ o es ep,h.get? a=some o∧o.ExactDict∧o.data=.dict es ep∧es.toList=xs.map (entryOfKey (tupleKind (mixKind P w)))∧(xs.map (·.1)).Nodup
 | .set S n=>h.SetOf (intKind P w) a S n
 | .ins C dx fs=>H dx=some (.own a)∧fs.length≤1000∧dx≠a∧h.get? a=some (PySem.W.instObj C dx) ∧
   ∃ mA,h.Ns1 dx mA∧(∀ f,RelO (fs.lookup f) (mA f))∧PySem.Within mA (fs.map (·.1))
 | .own _=>∃ o,h.get? a=some o
 | .xd fs=>∃ mA,h.Ns1 a mA∧∀ f,RelO (fs.lookup f) (mA f)
 | .rng lo hi=>∃ t u v,h.get? a=some { cls:=.type "range",data:=.fields #[.int lo t,.int hi u,.int 1 v] }
 | .frz o u=>h.get? a=some o∧ObjOk H h a u
 | .tbl ps=>h.get? a=some { cls:=.none,data:=.fields ps }
 | .met f x=>h.get? a=some (PySem.W.methodObj (.ref f) (.ref x))
 | .ext φ=>φ h∧(∃ o,h.get? a=some o)∧∀ h1 h2:Heap,φ h1→(∀ o,h1.get? a=some o→h2.get? a=some o)→φ h2
def HOk (H:Hp) (h:Heap):Prop:=∀ a o,H a=some o→ObjOk P w H h a o
end
section
variable {P:Program} {w:World} {H H':Hp} {h h':Heap} {a:Addr} {o:HO}
theorem ObjOk.lt (x:ObjOk P w H h a o):a < h.objs.size:=by
 cases o with
 | lst xs=>obtain ⟨_,_,_,_,e⟩:=x; exact Heap.lt_size e
 | tup xs=>obtain ⟨_,_,_,p⟩:=x; exact p.lt
 | dK kvs=>obtain ⟨_,_,_,_,o,_,_,e,_⟩:=x; exact Heap.lt_size e
 | dT kvs=>obtain ⟨_,_,_,_,o,_,_,e,_⟩:=x; exact Heap.lt_size e
 | set S n=>obtain ⟨o,_,_,_,e,_⟩:=x; exact Heap.lt_size e
 | ins C dx fs=>obtain ⟨_,_,_,e,_⟩:=x; exact Heap.lt_size e
 | own y=>obtain ⟨_,e⟩:=x; exact Heap.lt_size e
 | xd fs=>obtain ⟨_,⟨_,_,_,e,_⟩,_⟩:=x; exact Heap.lt_size e
 | rng lo hi=>obtain ⟨_,_,_,e⟩:=x; exact Heap.lt_size e
 | frz ob u=>obtain ⟨e,_⟩:=x; exact Heap.lt_size e
 | tbl ps=>exact Heap.lt_size (show h.get? a=some _ from x)
 | met f y=>exact Heap.lt_size (show h.get? a=some _ from x)
 | ext φ=>obtain ⟨_,⟨_,e⟩,_⟩:=x; exact Heap.lt_size e
theorem Paired.mapP {α β:Type} {F G:α→β→Prop}:∀ {l₁:List α} {l₂:List β},Paired F l₁ l₂→(∀ a b,F a b→G a b)→Paired G l₁ l₂
 | _,_,.nil,_=>.nil
 | _,_,.cons r t,f=>.cons (f _ _ r) (Paired.mapP t f)
theorem ObjOk.stay (x:ObjOk P w H h a o) (k:∀ b u,(b=a∨H b=some (.own a))→h.get? b=some u→h'.get? b=some u)
  (ho:∀ b,H b=some (.own a)→H' b=some (.own a)) (ht:∀ b xs,H b=some (.tup xs)→H' b=some (.tup xs)):ObjOk P w H' h' a o:=by
 induction o with
 | lst xs=>obtain ⟨z,its,n,r,e⟩:=x; exact ⟨z,its,n,r,k _ _ (.inl rfl) e⟩
 | tup xs=>obtain ⟨z,its,r,ob,e,c⟩:=x; exact ⟨z,its,r,ob,k _ _ (.inl rfl) e,c⟩
 | dK kvs=>obtain ⟨z,y,vs,r,ob,es,ep,e,c⟩:=x; exact ⟨z,y,vs,r,ob,es,ep,k _ _ (.inl rfl) e,c⟩
 | dT kvs =>
  obtain ⟨z,y,xs,r,ob,es,ep,e,c⟩:=x
  exact ⟨z,y,xs,Paired.mapP r fun p q z=>⟨z.1,ht _ _ z.2.1,z.2.2⟩,ob,es,ep,k _ _ (.inl rfl) e,c⟩
 | set S n=>obtain ⟨ob,es,ep,t,e,c⟩:=x; exact ⟨ob,es,ep,t,k _ _ (.inl rfl) e,c⟩
 | ins C dx fs =>
  obtain ⟨d,z,ne,e,mA,⟨od,es,ep,e2,c⟩,r⟩:=x
  exact ⟨ho _ d,z,ne,k _ _ (.inl rfl) e,mA,⟨od,es,ep,k _ _ (.inr d) e2,c⟩,r⟩
 | own y=>obtain ⟨ob,e⟩:=x; exact ⟨ob,k _ _ (.inl rfl) e⟩
 | xd fs=>obtain ⟨mA,⟨od,es,ep,e,c⟩,r⟩:=x; exact ⟨mA,⟨od,es,ep,k _ _ (.inl rfl) e,c⟩,r⟩
 | rng lo hi=>obtain ⟨t,u,v,e⟩:=x; exact ⟨t,u,v,k _ _ (.inl rfl) e⟩
 | frz ob u ih=>obtain ⟨e,q⟩:=x; exact ⟨k _ _ (.inl rfl) e,ih q⟩
 | tbl ps =>
  have e:h.get? a=some { cls:=.none,data:=.fields ps }:=x
  show h'.get? a=some { cls:=.none,data:=.fields ps }
  exact k a _ (.inl rfl) e
 | met f y =>
  have e:h.get? a=some (PySem.W.methodObj (.ref f) (.ref y)):=x
  show h'.get? a=some (PySem.W.methodObj (.ref f) (.ref y))
  exact k a _ (.inl rfl) e
 | ext φ=>obtain ⟨p,⟨o,e⟩,st⟩:=x; exact ⟨st _ _ p fun o q=>k _ _ (.inl rfl) q,⟨o,k _ _ (.inl rfl) e⟩,st⟩
theorem HOk.lt (x:HOk P w H h) (e:H a=some o):a < h.objs.size:=(x a o e).lt
theorem HOk.fresh (x:HOk P w H h) (e:h.objs.size≤a):H a=none:=by
 cases q:H a with
 | none=>rfl
 | some u=>exact absurd (Nat.lt_of_lt_of_le (x.lt q) e) (Nat.lt_irrefl _)
theorem HOk.kept (x:HOk P w H h) (k:∀ b u,h.get? b=some u→h'.get? b=some u):HOk P w H h':=fun a o e =>
 (x a o e).stay (fun b u _ q=>k b u q) (fun _ q=>q) fun _ _ q=>q
theorem HOk.laid (x:HOk P w H h) (k:∀ b u,h.get? b=some u→h'.get? b=some u) (hp:h.objs.size≤a) (new:ObjOk P w (upd H a o) h' a o):HOk P w (upd H a o) h':=fun b u e=>by
 have hn:=x.fresh hp
 by_cases hb:b=a
 ·subst hb; rw [upd_same] at e; cases e; exact new
 ·rw [upd_ne hb] at e
  exact (x b u e).stay (fun c v _ q=>k c v q) (fun c q=>by rw [upd_ne (ne_of_none q hn)]; exact q) fun c xs q=>by rw [upd_ne (ne_of_none q hn)]; exact q
end
def Rd (H:Hp) (a:Addr) (u:HO):Prop:=H a=some u∨∃ o,H a=some (.frz o u)
theorem Rd.ok {P:Program} {w:World} {H:Hp} {h:Heap} {a:Addr} {u:HO} (r:Rd H a u) (x:HOk P w H h):ObjOk P w H h a u:=by
 rcases r with r | ⟨o,r⟩
 ·exact x a u r
 ·obtain ⟨_,q⟩:=x a _ r
  exact q
def Mut:Option HO→Prop
 | some (.lst _)=>True
 | some (.dK _)=>True
 | some (.dT _)=>True
 | some (.set _ _)=>True
 | some (.ins _ _ _)=>True
 | some (.ext _)=>True
 | _=>False
section
variable {P:Program} {w:World} {H:Hp} {h h':Heap} {x e:Addr} {o':HO}
theorem HOk.write (ok:HOk P w H h) (mu:Mut (H x)) (he:e=x∨H e=some (.own x)) (k:∀ b u,b≠e→h.get? b=some u→h'.get? b=some u) (heo:∃ u,h'.get? e=some u)
  (new:ObjOk P w (upd H x o') h' x o'):HOk P w (upd H x o') h':=fun b u q=>by
 have nown:∀ c y,H c=some (.own y)→c≠x:=fun c y r z=>by subst z; rw [r] at mu; exact mu
 have ntup:∀ c xs,H c=some (.tup xs)→c≠x:=fun c xs r z=>by subst z; rw [r] at mu; exact mu
 by_cases hb:b=x
 ·subst hb; rw [upd_same] at q; cases q; exact new
 ·rw [upd_ne hb] at q
  by_cases hbe:b=e
  ·have q':H b=some (.own x):=by
    rcases he with z | z
    ·exact absurd (hbe.trans z) hb
    ·rw [hbe]; exact z
   rw [q] at q'; cases q'
   obtain ⟨v,hv⟩:=heo
   exact ⟨v,by rw [hbe]; exact hv⟩
  ·refine (ok b u q).stay (fun c v hc r=>k c v ?_ r) (fun c r=>by rw [upd_ne (nown c b r)]; exact r) fun c xs r=>by rw [upd_ne (ntup c xs r)]; exact r
   rcases hc with rfl | hc
   ·exact hbe
   ·rintro rfl
    rcases he with z | z
    ·exact nown c b hc z
    ·rw [hc] at z; cases z; exact hb rfl
end
structure Un (fs ex:List Addr) (H H':Hp) (h h':Heap):Prop where
 keep:∀ b o,h.get? b=some o→H b=none→b ∉ fs→b ∉ ex→h'.get? b=some o
 slot:∀ b o,h.get? b=some o→H b=none→b ∈ fs→b ∉ ex→∃ sl,h'.get? b=some { o with slots:=sl }
 free:∀ b o,h.get? b=some o→H b=none→b ∉ ex→H' b=none
 there:∀ b o,h.get? b=some o→b ∉ ex→∃ o',h'.get? b=some o'
 tups:∀ b xs,H b=some (.tup xs)→H' b=some (.tup xs)
 frzs:∀ b o u,H b=some (.frz o u)→H' b=some (.frz o u)
 tbls:∀ b ps,H b=some (.tbl ps)→∃ more,H' b=some (.tbl (ps++more))
section
variable {fs fs' ex ex':List Addr} {H H1 H2:Hp} {h h1 h2 h':Heap} {a x e:Addr} {o:HO}
theorem Un.any (u:Un fs ex H H1 h h1) {b:Addr} {ob:Obj} (q:h.get? b=some ob) (n:H b=none) (hx:b ∉ ex):∃ sl,h1.get? b=some { ob with slots:=sl }:=by
 by_cases hb:b ∈ fs
 ·exact u.slot b ob q n hb hx
 ·exact ⟨ob.slots,u.keep b ob q n hb hx⟩
theorem Un.kept (k:∀ b u,h.get? b=some u→h'.get? b=some u):Un fs ex H H h h' :=
 ⟨fun b ob q _ _ _=>k b ob q,fun b ob q _ _ _=>⟨ob.slots,k b ob q⟩,fun _ _ _ n _=>n,fun b ob q _=>⟨ob,k b ob q⟩,fun _ _ q=>q,fun _ _ _ q=>q,fun _ ps q=>⟨#[],by rw [q]; simp⟩⟩
theorem Un.refl:Un fs ex H H h h:=Un.kept fun _ _ q=>q
theorem Un.laid (k:∀ b u,h.get? b=some u→h'.get? b=some u) (hp:h.objs.size≤a) (hn:H a=none):Un fs ex H (upd H a o) h h' where
 keep:=fun b u q _ _ _=>k b u q
 slot:=fun b u q _ _ _=>⟨u.slots,k b u q⟩
 free:=fun b u q n _=>by rw [upd_ne (Nat.ne_of_lt (Nat.lt_of_lt_of_le (Heap.lt_size q) hp))]; exact n
 there:=fun b u q _=>⟨u,k b u q⟩
 tups:=fun b xs q=>by rw [upd_ne (ne_of_none q hn)]; exact q
 frzs:=fun b u xs q=>by rw [upd_ne (ne_of_none q hn)]; exact q
 tbls:=fun b ps q=>⟨#[],by rw [upd_ne (ne_of_none q hn),q]; simp⟩
theorem Un.write (mu:Mut (H x)) (he:e=x∨H e=some (.own x)) (k:∀ b u,b≠e→h.get? b=some u→h'.get? b=some u) (heo:∃ u,h'.get? e=some u):Un fs ex H (upd H x o) h h':=by
 have hx:∀ b,H b=none→b≠x:=fun b n z=>by subst z; rw [n] at mu; exact mu
 have hb:∀ b,H b=none→b≠e:=fun b n z=>by
  subst z
  rcases he with r | r
  ·exact hx b n r
  ·rw [n] at r; cases r
 have hm:∀ b u,H b=some u→¬ Mut (some u)→b≠x:=fun b u q nm z=>by subst z; rw [q] at mu; exact nm mu
 refine ⟨fun b u q n _ _=>k b u (hb b n) q,fun b u q n _ _=>⟨u.slots,k b u (hb b n) q⟩,fun b u q n _=>by rw [upd_ne (hx b n)]; exact n,fun b u q _=>?_,
  fun b xs q=>by rw [upd_ne (hm b _ q fun z=>z)]; exact q,fun b u xs q=>by rw [upd_ne (hm b _ q fun z=>z)]; exact q,fun b ps q=>⟨#[],by rw [upd_ne (hm b _ q fun z=>z),q]; simp⟩⟩
 by_cases hbe:b=e
 ·subst hbe; exact heo
 ·exact ⟨u,k b u hbe q⟩
end
def trk (h:Heap) (H:Hp):List Addr:=(List.range h.objs.size).filter fun a=>(H a).isSome
def hidT (h:Heap) (H:Hp):Heap:=PySem.W.hideAll h (trk h H)
theorem hidT_size (h:Heap) (H:Hp):(hidT h H).objs.size=h.objs.size:=PySem.W.hideAll_size _ _
theorem hidT_get {h:Heap} {H:Hp} {b:Addr} {o:Obj} (e:h.get? b=some o) (n:H b=none):(hidT h H).get? b=some o :=
 PySem.W.hideAll_get _ e fun hm=>by
  have q:(H b).isSome=true:=(List.mem_filter.mp hm).2
  rw [n] at q; simp at q
theorem of_hidT {h:Heap} {H:Hp} {b:Addr} {o:Obj} (e:(hidT h H).get? b=some o):h.get? b=some o∧H b=none:=by
 have e':h.get? b=some o:=PySem.W.of_hideAll (trk h H) e
 refine ⟨e',?_⟩
 cases q:H b with
 | none=>rfl
 | some x =>
  have hm:b ∈ trk h H:=List.mem_filter.mpr ⟨List.mem_range.mpr (Heap.lt_size e'),by simp [q]⟩
  have z:(hidT h H).get? b=none:=PySem.W.hideAll_none (trk h H) hm
  rw [z] at e; cases e
end L2
namespace L2
open PySem PySem.Spec PyProof.Rows
structure Mod (K:PySem.W.Frag) (mg:Str→Option Value) (base:Heap):Prop where
 kin:K.In base
 glob:base.Ns mainGlobals mg
 blt:∃ mb,base.Ns builtinsNs mb∧∀ x:Str,x≠"__name__" → mb x=bootBuiltins x
 nolimit:base.NoLimit
structure Cx where
 prog:Program
 w:World
 K:PySem.W.Frag
 mg:Str→Option Value
 base:Heap
 A:Around
 N:List Str
 s₀:Shared
 H₀:Hp
 env:Env
 outer:List Env
 stack:List Env
 ex:List Addr
 fn:Str→Bool
 calm:Bool
 pn:List (Addr × Obj)
 xe:Value→Shared→Prop
def frs (l:List Env):List Addr:=l.filterMap (·.frame)
abbrev Cx.fs (X:Cx):List Addr:=frs X.outer
def Vis (sc:Scope) (x:Str):Prop:=sc.names.lookup x=some .local∨sc.names.lookup x=some .cell∨sc.names.lookup x=some .free
def Loc (sc:Scope) (x:Str):Prop:=sc.names.lookup x=some .local∨sc.names.lookup x=some .cell
def Look (env:Env) (h:Heap) (m:Str→Option Value) (x:Str) (u:Value):Prop :=
 (env.kindOf x=some .local∧m x=some u)∨((env.kindOf x=some .cell∨env.kindOf x=some .free)∧∃ c,env.cells.lookup x=some c∧h.IsCell c (some u))
structure Cx.Ok (X:Cx):Prop where
 mod:Mod X.K X.mg X.base
 kind:X.env.scope.kind=.function
 glob:X.env.globals=mainGlobals
 blt:X.env.builtins=builtinsNs
 above:X.s₀.heap.objs.size≤X.env.locals
 inj:∀ x y c,X.env.cells.lookup x=some c→X.env.cells.lookup y=some c→x=y
 has:∀ x,(X.env.kindOf x=some .cell∨X.env.kindOf x=some .free)→∃ c,X.env.cells.lookup x=some c
 cab:∀ x c,X.fn x=true→X.env.cells.lookup x=some c→X.s₀.heap.objs.size≤c
 hd:X.calm=true→X.A.handled=none
 frames:X.A.frames=some X.stack
 stk:X.stack=X.outer∨(X.stack=X.env::X.outer∧X.env.frame=some X.env.locals)
 exf:∀ b ∈ X.ex,b≠X.env.locals∧∀ x c,X.env.cells.lookup x=some c→c≠b
 bs:∀ b o,X.base.get? b=some o→X.s₀.heap.get? b=some o∧X.H₀ b=none
 bsz:X.base.objs.size≤X.s₀.heap.objs.size
 noex:∀ b o,X.base.get? b=some o→b ∉ X.ex
 exfs:∀ b ∈ X.ex,b ∉ X.fs
 funs:X.s₀.heap.FunFrames X.base X.outer
 frf:∀ b ∈ X.fs,X.H₀ b=none
structure Inv (X:Cx) (pins:List (Addr × Obj)) (σ:List (Option V)) (H:Hp) (s:Shared):Prop where
 ok:X.Ok
 os:s.os=X.s₀.os
 bare:AllBare s.gens
 base:Un X.fs X.ex X.H₀ H X.s₀.heap s.heap
 loc:∃ m,s.heap.Ns X.env.locals m∧∀ (i:Nat) (x:Str) (v:V),X.N[i]?=some x→σ[i]?=some (some v)→Vis X.env.scope x→∃ u,RelV v u∧Look X.env s.heap m x u
 cell:∀ x c,X.env.cells.lookup x=some c→∃ v,s.heap.IsCell c v
 free:H X.env.locals=none
 freeC:∀ x c,X.env.cells.lookup x=some c→H c=none
 pin:∀ p ∈ X.pn++pins,s.heap.get? p.1=some p.2∧H p.1=none∧p.1≠X.env.locals∧p.1 ∉ X.fs∧∀ v,p.2.data≠.cell v
 hok:HOk X.prog X.w H s.heap
 len:σ.length=X.N.length
section
variable {X:Cx} {pins:List (Addr × Obj)} {σ:List (Option V)} {H H':Hp} {s:Shared} {h':Heap}
theorem Cx.Ok.nofr (ok:X.Ok) {b:Addr} {o:Obj} (e:X.base.get? b=some o):b ∉ X.fs:=fun hb=>by
 have:=(ok.funs.mem hb).1
 rw [e] at this; cases this
theorem Inv.bs (I:Inv X pins σ H s):∀ b o,X.base.get? b=some o→s.heap.get? b=some o∧H b=none:=fun b o e =>
 ⟨I.base.keep b o (I.ok.bs b o e).1 (I.ok.bs b o e).2 (I.ok.nofr e) (I.ok.noex b o e),I.base.free b o (I.ok.bs b o e).1 (I.ok.bs b o e).2 (I.ok.noex b o e)⟩
theorem Inv.bk (I:Inv X pins σ H s):∀ b o,X.base.get? b=some o→s.heap.get? b=some o:=fun b o e=>(I.bs b o e).1
theorem Inv.mod (I:Inv X pins σ H s):Mod X.K X.mg X.base:=I.ok.mod
theorem Inv.kIn (I:Inv X pins σ H s):X.K.In s.heap:=I.ok.mod.kin.keeps I.bk
theorem Inv.lt (I:Inv X pins σ H s):X.env.locals < s.heap.objs.size:=let ⟨_,hn,_⟩:=I.loc; hn.lt
theorem Inv.sz (I:Inv X pins σ H s):X.s₀.heap.objs.size≤s.heap.objs.size:=Nat.le_trans I.ok.above (Nat.le_of_lt I.lt)
theorem Inv.nofs (I:Inv X pins σ H s) {a:Addr} (h:s.heap.objs.size≤a):a ∉ X.fs:=fun hb=>by
 obtain ⟨_,o,ho,_⟩:=I.ok.funs.mem hb
 exact absurd (Nat.lt_of_lt_of_le (Heap.lt_size ho) (Nat.le_trans I.sz h)) (Nat.lt_irrefl _)
theorem Inv.cne (I:Inv X pins σ H s):∀ x c,X.env.cells.lookup x=some c→c≠X.env.locals:=fun x c e z=>by
 obtain ⟨v,o,ho,hd⟩:=I.cell x c e
 obtain ⟨m,⟨o',es,ep,ho',hd',_⟩,_⟩:=I.loc
 rw [z,ho'] at ho; cases ho; rw [hd'] at hd; cases hd
theorem Inv.funs (I:Inv X pins σ H s):s.heap.FunFrames X.base X.outer:=by
 have all:∀ (l:List Env),(∀ b ∈ frs l,b ∈ X.fs)→X.s₀.heap.FunFrames X.base l→s.heap.FunFrames X.base l:=by
  intro l
  induction l with
  | nil=>intro _ _; trivial
  | cons env r ih =>
   intro hs hl
   obtain ⟨hk,⟨L,o,hf,hn,ho,hd⟩,hr⟩:=hl
   have hL:L ∈ X.fs:=hs L (by unfold frs; rw [List.filterMap_cons,hf]; exact List.mem_cons_self)
   obtain ⟨sl,e⟩:=I.base.slot L o ho (I.ok.frf L hL) hL fun z=>I.ok.exfs L z hL
   exact ⟨hk,⟨L,_,hf,hn,e,hd⟩,ih (fun b hb=>hs b (by unfold frs; rw [List.filterMap_cons,hf]; exact List.mem_cons_of_mem _ hb)) hr⟩
 exact all X.outer (fun _ hb=>hb) I.ok.funs
theorem Inv.stack (I:Inv X pins σ H s):s.heap.FunFrames X.base X.stack:=by
 rcases I.ok.stk with e | ⟨e,hf⟩
 ·rw [e]; exact I.funs
 ·rw [e]
  obtain ⟨m,hn,_⟩:=I.loc
  refine .cons (by rw [I.ok.kind]; decide) hf hn ?_ I.funs
  exact Heap.get?_none_of_le (Nat.le_trans I.ok.bsz I.ok.above)
theorem Inv.stkSub (I:Inv X pins σ H s):∀ b ∈ frs X.stack,b ∈ X.env.locals::X.fs:=fun b hb=>by
 rcases I.ok.stk with e | ⟨e,hf⟩
 ·rw [e] at hb; exact List.mem_cons_of_mem _ hb
 ·rw [e] at hb
  unfold frs at hb
  rw [List.filterMap_cons,hf] at hb
  exact hb
theorem Inv.stkFree (I:Inv X pins σ H s):∀ b ∈ frs X.stack,H b=none:=fun b hb=>by
 rcases List.mem_cons.mp (I.stkSub b hb) with e | hb
 ·rw [e]; exact I.free
 ·obtain ⟨_,o,ho,_⟩:=I.ok.funs.mem hb
  exact I.base.free b o ho (I.ok.frf b hb) fun z=>I.ok.exfs b z hb
theorem Inv.step {g':Array GenState} {t':Nat} {d':Drawn} {ch:List Addr} (I:Inv X pins σ H s)
  (hch:∀ b ∈ ch,(b ∈ X.ex∨X.s₀.heap.objs.size≤b)∧b≠X.env.locals∧(∀ x c,X.env.cells.lookup x=some c→c≠b)∧∀ p ∈ X.pn++pins,p.1≠b)
  (keep:∀ b o,b≠X.env.locals→b ∉ X.fs→b ∉ ch→s.heap.get? b=some o→H b=none→h'.get? b=some o)
  (slot:∀ b o,b≠X.env.locals→b ∈ X.fs→b ∉ ch→s.heap.get? b=some o→H b=none→∃ sl,h'.get? b=some { o with slots:=sl }) (free:∀ b o,b ∉ ch→s.heap.get? b=some o→H b=none→H' b=none)
  (there:∀ b o,b ∉ ch→s.heap.get? b=some o→∃ o',h'.get? b=some o')
  (tups:∀ b xs,H b=some (.tup xs)→H' b=some (.tup xs)) (frzs:∀ b o u,H b=some (.frz o u)→H' b=some (.frz o u)) (tbls:∀ b ps,H b=some (.tbl ps)→∃ more,H' b=some (.tbl (ps++more)))
  (ns:∀ m,s.heap.Ns X.env.locals m→h'.Ns X.env.locals m) (hok:HOk X.prog X.w H' h') (hg:AllBare g') :
  Inv X pins σ H' { s with heap:=h',gens:=g',drawn:=d',toks:=t' }:=by
 have neL:∀ b o,X.s₀.heap.get? b=some o→b≠X.env.locals:=fun b o e=>Nat.ne_of_lt (Nat.lt_of_lt_of_le (Heap.lt_size e) I.ok.above)
 have neC:∀ b o,X.s₀.heap.get? b=some o→b ∉ X.ex→b ∉ ch:=fun b o e hx hb=>by
  rcases (hch b hb).1 with z | z
  ·exact hx z
  ·exact absurd (Nat.lt_of_lt_of_le (Heap.lt_size e) z) (Nat.lt_irrefl _)
 have cellK:∀ x c,X.env.cells.lookup x=some c→∀ v,s.heap.IsCell c v→h'.IsCell c v:=fun x c e v hq1=>by
  obtain ⟨o,ho,hd⟩:=hq1
  have nch:c ∉ ch:=fun z=>(hch c z).2.2.1 x c e rfl
  by_cases hc:c ∈ X.fs
  ·obtain ⟨sl,q⟩:=slot c o (I.cne x c e) hc nch ho (I.freeC x c e)
   exact ⟨_,q,hd⟩
  ·exact ⟨o,keep c o (I.cne x c e) hc nch ho (I.freeC x c e),hd⟩
 refine ⟨I.ok,I.os,hg,⟨fun b o e n hb hx=>?_,fun b o e n hb hx=>?_,fun b o e n hx=>?_,fun b o e hx=>?_,fun b xs e=>tups b xs (I.base.tups b xs e),fun b o xs e=>frzs b o xs (I.base.frzs b o xs e),fun b ps e=>?_⟩,?_,fun x c e=>?_,?_,fun x c e=>?_,fun p hp=>?_,hok,I.len⟩
 ·exact keep b o (neL b o e) hb (neC b o e hx) (I.base.keep b o e n hb hx) (I.base.free b o e n hx)
 ·obtain ⟨sl,e1⟩:=I.base.slot b o e n hb hx
  obtain ⟨sl',e2⟩:=slot b _ (neL b o e) hb (neC b o e hx) e1 (I.base.free b o e n hx)
  exact ⟨sl',e2⟩
 ·obtain ⟨o',e1⟩:=I.base.there b o e hx
  exact free b o' (neC b o e hx) e1 (I.base.free b o e n hx)
 ·obtain ⟨o',e1⟩:=I.base.there b o e hx
  exact there b o' (neC b o e hx) e1
 ·obtain ⟨m1,e1⟩:=I.base.tbls b ps e
  obtain ⟨m2,e2⟩:=tbls b _ e1
  exact ⟨m1++m2,by rw [e2,Array.append_assoc]⟩
 ·obtain ⟨m,hn,hl⟩:=I.loc
  refine ⟨m,ns m hn,fun i x v e1 e2 e3=>?_⟩
  obtain ⟨u,r,l⟩:=hl i x v e1 e2 e3
  refine ⟨u,r,?_⟩
  rcases l with l | ⟨k,c,e,z⟩
  ·exact .inl l
  ·exact .inr ⟨k,c,e,cellK x c e _ z⟩
 ·obtain ⟨v,z⟩:=I.cell x c e
  exact ⟨v,cellK x c e v z⟩
 ·obtain ⟨m,⟨o,_,_,ho,_⟩,_⟩:=I.loc
  exact free _ o (fun z=>(hch _ z).2.1 rfl) ho I.free
 ·obtain ⟨v,o,ho,hd⟩:=I.cell x c e
  exact free c o (fun z=>(hch c z).2.2.1 x c e rfl) ho (I.freeC x c e)
 ·obtain ⟨e,n,ne,nf,d⟩:=I.pin p hp
  have nch:p.1 ∉ ch:=fun z=>(hch p.1 z).2.2.2 p hp rfl
  exact ⟨keep p.1 p.2 ne nf nch e n,free p.1 p.2 nch e n,ne,nf,d⟩
theorem Inv.un {t':Nat} (I:Inv X pins σ H s) (u:Un X.fs [] H H' s.heap h') (hok:HOk X.prog X.w H' h'):Inv X pins σ H' { s with heap:=h',toks:=t' }:=by
 obtain ⟨m,⟨o,es,ep,ho,r⟩,_⟩:=id I.loc
 obtain ⟨sl,hL⟩:=u.any ho I.free (by simp)
 exact I.step (g':=s.gens) (d':=s.drawn) (ch:=[]) (fun _ z=>nomatch z) (fun b o _ hb _ e n=>u.keep b o e n hb (by simp)) (fun b o _ hb _ e n=>u.slot b o e n hb (by simp)) (fun b o _ e n=>u.free b o e n (by simp)) (fun b o _ e=>u.there b o e (by simp)) u.tups u.frzs u.tbls (fun m' hm=>by
  obtain ⟨o',es',ep',ho',r'⟩:=hm
  rw [ho] at ho'; cases ho'
  exact ⟨_,es',ep',hL,r'⟩) hok I.bare
theorem Inv.call {g':Array GenState} {t':Nat} {d':Drawn} {ch:List Addr} (I:Inv X pins σ H s) (u:Un (frs X.stack) ch H H' s.heap h') (hok:HOk X.prog X.w H' h') (hg:AllBare g')
  (hch:∀ b ∈ ch,(b ∈ X.ex∨X.s₀.heap.objs.size≤b)∧b≠X.env.locals∧(∀ x c,X.env.cells.lookup x=some c→c≠b)∧∀ p ∈ X.pn++pins,p.1≠b) :
  Inv X pins σ H' { s with heap:=h',gens:=g',drawn:=d',toks:=t' }:=by
 obtain ⟨m,⟨o,es,ep,ho,r⟩,_⟩:=id I.loc
 obtain ⟨sl,hL⟩:=u.any ho I.free fun z=>(hch _ z).2.1 rfl
 exact I.step (ch:=ch) hch (fun b o hL hb hc e n=>u.keep b o e n (fun z=>(List.mem_cons.mp (I.stkSub b z)).elim hL hb) hc) (fun b o _ _ hc e n=>u.any e n hc) (fun b o hc e n=>u.free b o e n hc) (fun b o hc e=>u.there b o e hc) u.tups u.frzs u.tbls (fun m' hm=>by
  obtain ⟨o',es',ep',ho',r'⟩:=hm
  rw [ho] at ho'; cases ho'
  exact ⟨_,es',ep',hL,r'⟩) hok hg
theorem Inv.turned {t':Nat} {it:Addr} (I:Inv X pins σ H s) (k:∀ b o,b≠it→s.heap.get? b=some o→h'.get? b=some o) (hn:H it=none) (hL:it≠X.env.locals)
  (h1:it ∈ X.ex∨X.s₀.heap.objs.size≤it) (h2:∀ x c,X.env.cells.lookup x=some c→c≠it) (h3:∀ p ∈ X.pn++pins,p.1≠it):Inv X pins σ H { s with heap:=h',toks:=t' }:=by
 have nit:∀ b u,H b=some u→b≠it:=fun b u e z=>by rw [z,hn] at e; cases e
 refine I.step (g':=s.gens) (d':=s.drawn) (ch:=[it]) (fun b hb=>?_) (fun b o _ _ hc e _=>k b o (fun z=>hc (by simp [z])) e) (fun b o _ _ hc e _=>⟨o.slots,k b o (fun z=>hc (by simp [z])) e⟩) (fun _ _ _ _ n=>n)
  (fun b o hc e=>⟨o,k b o (fun z=>hc (by simp [z])) e⟩) (fun _ _ e=>e) (fun _ _ _ e=>e) (fun b ps e=>⟨#[],by rw [e]; simp⟩) (fun m hm=>?_) (fun b u e=>?_) I.bare
 ·have e:b=it:=by simpa using hb
  subst e
  exact ⟨h1,hL,h2,h3⟩
 ·obtain ⟨o,es,ep,ho,r⟩:=hm
  exact ⟨o,es,ep,k _ o (Ne.symm hL) ho,r⟩
 ·refine (I.hok b u e).stay (fun c v hc q=>k c v ?_ q) (fun _ q=>q) fun _ _ q=>q
  rcases hc with z | z
  ·rw [z]; exact nit b u e
  ·exact nit c _ z
theorem Inv.tok (I:Inv X pins σ H s) (t:Nat):Inv X pins σ H { s with toks:=t }:=I.un (h':=s.heap) (t':=t) Un.refl I.hok
theorem Inv.kept {t':Nat} (I:Inv X pins σ H s) (k:∀ b u,s.heap.get? b=some u→h'.get? b=some u):Inv X pins σ H { s with heap:=h',toks:=t' }:=I.un (Un.kept k) (I.hok.kept k)
theorem Inv.laid {a:Addr} {o:HO} {t':Nat} (I:Inv X pins σ H s) (k:∀ b u,s.heap.get? b=some u→h'.get? b=some u) (hp:s.heap.objs.size≤a) (new:ObjOk X.prog X.w (upd H a o) h' a o) :
  Inv X pins σ (upd H a o) { s with heap:=h',toks:=t' }:=I.un (Un.laid k hp (I.hok.fresh hp)) (I.hok.laid k hp new)
theorem Inv.write {x e:Addr} {o:HO} {t':Nat} (I:Inv X pins σ H s) (mu:Mut (H x)) (he:e=x∨H e=some (.own x)) (k:∀ b u,b≠e→s.heap.get? b=some u→h'.get? b=some u) (heo:∃ u,h'.get? e=some u)
  (new:ObjOk X.prog X.w (upd H x o) h' x o):Inv X pins σ (upd H x o) { s with heap:=h',toks:=t' }:=I.un (Un.write mu he k heo) (I.hok.write mu he k heo new)
theorem Inv.pins_of {pins':List (Addr × Obj)} (I:Inv X pins σ H s) (h:∀ p ∈ pins',s.heap.get? p.1=some p.2∧H p.1=none∧p.1≠X.env.locals∧p.1 ∉ X.fs∧∀ v,p.2.data≠.cell v):Inv X pins' σ H s :=
 ⟨I.ok,I.os,I.bare,I.base,I.loc,I.cell,I.free,I.freeC,fun p hp=>(List.mem_append.mp hp).elim (fun z=>I.pin p (List.mem_append_left _ z)) (h p),I.hok,I.len⟩
theorem nodup_ix {N:List Str} (hN:N.Nodup) {i j:Nat} {x:Str} (a:N[i]?=some x) (b:N[j]?=some x):i=j:=by
 obtain ⟨h1,e1⟩:=List.getElem?_eq_some_iff.mp a
 obtain ⟨h2,e2⟩:=List.getElem?_eq_some_iff.mp b
 exact (List.getElem_inj hN).mp (e1.trans e2.symm)
theorem store_ok2 {M:Model} {A:Around} {E:Value→Shared→Prop} {i:Nat} {x:Str} {v:V} {u:Value} {Q:Unit→Shared→Prop} (I:Inv X pins σ H s) (hN:X.N.Nodup) (hi:X.N[i]?=some x) (hx:Loc X.env.scope x) (r:RelV v u)
  (h:∀ s',Inv X pins (σ.set i (some v)) H s'→(∃ a,Heap.SameBut a s.heap s'.heap∧(a=X.env.locals∨X.env.cells.lookup x=some a))→Q () s') (hf:X.fn x=true∨X.env.scope.names.lookup x=some .local:=by first | exact .inl rfl | exact .inr rfl | assumption):wpAny M A (storeName X.env x u) Q E s:=by
 obtain ⟨m,hn,hl⟩:=id I.loc
 have hcls:(X.env.scope.kind == .class || (X.env.scope.kind == .module && X.env.locals != X.env.globals))=false:=by rw [I.ok.kind]; rfl
 have hiσ:i < σ.length:=by rw [I.len]; exact (List.getElem?_eq_some_iff.mp hi).1
 have cne:=I.cne
 have tracked:∀ {a:Addr} {h':Heap},(∃ o,s.heap.get? a=some o∧H a=none)→Heap.SameBut a s.heap h'→HOk X.prog X.w H h':=fun {a h'} ha hs b ob e=>by
  obtain ⟨_,_,hfree⟩:=ha
  refine (I.hok b ob e).stay (fun c w' hc q=>(hs.2 c ?_).trans q) (fun _ q=>q) fun _ _ q=>q
  rintro rfl
  rcases hc with rfl | hc
  ·rw [hfree] at e; cases e
  ·rw [hfree] at hc; cases hc
 rcases hx with hk | hk
 ·refine wpAny_storeName_local hk hn (fun h' hn' hs=>?_) hcls
  obtain ⟨oL,_,_,hoL,_⟩:=id hn
  refine h _ ⟨I.ok,I.os,I.bare,⟨fun b o e n hb hx=>?_,fun b o e n hb hx=>?_,I.base.free,fun b o e hx=>?_,I.base.tups,I.base.frzs,I.base.tbls⟩,⟨_,hn',fun j y v' e1 e2 e3=>?_⟩,fun y c e=>?_,I.free,I.freeC,fun p hp=>?_,tracked ⟨oL,hoL,I.free⟩ hs,by simpa using I.len⟩ ⟨_,hs,.inl rfl⟩
  ·exact (hs.2 b (Nat.ne_of_lt (Nat.lt_of_lt_of_le (Heap.lt_size e) I.ok.above))).trans (I.base.keep b o e n hb hx)
  ·obtain ⟨sl,e1⟩:=I.base.slot b o e n hb hx
   exact ⟨sl,(hs.2 b (Nat.ne_of_lt (Nat.lt_of_lt_of_le (Heap.lt_size e) I.ok.above))).trans e1⟩
  ·obtain ⟨o',e1⟩:=I.base.there b o e hx
   exact ⟨o',(hs.2 b (Nat.ne_of_lt (Nat.lt_of_lt_of_le (Heap.lt_size e) I.ok.above))).trans e1⟩
  ·by_cases hj:j=i
   ·subst hj
    rw [hi] at e1; cases e1
    rw [List.getElem?_set_self hiσ] at e2
    cases e2
    exact ⟨u,r,.inl ⟨hk,by simp⟩⟩
   ·rw [List.getElem?_set_ne (Ne.symm hj)] at e2
    obtain ⟨u',r',q⟩:=hl j y v' e1 e2 e3
    refine ⟨u',r',?_⟩
    rcases q with ⟨k,e⟩ | ⟨k,c,e,z⟩
    ·refine .inl ⟨k,?_⟩
     have:y≠x:=fun e=>hj (nodup_ix hN e1 (e ▸ hi))
     simp [this,e]
    ·exact .inr ⟨k,c,e,z.sameBut hs (cne y c e)⟩
  ·obtain ⟨w',z⟩:=I.cell y c e
   exact ⟨w',z.sameBut hs (cne y c e)⟩
  ·obtain ⟨e,n,ne,nf,d⟩:=I.pin p hp
   exact ⟨(hs.2 p.1 ne).trans e,n,ne,nf,d⟩
 ·have hfn:X.fn x=true:=by
   rcases hf with z | z
   ·exact z
   ·rw [z] at hk; cases hk
  obtain ⟨c,hc⟩:=I.ok.has x (.inl hk)
  obtain ⟨w',z⟩:=I.cell x c hc
  refine wpAny_storeName_cell I.ok.kind hk hc z (fun h' hc' hs=>?_)
  obtain ⟨oc,hoc,hocd⟩:=id z
  refine h { s with heap:=h' } ⟨I.ok,I.os,I.bare,⟨fun b o e n hb hx=>?_,fun b o e n hb hx=>?_,I.base.free,fun b o e hx=>?_,I.base.tups,I.base.frzs,I.base.tbls⟩,⟨m,hn.sameBut hs (Ne.symm (cne x c hc)),fun j y v' e1 e2 e3=>?_⟩,fun y c' e=>?_,I.free,I.freeC,fun p hp=>?_,tracked ⟨oc,hoc,I.freeC x c hc⟩ hs,by simpa using I.len⟩ ⟨c,hs,.inr hc⟩
  ·exact (hs.2 b (Nat.ne_of_lt (Nat.lt_of_lt_of_le (Heap.lt_size e) (I.ok.cab x c hfn hc)))).trans (I.base.keep b o e n hb hx)
  ·obtain ⟨sl,e1⟩:=I.base.slot b o e n hb hx
   exact ⟨sl,(hs.2 b (Nat.ne_of_lt (Nat.lt_of_lt_of_le (Heap.lt_size e) (I.ok.cab x c hfn hc)))).trans e1⟩
  ·obtain ⟨o',e1⟩:=I.base.there b o e hx
   exact ⟨o',(hs.2 b (Nat.ne_of_lt (Nat.lt_of_lt_of_le (Heap.lt_size e) (I.ok.cab x c hfn hc)))).trans e1⟩
  ·by_cases hj:j=i
   ·subst hj
    rw [hi] at e1; cases e1
    rw [List.getElem?_set_self hiσ] at e2
    cases e2
    exact ⟨u,r,.inr ⟨.inl hk,c,hc,hc'⟩⟩
   ·rw [List.getElem?_set_ne (Ne.symm hj)] at e2
    obtain ⟨u',r',q⟩:=hl j y v' e1 e2 e3
    refine ⟨u',r',?_⟩
    rcases q with q | ⟨k,c',e,z'⟩
    ·exact .inl q
    ·refine .inr ⟨k,c',e,z'.sameBut hs ?_⟩
     rintro rfl
     exact hj (nodup_ix hN e1 (I.ok.inj _ _ _ e hc ▸ hi))
  ·by_cases hcc:c'=c
   ·subst hcc; exact ⟨_,hc'⟩
   ·obtain ⟨w2,z2⟩:=I.cell y c' e
    exact ⟨w2,z2.sameBut hs hcc⟩
  ·obtain ⟨e,n,ne,nf,d⟩:=I.pin p hp
   refine ⟨(hs.2 p.1 ?_).trans e,n,ne,nf,d⟩
   intro q
   rw [q,hoc] at e
   have q':oc=p.2:=Option.some.inj e
   exact d w' (by rw [← q']; exact hocd)
theorem store_ok {M:Model} {A:Around} {E:Value→Shared→Prop} {i:Nat} {x:Str} {v:V} {u:Value} {Q:Unit→Shared→Prop} (I:Inv X pins σ H s) (hN:X.N.Nodup) (hi:X.N[i]?=some x) (hx:Loc X.env.scope x) (r:RelV v u)
  (h:∀ s',Inv X pins (σ.set i (some v)) H s'→Q () s') (hf:X.fn x=true∨X.env.scope.names.lookup x=some .local:=by first | exact .inl rfl | exact .inr rfl | assumption):wpAny M A (storeName X.env x u) Q E s :=
 store_ok2 I hN hi hx r (fun s' I' _=>h s' I') hf
theorem Inv.call' {s':Shared} {ch:List Addr} (I:Inv X pins σ H s) (ho:s'.os=s.os) (u:Un (frs X.stack) ch H H' s.heap s'.heap) (hok:HOk X.prog X.w H' s'.heap) (hg:AllBare s'.gens)
  (hch:∀ b ∈ ch,(b ∈ X.ex∨X.s₀.heap.objs.size≤b)∧b≠X.env.locals∧(∀ x c,X.env.cells.lookup x=some c→c≠b)∧∀ p ∈ X.pn++pins,p.1≠b):Inv X pins σ H' s':=by
 obtain ⟨h',g',d',t',o'⟩:=s'
 have e:o'=s.os:=ho
 subst e
 exact I.call (g':=g') (t':=t') (d':=d') u hok hg hch
end
abbrev XK:=Value→Option Addr→Hp→Prop
abbrev St:=List (Option V)
abbrev VK:=V→Hp→Prop
abbrev TE:=St→Hp→VK→Prop
abbrev TT:=St→Hp→(Bool→Hp→Prop)→Prop
abbrev TA:=St→Hp→(List V→Hp→Prop)→Prop
structure Ends where
 nx:St→Hp→Prop
 rt:VK
 bk:St→Hp→Prop:=fun _ _=>False
 ct:St→Hp→Prop:=fun _ _=>False
abbrev TS:=Ends→St→Hp→Prop
def EP (X:Cx) (pins:List (Addr × Obj)) (σ:St) (Q:VK) (u:Value) (s':Shared):Prop:=∃ v H',Inv X pins σ H' s'∧RelV v u∧Q v H'
def TP (X:Cx) (pins:List (Addr × Obj)) (σ:St) (Q:Bool→Hp→Prop) (b:Bool) (s':Shared):Prop:=∃ H',Inv X pins σ H' s'∧Q b H'
def AP (X:Cx) (pins:List (Addr × Obj)) (σ:St) (Q:List V→Hp→Prop) (us:List Value) (s':Shared):Prop:=∃ vs H',Inv X pins σ H' s'∧Vals vs us∧Q vs H'
def SP (X:Cx) (pins:List (Addr × Obj)) (D:Ends) (f:Flow) (s':Shared):Prop :=
 match f with
 | .next=>∃ σ' H',Inv X pins σ' H' s'∧D.nx σ' H'
 | .brk=>∃ σ' H',Inv X pins σ' H' s'∧D.bk σ' H'
 | .cont=>∃ σ' H',Inv X pins σ' H' s'∧D.ct σ' H'
 | .ret u=>∃ v σ' H',Inv X pins σ' H' s'∧RelV v u∧D.rt v H'
def PE (X:Cx) (e:Expr) (t:TE):Prop :=
 ∀ (pins:List (Addr × Obj)) (s:Shared) (σ:St) (H:Hp) (Q:VK),Inv X pins σ H s→t σ H Q→wpAny (model X.prog X.w) X.A (eval e X.env) (EP X pins σ Q) X.xe s
def PT (X:Cx) (e:Expr) (t:TT):Prop :=
 ∀ (pins:List (Addr × Obj)) (s:Shared) (σ:St) (H:Hp) (Q:Bool→Hp→Prop),Inv X pins σ H s→t σ H Q→wpAny (model X.prog X.w) X.A (isTrue e X.env (eval e X.env)) (TP X pins σ Q) X.xe s
def PW (X:Cx) (e:Expr) (t:TT):Prop :=
 ∀ (whole:Sem Value) (pins:List (Addr × Obj)) (s:Shared) (σ:St) (H:Hp) (Q:Bool→Hp→Prop),Inv X pins σ H s→t σ H Q→wpAny (model X.prog X.w) X.A (isTrue e X.env whole) (TP X pins σ Q) X.xe s
theorem PW.pt {X:Cx} {e:Expr} {t:TT} (h:PW X e t):PT X e t:=h _
def PA (X:Cx) (es:List Expr) (t:TA):Prop :=
 ∀ (pos:Pos) (pins:List (Addr × Obj)) (s:Shared) (σ:St) (H:Hp) (Q:List V→Hp→Prop),Inv X pins σ H s→t σ H Q→wpAny (model X.prog X.w) X.A (spliced (backTo pos (starEach es X.env))) (AP X pins σ Q) X.xe s
def PS (X:Cx) (st:Stmt) (t:TS):Prop :=
 ∀ (pins:List (Addr × Obj)) (s:Shared) (σ:St) (H:Hp) (D:Ends),Inv X pins σ H s→t D σ H→wpAny (model X.prog X.w) X.A (exec st X.env) (SP X pins D) X.xe s
def PSs (X:Cx) (st:List Stmt) (t:TS):Prop :=
 ∀ (pins:List (Addr × Obj)) (s:Shared) (σ:St) (H:Hp) (D:Ends),Inv X pins σ H s→t D σ H→wpAny (model X.prog X.w) X.A (execs st X.env) (SP X pins D) X.xe s
theorem thn {α:Type} {t:Sem α} {Q Q':α→Shared→Prop} {M:Model} {A:Around} {E:Value→Shared→Prop} {s:Shared} (h:wpAny M A t Q E s) (hQ:∀ a s,Q a s→Q' a s):wpAny M A t Q' E s:=wpAny_mono h hQ fun _ _ x=>x
end L2
namespace L2
open PySem PySem.Spec PyProof.Rows
section
variable {X:Cx}
def tVar (i:Nat):TE:=fun σ H Q=>∃ v,σ[i]?=some (some v)∧Q v H
def tC (v:V):TE:=fun _ H Q=>Q v H
theorem pe_var {i:Nat} {x:Str} {pos:Pos} (hN:X.N[i]?=some x) (hv:Vis X.env.scope x) (hd:(x == ("__debug__" : Str))=false:=by decide) (hcd:(x == ("__classdict__" : Str))=false:=by decide):PE X (.Name x pos) (tVar i):=by
 intro pins s σ H Q I h
 obtain ⟨v,e,h⟩:=h
 obtain ⟨m,hn,hl⟩:=I.loc
 obtain ⟨u,r,l⟩:=hl i x v hN e hv
 have fin:EP X pins σ Q u s:=⟨v,H,I,r,h⟩
 rcases l with ⟨hk,hm⟩ | ⟨hk,c,hc,hcell⟩
 ·exact wpAny_Name (wpAny_loadName_local I.ok.kind hk hn hm fin) hd
 ·rcases hk with hk | hk
  ·exact wpAny_Name (wpAny_loadName_cell I.ok.kind hk hc hcell fin) hd
  ·exact wpAny_Name (wpAny_loadName_free I.ok.kind hk hc hcell fin hcd) hd
theorem pe_int {i j pos}:PE X (.Constant (.int i) j pos) (tC (.int i)):=fun _ _ _ H _ I h=>wpAny_Constant_int ⟨.int i,H,I.tok _,⟨_,rfl⟩,h⟩
theorem pe_bl {b j pos}:PE X (.Constant (.bool b) j pos) (tC (.bl b)):=fun _ _ _ H _ I h=>Constant_bool ⟨.bl b,H,I,rfl,h⟩
theorem pe_non {j pos}:PE X (.Constant .none j pos) (tC .non):=fun _ _ _ H _ I h=>Constant_none ⟨.non,H,I,rfl,h⟩
def Gl (X:Cx) (x:Str):Prop:=X.env.kindOf x=some .globalImplicit
theorem ld_glob {E:Value→Shared→Prop} {pins:List (Addr × Obj)} {s:Shared} {σ:St} {H:Hp} {x:Str} {u:Value} {pos:Pos} {Q:Value→Shared→Prop} (I:Inv X pins σ H s) (hg:Gl X x) (hm:X.mg x=some u) (h:Q u s)
  (hd:(x == ("__debug__" : Str))=false:=by decide):wpAny (model X.prog X.w) X.A (eval (.Name x pos) X.env) Q E s :=
 Calls.Name_function_global I.ok.kind hg (Calls.loadGlobal_global (by rw [I.ok.glob]; exact I.mod.glob.keeps I.bk) hm h) hd
theorem ld_blt {E:Value→Shared→Prop} {pins:List (Addr × Obj)} {s:Shared} {σ:St} {H:Hp} {x:Str} {u:Value} {pos:Pos} {Q:Value→Shared→Prop} (I:Inv X pins σ H s) (hg:Gl X x) (hm:X.mg x=none) (hv:bootBuiltins x=some u) (h:Q u s)
  (hn:x≠"__name__" := by decide) (hd:(x == ("__debug__" : Str))=false:=by decide):wpAny (model X.prog X.w) X.A (eval (.Name x pos) X.env) Q E s:=by
 obtain ⟨mb,h1,h2⟩:=I.mod.blt
 exact Calls.Name_function_global I.ok.kind hg (Calls.loadGlobal_builtin (by rw [I.ok.glob]; exact I.mod.glob.keeps I.bk) hm (by rw [I.ok.blt]; exact h1.keeps I.bk) ((h2 x hn).trans hv) h) hd
theorem pe_bltn {x:Str} {v:V} {u:Value} {pos:Pos} (hg:Gl X x) (hm:X.mg x=none) (hv:bootBuiltins x=some u) (r:RelV v u) (hn:x≠"__name__" := by decide) (hd:(x == ("__debug__" : Str))=false:=by decide):PE X (.Name x pos) (tC v) :=
 fun _ _ _ H _ I h=>ld_blt I hg hm hv ⟨v,H,I,r,h⟩ hn hd
variable {a b:Expr} {ta tb:TE} {pos:Pos}
theorem nobehind (b:Expr) {op:CmpOp} (h:op≠.In) (h2:op≠.NotIn):behindInMarks op b=false:=by
 have e1:(op == CmpOp.In)=false:=by cases op <;> first | rfl | exact absurd rfl h
 have e2:(op == CmpOp.NotIn)=false:=by cases op <;> first | rfl | exact absurd rfl h2
 cases b <;> simp [behindInMarks,e1,e2]
def tB (t:TE):TT:=fun σ H Q=>t σ H fun x H1=>∃ c,x=.bl c∧Q c H1
theorem pt_val {e:Expr} {t:TE} (h:PE X e t) (he:∀ whole,isTrue e X.env whole=(do let v ← whole; standAt e.pos; holding [v] (truthy v)):=by intro _; rfl):PT X e (tB t):=by
 intro pins s σ H Q I hw
 refine isTrue_plain (thn (h pins s σ H _ I hw) fun v s1 ⟨x,H1,I1,r1,q1⟩=>?_) (he _)
 obtain ⟨d,rfl,q⟩:=q1
 cases r1
 exact wpAny_truthy_bool ⟨H1,I1,q⟩
variable {tA tB':TT} {rest:List Expr}
def tAnd (t u:TT):TT:=fun σ H Q=>t σ H fun c H1=>if c=true then u σ H1 Q else Q false H1
def tOr (t u:TT):TT:=fun σ H Q=>t σ H fun c H1=>if c=true then Q true H1 else u σ H1 Q
def tNot (t:TT):TT:=fun σ H Q=>t σ H fun c H1=>Q (!c) H1
theorem pw_and1 (ha:PT X a tA):PW X (.BoolOp .And [a] pos) tA:=by
 intro wh pins s σ H Q I h
 refine isTrue_and (thn (ha pins s σ H Q I h) fun c s1 e=>?_)
 cases c with
 | true=>exact isTrue_and_nil e
 | false=>exact e
theorem pw_or1 (ha:PT X a tA):PW X (.BoolOp .Or [a] pos) tA:=by
 intro wh pins s σ H Q I h
 refine isTrue_or (thn (ha pins s σ H Q I h) fun c s1 e=>?_)
 cases c with
 | false=>exact isTrue_or_nil e
 | true=>exact e
theorem pw_and (ha:PT X a tA) (hb:PW X (.BoolOp .And (b::rest) pos) tB'):PW X (.BoolOp .And (a::b::rest) pos) (tAnd tA tB'):=by
 intro wh pins s σ H Q I h
 refine isTrue_and (thn (ha pins s σ H _ I h) fun c s1 ⟨H1,I1,q1⟩=>?_)
 cases c with
 | true=>exact hb wh pins s1 σ H1 Q I1 q1
 | false=>exact ⟨H1,I1,q1⟩
theorem pw_or (ha:PT X a tA) (hb:PW X (.BoolOp .Or (b::rest) pos) tB'):PW X (.BoolOp .Or (a::b::rest) pos) (tOr tA tB'):=by
 intro wh pins s σ H Q I h
 refine isTrue_or (thn (ha pins s σ H _ I h) fun c s1 ⟨H1,I1,q1⟩=>?_)
 cases c with
 | true=>exact ⟨H1,I1,q1⟩
 | false=>exact hb wh pins s1 σ H1 Q I1 q1
theorem pt_not (ha:PT X a tA):PT X (.UnaryOp .Not a pos) (tNot tA):=by
 intro pins s σ H Q I h
 exact isTrue_not (ha pins s σ H (fun c H1=>Q (!c) H1) I h)
def tAndV (ta tb:TE):TE:=fun σ H Q=>ta σ H fun x H1=>∃ c,x=.bl c∧if c=true then tb σ H1 Q else Q (.bl false) H1
def tNotV (ta:TE):TE:=fun σ H Q=>ta σ H fun x H1=>∃ c,x=.bl c∧Q (.bl (!c)) H1
theorem pe_one {op} {t:TE} (h:PE X a t):PE X (.BoolOp op [a] pos) t:=fun pins s σ H Q I hw=>BoolOp_one (h pins s σ H Q I hw)
theorem pe_and (ha:PE X a ta) (hb:PE X (.BoolOp .And (b::rest) pos) tb):PE X (.BoolOp .And (a::b::rest) pos) (tAndV ta tb):=by
 intro pins s σ H Q I h
 refine BoolOp_and (thn (ha pins s σ H _ I h) fun v s1 ⟨x,H1,I1,r1,q1⟩=>?_)
 obtain ⟨c,rfl,q1⟩:=q1
 cases r1
 refine wpAny_truthy_bool ?_
 cases c with
 | true=>exact hb pins s1 σ H1 Q I1 q1
 | false=>exact ⟨.bl false,H1,I1,rfl,q1⟩
theorem pe_not (ha:PE X a ta):PE X (.UnaryOp .Not a pos) (tNotV ta):=by
 intro pins s σ H Q I h
 refine UnaryOp_ (thn (ha pins s σ H _ I h) fun v s1 ⟨x,H1,I1,r1,q1⟩=>?_)
 obtain ⟨c,rfl,q1⟩:=q1
 cases r1
 exact not_of (wpAny_truthy_bool ⟨.bl (!c),H1,I1,rfl,q1⟩)
end
end L2
namespace L2
open PySem PySem.Spec PyProof.Rows
def SqL (K:PySem.W.Frag) (H:Hp) (a:Addr) (xs:List V):Prop :=
 Rd H a (.lst xs) ∨
  ∃ (o:Obj) (its:Array Value) (n:Nat),K.lookup a=some o∧o.cls=.type "list" ∧ o.dict=none∧o.data=.seq its n∧its.size≤sizeLine∧Vals xs its.toList
def SqT (K:PySem.W.Frag) (H:Hp) (a:Addr) (xs:List V):Prop :=
 Rd H a (.tup xs) ∨
  ∃ (o:Obj) (its:Array Value) (n:Nat),K.lookup a=some o∧o.cls=.type "tuple" ∧ o.data=.seq its n∧its.size≤sizeLine∧Vals xs its.toList
def absV:Value→Option V
 | .none=>some .non
 | .bool b=>some (.bl b)
 | .int i _=>some (.int i)
 | .str x _=>some (.str x)
 | .bytes b _=>some (.byt b)
 | .float b _=>some (.flt b)
 | .ref a=>some (.ref a)
 | .type n=>some (.ty n)
 | _=>none
theorem RelV.abs {x:V} {u:Value} (r:RelV x u):absV u=some x:=by
 cases x with
 | non=>cases r; rfl
 | bl _=>cases r; rfl
 | int _=>obtain ⟨t,rfl⟩:=r; rfl
 | str _=>obtain ⟨t,rfl⟩:=r; rfl
 | byt _=>obtain ⟨t,rfl⟩:=r; rfl
 | flt _=>obtain ⟨t,rfl⟩:=r; rfl
 | ref _=>cases r; rfl
 | ty _=>cases r; rfl
theorem RelV.inj {x y:V} {u:Value} (r:RelV x u) (q:RelV y u):x=y:=Option.some.inj (r.abs.symm.trans q.abs)
theorem Vals.inj:∀ {xs ys:List V} {us:List Value},Vals xs us→Vals ys us→xs=ys
 | _,_,_,.nil,.nil=>rfl
 | _,_,_,.cons r t,.cons r' t'=>by rw [r.inj r',Vals.inj t t']
section
variable {X:Cx} {pins:List (Addr × Obj)} {σ:St} {H:Hp} {s:Shared} {a:Addr} {xs ys:List V}
theorem SqL.of {K:PySem.W.Frag} (h:H a=some (.lst xs)):SqL K H a xs:=.inl (.inl h)
theorem SqT.of {K:PySem.W.Frag} (h:H a=some (.tup xs)):SqT K H a xs:=.inl (.inl h)
theorem Inv.list (I:Inv X pins σ H s) (h:SqL X.K H a xs):∃ its:List Value,Vals xs its∧PlainL s.heap a its.toArray∧xs.length≤sizeLine:=by
 rcases h with h | ⟨o,its,n,hk,hc,hd,hs,hz,r⟩
 ·obtain ⟨z,its,n,r,e⟩:=h.ok I.hok
  exact ⟨its,r,⟨_,n,e,rfl,rfl,rfl⟩,z⟩
 ·refine ⟨its.toList,r,⟨o,n,I.kIn a o hk,hc,hd,by simpa using hs⟩,?_⟩
  have e:=r.length
  simp only [Array.length_toList] at e
  lia
theorem Inv.tuple (I:Inv X pins σ H s) (h:SqT X.K H a xs):∃ its:List Value,Vals xs its∧IsTup s.heap a its.toArray∧xs.length≤sizeLine:=by
 rcases h with h | ⟨o,its,n,hk,hc,hs,hz,r⟩
 ·obtain ⟨z,its,r,p⟩:=h.ok I.hok
  exact ⟨its,r,p,z⟩
 ·refine ⟨its.toList,r,⟨o,I.kIn a o hk,hc,n,by simpa using hs⟩,?_⟩
  have e:=r.length
  simp only [Array.length_toList] at e
  lia
theorem Inv.list_inj (I:Inv X pins σ H s) (h:SqL X.K H a xs) (h':SqL X.K H a ys):xs=ys:=by
 obtain ⟨its,r,⟨o,n,e,_,_,d⟩,_⟩:=I.list h
 obtain ⟨its',r',⟨o',n',e',_,_,d'⟩,_⟩:=I.list h'
 rw [e] at e'; cases e'
 rw [d] at d'
 injection d' with d1 _
 have:its=its':=by simpa using congrArg Array.toList d1
 subst this
 exact r.inj r'
end
abbrev Cx.wish (X:Cx) (E:Value→Shared→Prop):Cx:={ X with xe:=E }
abbrev Cx.nox (X:Cx):Cx:=X.wish fun _ _=>False
theorem Cx.Ok.wish {X:Cx} (ok:X.Ok) (E:Value→Shared→Prop):(X.wish E).Ok :=
 ⟨ok.mod,ok.kind,ok.glob,ok.blt,ok.above,ok.inj,ok.has,ok.cab,ok.hd,ok.frames,ok.stk,ok.exf,ok.bs,ok.bsz,ok.noex,ok.exfs,ok.funs,ok.frf⟩
theorem Cx.Ok.unwish {X:Cx} {E:Value→Shared→Prop} (ok:(X.wish E).Ok):X.Ok :=
 ⟨ok.mod,ok.kind,ok.glob,ok.blt,ok.above,ok.inj,ok.has,ok.cab,ok.hd,ok.frames,ok.stk,ok.exf,ok.bs,ok.bsz,ok.noex,ok.exfs,ok.funs,ok.frf⟩
section
variable {X:Cx} {pins:List (Addr × Obj)} {σ:St} {H:Hp} {s:Shared} {E:Value→Shared→Prop}
theorem Inv.wish (I:Inv X pins σ H s) (E:Value→Shared→Prop):Inv (X.wish E) pins σ H s:=⟨I.ok.wish E,I.os,I.bare,I.base,I.loc,I.cell,I.free,I.freeC,I.pin,I.hok,I.len⟩
theorem Inv.unwish (I:Inv (X.wish E) pins σ H s):Inv X pins σ H s:=⟨I.ok.unwish,I.os,I.bare,I.base,I.loc,I.cell,I.free,I.freeC,I.pin,I.hok,I.len⟩
theorem SP.unwish {D:Ends} {f:Flow} {s':Shared} (h:SP (X.wish E) pins D f s'):SP X pins D f s':=by
 cases f with
 | next=>obtain ⟨σ',H',I,q⟩:=h; exact ⟨σ',H',I.unwish,q⟩
 | brk=>obtain ⟨σ',H',I,q⟩:=h; exact ⟨σ',H',I.unwish,q⟩
 | cont=>obtain ⟨σ',H',I,q⟩:=h; exact ⟨σ',H',I.unwish,q⟩
 | ret u=>obtain ⟨v,σ',H',I,r,q⟩:=h; exact ⟨v,σ',H',I.unwish,r,q⟩
theorem PSs.nox {st:List Stmt} {t:TS} (h:PSs X.nox st t):PSs X st t:=fun pins s σ H D I hw =>
 wpAny_mono (h pins s σ H D (I.wish _) hw) (fun _ _ q=>q.unwish) fun _ _ z=>False.elim z
end
section
variable {X:Cx} {st:Stmt} {rest:List Stmt} {t u:TS} {e:Expr} {te:TE} {pos:Pos}
def tNext:TS:=fun D σ H=>D.nx σ H
def tSeq (t u:TS):TS:=fun D σ H=>t { D with nx:=u D } σ H
theorem pss_nil:PSs X [] tNext:=fun _ _ σ H _ I h=>wpAny_execs_nil ⟨σ,H,I,h⟩
theorem pss_cons (h1:PS X st t) (h2:PSs X rest u):PSs X (st::rest) (tSeq t u):=by
 intro pins s σ H D I h
 refine wpAny_execs_cons (thn (h1 pins s σ H { D with nx:=u D } I h) fun f s1 q=>?_)
 cases f with
 | next =>
  obtain ⟨σ',H',I',q⟩:=q
  exact h2 pins s1 σ' H' D I' q
 | ret v=>exact q
 | brk=>exact q
 | cont=>exact q
theorem pss_one (h1:PS X st t):PSs X [st] t:=by
 intro pins s σ H D I h
 refine wpAny_execs_cons (thn (h1 pins s σ H D I h) fun f s1 q=>?_)
 cases f with
 | next=>exact wpAny_execs_nil q
 | ret v=>exact q
 | brk=>exact q
 | cont=>exact q
theorem Inv.quiet {pins:List (Addr × Obj)} {σ:St} {H:Hp} {s:Shared} (I:Inv X pins σ H s):interactive X.env=false:=by simp [interactive,I.ok.kind]
def tDrop (te:TE):TS:=fun D σ H=>te σ H fun _ H1=>D.nx σ H1
theorem ps_expr (he:PE X e te) (hs:swapsWith e none pos.line X.env=pure false:=by rfl):PS X (.Expr e pos) (tDrop te):=by
 intro pins s σ H D I h
 exact wpAny_Expr_any (thn (he pins s σ H _ I h) fun v s1 hq16=>by obtain ⟨x,H1,I1,r1,q1⟩:=hq16; exact ⟨σ,H1,I1,q1⟩) I.quiet hs
def tRet (te:TE):TS:=fun D σ H=>te σ H D.rt
theorem ps_ret (he:PE X e te):PS X (.Return (some e) pos) (tRet te):=by
 intro pins s σ H D I h
 exact wpAny_Return_some (thn (he pins s σ H _ I h) fun v s1 hq17=>by obtain ⟨x,H1,I1,r1,q1⟩:=hq17; exact ⟨x,σ,H1,I1,r1,q1⟩)
def tIfS (c:TT) (t u:TS):TS:=fun D σ H=>c σ H fun b H1=>if b=true then t D σ H1 else u D σ H1
theorem ps_if {c:Expr} {a b:List Stmt} {tc:TT} (hc:PT X c tc) (ha:PSs X a t) (hb:PSs X b u):PS X (.If c a b pos) (tIfS tc t u):=by
 intro pins s σ H D I h
 refine wpAny_If (thn (hc pins s σ H _ I h) fun d s1 ⟨H1,I1,q1⟩=>?_)
 cases d with
 | true=>exact ha pins s1 σ H1 D I1 q1
 | false=>exact hb pins s1 σ H1 D I1 q1
def tNever:TS:=fun _ _ _=>False
theorem pss_never {sts:List Stmt}:PSs X sts tNever:=fun _ _ _ _ _ _ h=>h.elim
end
abbrev TG:=V→St→Hp→(St→Hp→Prop)→Prop
abbrev TGs:=List V→St→Hp→(St→Hp→Prop)→Prop
def PG (X:Cx) (target:Expr) (t:TG):Prop :=
 ∀ (pins:List (Addr × Obj)) (s:Shared) (σ:St) (H:Hp) (v:V) (u:Value) (Q:St→Hp→Prop),Inv X pins σ H s→RelV v u→t v σ H Q →
  wpAny (model X.prog X.w) X.A (assign target X.env u) (fun _ s'=>∃ σ' H',Inv X pins σ' H' s'∧Q σ' H') X.xe s
def PGs (X:Cx) (ts:List Expr) (t:TGs):Prop :=
 ∀ (pins:List (Addr × Obj)) (s:Shared) (σ:St) (H:Hp) (vs:List V) (us:List Value) (Q:St→Hp→Prop),Inv X pins σ H s→Vals vs us→t vs σ H Q →
  wpAny (model X.prog X.w) X.A (assignInOrder ((assignEach ts X.env).map (·.2)) us) (fun _ s'=>∃ σ' H',Inv X pins σ' H' s'∧Q σ' H') X.xe s
abbrev TSet:=V→V→V→Hp→(Hp→Prop)→Prop
def PSet (X:Cx) (t:TSet):Prop :=
 ∀ (pins:List (Addr × Obj)) (s:Shared) (σ:St) (H:Hp) (o i v:V) (ov iv u:Value) (Q:Hp→Prop),Inv X pins σ H s→RelV o ov→RelV i iv→RelV v u→t o i v H Q →
  wpAny (model X.prog X.w) X.A (setItem ov iv u) (fun _ s'=>∃ H',Inv X pins σ H' s'∧Q H') X.xe s
section
variable {X:Cx} {pos:Pos}
def gName (i:Nat):TG:=fun v σ H Q=>Q (σ.set i (some v)) H
theorem pg_name {i:Nat} {x:Str} (hN:X.N.Nodup) (hi:X.N[i]?=some x) (hx:Loc X.env.scope x) (hf:X.fn x=true∨X.env.scope.names.lookup x=some .local:=by first | exact .inl rfl | exact .inr rfl | assumption):PG X (.Name x pos) (gName i):=by
 intro pins s σ H v u Q I r h
 exact wpAny_assign_Name (store_ok I hN hi hx r (fun s' I'=>⟨_,H,I',h⟩) hf)
def gNil:TGs:=fun vs σ H Q=>vs=[]∧Q σ H
def gCons (t:TG) (u:TGs):TGs:=fun vs σ H Q=>∃ v r,vs=v::r∧t v σ H fun σ' H'=>u r σ' H' Q
theorem pgs_nil:PGs X [] gNil:=by
 intro pins s σ H vs us Q I r h
 obtain ⟨e,h⟩:=h
 subst e
 cases r
 exact assignInOrder_nil ⟨σ,H,I,h⟩
theorem pgs_cons {e:Expr} {es:List Expr} {t:TG} {u:TGs} (h1:PG X e t) (h2:PGs X es u)
  (hs:(assignEach (e::es) X.env).map (·.2)=assign e X.env::(assignEach es X.env).map (·.2):=by rfl):PGs X (e::es) (gCons t u):=by
 intro pins s σ H vs us Q I r h
 obtain ⟨v,vr,e1,h⟩:=h
 subst e1
 cases r with
 | cons r rr =>
  rw [hs]
  refine assignInOrder_cons (thn (h1 pins s σ H _ _ _ I r h) fun _ s1 ⟨σ1,H1,I1,q1⟩=>?_)
  exact h2 pins s1 σ1 H1 _ _ Q I1 rr q1
def gTup (K:PySem.W.Frag) (n:Nat) (t:TGs):TG:=fun v σ H Q=>∃ a xs,v=.ref a∧SqT K H a xs∧xs.length=n∧t xs σ H Q
theorem pg_tup {es:List Expr} {k:Nat} {t:TGs} {n:Nat} (hc:X.calm=true) (h:PGs X es t)
  (hn:(assignEach es X.env).length=n:=by rfl) (hst:(assignEach es X.env).findIdx? (·.1)=none:=by rfl):PG X (.Tuple es k pos) (gTup X.K n t):=by
 intro pins s σ H v u Q I r hw
 obtain ⟨a,xs,e1,hq,hl,hw⟩:=hw
 subst e1
 cases r
 obtain ⟨its,rv,ht,hz⟩:=I.tuple hq
 refine assign_Tuple_tuple (I.ok.hd hc) ht (by simp [hn,← hl,rv.length]) hst fun h' hx=>?_
 have I1:Inv X pins σ H { s with heap:=h' }:=I.kept (t':=s.toks) fun b o e=>hx b o (Nat.ne_of_lt (Heap.lt_size e)) e
 exact h pins _ σ H xs _ Q I1 (by simpa using rv) hw
def gSub (to ti:TE) (t:TSet):TG:=fun v σ H Q=>to σ H fun o H1=>ti σ H1 fun i H2=>t o i v H2 fun H3=>Q σ H3
theorem pg_sub {o i:Expr} {to ti:TE} {t:TSet} (ho:PE X o to) (hi:PE X i ti) (hs:PSet X t)
  (ha:∀ v,assign (.Subscript o i pos) X.env v=(do
   let ov ← holding [v] (eval o X.env)
   let iv ← holding [v,ov] (eval i X.env)
   standAt pos
   holding [v,ov,iv] (setItem ov iv v)
   release [v,ov,iv] []):=by intro _; rfl):PG X (.Subscript o i pos) (gSub to ti t):=by
 intro pins s σ H v u Q I r h
 rw [ha]
 refine wpAny_bind (wpAny_holding (thn (ho pins s σ H _ I h) fun ov s1 ⟨x,H1,I1,r1,q1⟩=>?_))
 refine wpAny_bind (wpAny_holding (thn (hi pins s1 σ H1 _ I1 q1) fun iv s2 ⟨y,H2,I2,r2,q2⟩=>?_))
 refine wpAny_bind (wpAny_standAt (wpAny_bind (wpAny_holding (thn (hs pins s2 σ H2 x y v ov iv u _ I2 r1 r2 r q2) fun _ s3 ⟨H3,I3,q3⟩=>?_))))
 exact wpAny_release ⟨σ,H3,I3,q3⟩
def tAsg (te:TE) (g:TG):TS:=fun D σ H=>te σ H fun x H1=>g x σ H1 D.nx
theorem ps_asg {tg e:Expr} {te:TE} {g:TG} (he:PE X e te) (hg:PG X tg g) (hs:swapsWithSole [tg] e pos.line X.env=pure false:=by rfl) (hw:swappedStores [tg] e X.env=pure none:=by rfl)
  (h1:(assignEach [tg] X.env).map (·.2)=[assign tg X.env]:=by rfl):PS X (.Assign [tg] e pos) (tAsg te g):=by
 intro pins s σ H D I h
 refine wpAny_Assign_stores (thn (he pins s σ H _ I h) fun v s1 ⟨x,H1,I1,r1,q1⟩=>?_) hs hw
 rw [h1]
 exact thn (hg pins s1 σ H1 x v _ I1 r1 q1) fun _ s2 q=>q
theorem ps_set {i:Nat} {x:Str} {e:Expr} {te:TE} {pos':Pos} (hN:X.N.Nodup) (hi:X.N[i]?=some x) (hx:Loc X.env.scope x) (he:PE X e te) (hs:swapsWith e (some (.Name x pos')) pos.line X.env=pure false:=by rfl) (hf:X.fn x=true∨X.env.scope.names.lookup x=some .local:=by first | exact .inl rfl | exact .inr rfl | assumption) :
  PS X (.Assign [.Name x pos'] e pos) (tAsg te (gName i)):=by
 intro pins s σ H D I h
 refine wpAny_Assign_Name (thn (he pins s σ H _ I h) fun v s1 ⟨y,H1,I1,r1,q1⟩=>?_) hs
 exact store_ok I1 hN hi hx r1 (fun s2 I2=>⟨_,H1,I2,q1⟩) hf
end
section
variable {X:Cx} {pos:Pos}
def tWhile (c:TT) (tb:TS):TS:=fun D σ H=>∃ W:Nat→St→Hp→Prop,(∃ m,W m σ H)∧∀ m σ H,W m σ H →
 c σ H fun b H1=>if b=true then ∃ N:St→Hp→Prop,(∀ σ' H',N σ' H'→∃ m',m' < m∧W m' σ' H')∧tb { D with nx:=N,ct:=N,bk:=D.nx } σ H1 else D.nx σ H1
theorem ps_while {c:Expr} {body:List Stmt} {tc:TT} {tb:TS} (hp:PassesOwn (model X.prog X.w) X.A X.env X.xe) (hc:PT X c tc) (hb:PSs X body tb):PS X (.While c body [] pos) (tWhile tc tb):=by
 intro pins s σ H D I h
 obtain ⟨W,⟨m0,w0⟩,turn⟩:=h
 refine wpAny_While (codeAny_whileLoop (fun n s'=>∃ σ' H',Inv X pins σ' H' s'∧W n σ' H') ?_ m0 ⟨σ,H,I,w0⟩)
 rintro n s1 ⟨σ1,H1,I1,w1⟩
 refine wpAny_passesOwn hp (thn (hc pins s1 σ1 H1 _ I1 (turn n σ1 H1 w1)) fun b s2 ⟨H2,I2,q2⟩=>?_)
 cases b with
 | true =>
  obtain ⟨N,hN,q2⟩:=q2
  rw [if_pos rfl]
  refine wpAny_passesOwn hp (thn (hb pins s2 σ1 H2 _ I2 q2) fun f s3 q3=>?_)
  cases f with
  | next =>
   obtain ⟨σ3,H3,I3,n3⟩:=q3
   obtain ⟨m',hm,w3⟩:=hN σ3 H3 n3
   exact ⟨m',hm,σ3,H3,I3,w3⟩
  | cont =>
   obtain ⟨σ3,H3,I3,n3⟩:=q3
   obtain ⟨m',hm,w3⟩:=hN σ3 H3 n3
   exact ⟨m',hm,σ3,H3,I3,w3⟩
  | brk=>exact q3
  | ret v=>exact q3
 | false =>
  rw [if_neg Bool.false_ne_true]
  exact wpAny_execs_nil ⟨σ1,H2,I2,q2⟩
end
structure It where
 go:Nat→Hp→Prop
 yld:Nat→Hp→V→Hp→Prop
 stop:Nat→Hp→Prop
def FpOk (X:Cx) (pins:List (Addr × Obj)) (H:Hp) (b:Addr):Prop :=
 H b=none∧b≠X.env.locals∧b ∉ X.fs∧(b ∈ X.ex∨X.s₀.heap.objs.size≤b)∧(∀ x c,X.env.cells.lookup x=some c→c≠b)∧∀ p ∈ X.pn++pins,p.1≠b
theorem Inv.fpOk {X:Cx} {pins:List (Addr × Obj)} {σ:St} {H H':Hp} {s:Shared} {b:Addr} (I:Inv X pins σ H s) (hb:s.heap.objs.size≤b) (hn:H' b=none):FpOk X pins H' b:=by
 refine ⟨hn,Nat.ne_of_gt (Nat.lt_of_lt_of_le I.lt hb),I.nofs hb,.inr (Nat.le_trans I.sz hb),fun x c e z=>?_,fun p hp z=>?_⟩
 ·obtain ⟨v,q⟩:=I.cell x c e
  exact absurd (Nat.lt_of_lt_of_le q.lt (by rw [z]; exact hb)) (Nat.lt_irrefl _)
 ·exact absurd (Nat.lt_of_lt_of_le (Heap.lt_size (I.pin p hp).1) (by rw [z]; exact hb)) (Nat.lt_irrefl _)
structure Turn (P:Program) (w:World) (K:PySem.W.Frag) (tg:Expr) (J:It) (fp:List Addr) (it:Addr) (tn:Nat→Heap→Prop):Prop where
 mem:it ∈ fp
 obj:∀ i h,tn i h→∀ b ∈ fp,∃ o,h.get? b=some o∧∀ v,o.data≠.cell v
 keep:∀ i h h',tn i h→(∀ b ∈ fp,∀ o,h.get? b=some o→h'.get? b=some o)→tn i h'
 item:∀ (X:Cx),X.prog=P→X.w=w→X.K=K→X.calm=true→∀ (i:Nat) (pins:List (Addr × Obj)) (s:Shared) (σ:St) (H:Hp) (E:Value→Shared→Prop),Inv X pins σ H s→(∀ b ∈ fp,FpOk X pins H b)→tn i s.heap→J.go i H →
  wpAny (model P w) X.A (pyNext (.ref it)) (fun r s1=>∃ u,r=some u ∧
   wpAny (model P w) X.A (letOwnedTupleGo tg (.ref it) u) (fun _ s2=>∃ x H',Inv X pins σ H' s2∧RelV x u∧J.yld i H x H'∧tn (i+1) s2.heap∧∀ b ∈ fp,H' b=none) E s1) E s
 done:∀ (X:Cx),X.prog=P→X.w=w→X.K=K→X.calm=true→∀ (i:Nat) (pins:List (Addr × Obj)) (s:Shared) (σ:St) (H:Hp) (E:Value→Shared→Prop),Inv X pins σ H s→(∀ b ∈ fp,FpOk X pins H b)→tn i s.heap→J.stop i H →
  wpAny (model P w) X.A (pyNext (.ref it)) (fun r s1=>r=none∧Inv X pins σ H s1) E s
 self:∀ (A:Around) (i:Nat) (s:Shared) (Q:Value→Shared→Prop) (E:Value→Shared→Prop),tn i s.heap→Q (.ref it) s→wpAny (model P w) A (pyIter (.ref it)) Q E s
abbrev TI:=St→Hp→(It→Hp→Prop)→Prop
def PIE (X:Cx) (pins:List (Addr × Obj)) (σ:St) (tg:Expr) (R:It→Hp→Prop) (itv:Value) (s2:Shared):Prop :=
 ∃ (it:Addr) (fp:List Addr) (tn:Nat→Heap→Prop) (J:It) (H':Hp),itv=.ref it∧Inv X pins σ H' s2∧Turn X.prog X.w X.K tg J fp it tn∧tn 0 s2.heap∧(∀ b ∈ fp,FpOk X pins H' b)∧R J H'
def PI (X:Cx) (tg iter:Expr) (wi:TI):Prop :=
 ∀ (pins:List (Addr × Obj)) (s:Shared) (σ:St) (H:Hp) (R:It→Hp→Prop),Inv X pins σ H s→wi σ H R →
  wpAny (model X.prog X.w) X.A (eval iter X.env) (fun v s1=>wpAny (model X.prog X.w) X.A (pyIter v) (PIE X pins σ tg R) X.xe s1) X.xe s
theorem go_of {M:Model} {A:Around} {E:Value→Shared→Prop} {s:Shared} {tg:Expr} {it:Addr} {u:Value} {o:Obj} {n:String} {vs:Array Value} {Q:Unit→Shared→Prop} (ho:s.heap.get? it=some o) (hc:o.cls=.type n) (hd:o.data=.fields vs)
  (hn:["enumerate","zip","dict_itemiterator","dict_reverseitemiterator","odict_iterator","itertools.zip_longest","itertools.pairwise"].contains n=false) (hQ:Q () s):wpAny M A (letOwnedTupleGo tg (.ref it) u) Q E s:=by
 unfold letOwnedTupleGo
 cases tg <;> first
  | exact wpAny_pure hQ
  | (cases u <;> first
    | exact wpAny_pure hQ
    | (refine wpAny_bind (wpAny_load ho ?_)
       rw [hc,hd]
       show wpAny M A (if (["enumerate","zip","dict_itemiterator","dict_reverseitemiterator","odict_iterator","itertools.zip_longest","itertools.pairwise"].contains n && vs[0]? == some (rawInt _))=true then _ else _) Q E s
       rw [if_neg (by intro h; rw [hn,Bool.false_and] at h; cases h)]
       exact wpAny_pure hQ))
def Itl (K:PySem.W.Frag) (a:Addr):It :=
 ⟨fun i H=>∃ xs x,SqL K H a xs∧xs[i]?=some x,fun i H x H'=>H'=H∧∀ xs,SqL K H a xs→xs[i]?=some x,fun i H=>∃ xs,SqL K H a xs∧xs.length≤i⟩
def Itr (lo:Int) (n:Nat):It:=⟨fun i _=>i < n,fun i H x H'=>H'=H∧x=.int (lo+i),fun i _=>n≤i⟩
theorem turn_list {P:Program} {w:World} {K:PySem.W.Frag} {tg:Expr} (a it:Addr):Turn P w K tg (Itl K a) [it] it (fun i h=>h.IsListIter it a i) where
 mem:=by simp
 obj:=fun i h st b hb=>by
  have e:b=it:=by simpa using hb
  subst e
  obtain ⟨o,e,c,d⟩:=st
  exact ⟨o,e,fun v z=>by rw [d] at z; cases z⟩
 keep:=fun i h h' st k=>st.at fun o e=>k it (by simp) o e
 item:=by
  intro X hP hw hK hc i pins s σ H E I hf st hg
  subst hP hw hK
  obtain ⟨xs,x,hq,hx⟩:=hg
  obtain ⟨its,rv,p,hz⟩:=I.list hq
  obtain ⟨u,hu,ru⟩:=rv.get hx
  obtain ⟨f0,f1,f2,f3,f4,f5⟩:=hf it (by simp)
  refine wpAny_pyNext_list_item st p.isList (x:=u) (by simpa using hu) fun h' st' sb=>?_
  have I1:Inv X pins σ H { s with heap:=h' }:=I.turned (t':=s.toks) (fun b o hb e=>(sb.2 b hb).trans e) f0 f1 f3 f4 f5
  obtain ⟨o,e,c,d⟩:=id st'
  exact ⟨u,rfl,go_of (s:={ s with heap:=h' }) e c d (by decide) ⟨x,H,I1,ru,⟨rfl,fun ys hy=>by rw [I.list_inj hy hq]; exact hx⟩,st',fun b hb=>(hf b hb).1⟩⟩
 done:=by
  intro X hP hw hK hc i pins s σ H E I hf st hg
  subst hP hw hK
  obtain ⟨xs,hq,hx⟩:=hg
  obtain ⟨its,rv,p,hz⟩:=I.list hq
  obtain ⟨f0,f1,f2,f3,f4,f5⟩:=hf it (by simp)
  have hl:=rv.length
  exact wpAny_pyNext_list_end (I.ok.hd hc) st p.isList (by simp; lia) fun h' eb=>⟨rfl,I.turned (t':=s.toks) (fun b o hb e=>eb b o hb e) f0 f1 f3 f4 f5⟩
 self:=fun _ _ _ _ _ st h=>wpAny_pyIter_listiter st h
theorem turn_range {P:Program} {w:World} {K:PySem.W.Frag} {tg:Expr} (it:Addr) (lo:Int) (n:Nat):Turn P w K tg (Itr lo n) [it] it (fun i h=>IsRangeIter h it (lo+(i:Nat) * 1) ((n:Int) - (i:Nat)) 1) where
 mem:=by simp
 obj:=fun i h st b hb=>by
  have e:b=it:=by simpa using hb
  subst e
  exact ⟨_,st,fun v z=>by
   have z':Data.fields _=Data.cell v:=z
   cases z'⟩
 keep:=fun i h h' st k=>k it (by simp) _ st
 item:=by
  intro X hP hw hK hc i pins s σ H E I hf st hg
  subst hP hw hK
  obtain ⟨f0,f1,f2,f3,f4,f5⟩:=hf it (by simp)
  have W:=Walks.range (prog:=X.prog) (w:=X.w) (I.ok.hd hc) it lo 1 n
  refine W.item i s _ _ hg st fun v h' tk hv st' kk=>?_
  obtain ⟨t,rfl⟩:=hv
  have I1:Inv X pins σ H { s with heap:=h',toks:=tk }:=I.turned (fun b o hb e=>kk b o (by simpa using hb) e) f0 f1 f3 f4 f5
  refine ⟨_,rfl,go_of (s:={ s with heap:=h',toks:=tk }) (n:="range_iterator") st' rfl rfl (by decide) ⟨.int (lo+i),H,I1,⟨t,?_⟩,⟨rfl,rfl⟩,st',fun b hb=>(hf b hb).1⟩⟩
  rw [Int.mul_one]
 done:=by
  intro X hP hw hK hc i pins s σ H E I hf st hg
  subst hP hw hK
  obtain ⟨f0,f1,f2,f3,f4,f5⟩:=hf it (by simp)
  exact wpAny_pyNext_range_end (I.ok.hd hc) st (by have:n≤i:=hg; lia) fun h' eb=>⟨rfl,I.turned (t':=s.toks) (fun b o hb e=>eb b o hb e) f0 f1 f3 f4 f5⟩
 self:=fun _ _ _ _ _ st h=>wpAny_pyIter_rangeiter st h
end L2
namespace L2
open PySem PySem.Spec PyProof.Rows
section
variable {X:Cx} {tg:Expr}
def iList (K:PySem.W.Frag) (tl:TE):TI:=fun σ H R=>tl σ H fun x H1=>∃ a,x=.ref a∧(∃ xs,SqL K H1 a xs)∧R (Itl K a) H1
theorem pi_list {l:Expr} {tl:TE} (hl:PE X l tl):PI X tg l (iList X.K tl):=by
 intro pins s σ H R I h
 refine thn (hl pins s σ H _ I h) fun v s1 ⟨x,H1,I1,r1,q1⟩=>?_
 obtain ⟨a,e,⟨xs,hq⟩,q⟩:=q1
 subst e
 cases r1
 obtain ⟨its,rv,p,hz⟩:=I1.list hq
 refine wpAny_pyIter_list p.isList ?_
 refine ⟨s1.heap.objs.size,[s1.heap.objs.size],_,_,H1,rfl,I1.kept (t':=s1.toks) fun b o e=>Heap.get?_push_of_some _ e,turn_list a _,⟨_,Heap.get?_push_size _ rfl,rfl,rfl⟩,fun b hb=>?_,q⟩
 have e:b=s1.heap.objs.size:=by simpa using hb
 subst e
 exact I1.fpOk (Nat.le_refl _) (I1.hok.fresh (Nat.le_refl _))
theorem range_it {pins:List (Addr × Obj)} {σ:St} {H:Hp} {s:Shared} {R:It→Hp→Prop} {E:Value→Shared→Prop} {lo hi:Int} {t u v:Tok} {tk:Nat} (I:Inv X pins σ H s) (h1:-(2 ^ 62)≤lo) (h2:lo < 2 ^ 62) (h3:-(2 ^ 62)≤hi) (h4:hi < 2 ^ 62)
  (q:R (Itr lo (hi - lo).toNat) H):wpAny (model X.prog X.w) X.A (pyIter (.ref s.heap.objs.size)) (PIE X pins σ tg R) E { s with heap:=s.heap.push { cls:=.type "range",data:=.fields #[.int lo t,.int hi u,.int 1 v] },toks:=tk }:=by
 refine wpAny_pyIter_range (IsRange.new ..) (small_one h1 h2 h3 h4) ?_
 have I1:Inv X pins σ H { s with heap:=s.heap.push { cls:=.type "range",data:=.fields #[.int lo t,.int hi u,.int 1 v] },toks:=tk }:=I.kept fun b o e=>Heap.get?_push_of_some _ e
 refine ⟨(s.heap.push { cls:=.type "range",data:=.fields #[.int lo t,.int hi u,.int 1 v] }).objs.size,[(s.heap.push { cls:=.type "range",data:=.fields #[.int lo t,.int hi u,.int 1 v] }).objs.size],_,_,H,rfl,
  I1.kept (t':=tk) fun b o e=>Heap.get?_push_of_some _ e,turn_range _ lo (hi - lo).toNat,?_,fun b hb=>?_,q⟩
 ·have e1:lo+((0:Nat):Int) * 1=lo:=by simp
  have e2:(((hi - lo).toNat:Nat):Int) - ((0:Nat):Int)=Builtin.Range.rangeSize lo hi 1:=by rw [rangeSize_one]; split <;> lia
  show IsRangeIter _ _ (lo+((0:Nat):Int) * 1) ((((hi - lo).toNat:Nat):Int) - ((0:Nat):Int)) 1
  rw [e1,e2]
  exact Heap.get?_push_size _ rfl
 ·have e:b=(s.heap.push { cls:=.type "range",data:=.fields #[.int lo t,.int hi u,.int 1 v] }).objs.size:=by simpa using hb
  subst e
  exact I1.fpOk (Nat.le_refl _) (I1.hok.fresh (Nat.le_refl _))
def iRng1 (ta:TA):TI:=fun σ H R=>ta σ H fun vs H1=>∃ j:Int,vs=[.int j]∧-(2 ^ 62)≤j∧j < 2 ^ 62∧R (Itr 0 j.toNat) H1
def iRng2 (ta:TA):TI:=fun σ H R=>ta σ H fun vs H1=>∃ i j:Int,vs=[.int i,.int j]∧(-(2 ^ 62)≤i∧i < 2 ^ 62∧-(2 ^ 62)≤j∧j < 2 ^ 62)∧R (Itr i (j - i).toNat) H1
theorem pi_range1 {a:Expr} {ta:TA} {p pos:Pos} (hg:Gl X "range") (hm:X.mg "range" = none) (ha:PA X [a] ta) (hs:starEach [a] X.env=[(false,eval a X.env)]:=by rfl):PI X tg (.Call (.Name "range" p) [a] [] pos) (iRng1 ta):=by
 intro pins s σ H R I h
 refine Call_ (ld_blt I hg hm boot_range (PyProof.Rows.callWith_type1 (thn (ha pos pins s σ H _ I h) fun us s1 ⟨vs,H1,I1,r1,q1⟩=>?_) hs rfl))
 obtain ⟨j,e,q1,q2,q⟩:=q1
 subst e
 cases r1 with
 | cons r rr =>
  cases rr
  obtain ⟨t,rfl⟩:=r
  exact call_range_1 (range_it I1 (by lia) (by lia) q1 q2 (by simpa using q))
theorem pi_range2 {a b:Expr} {ta:TA} {p pos:Pos} (hg:Gl X "range") (hm:X.mg "range" = none) (ha:PA X [a,b] ta) (hs:starEach [a,b] X.env=[(false,eval a X.env),(false,eval b X.env)]:=by rfl) (hs2:starEach [b] X.env=[(false,eval b X.env)]:=by rfl) :
  PI X tg (.Call (.Name "range" p) [a,b] [] pos) (iRng2 ta):=by
 intro pins s σ H R I h
 refine Call_ (ld_blt I hg hm boot_range (PyProof.Rows.callWith_type1 (thn (ha pos pins s σ H _ I h) fun us s1 ⟨vs,H1,I1,r1,q1⟩=>?_) (by rw [hs,hs2]) (by rw [hs2]; rfl)))
 obtain ⟨i,j,e,⟨q1,q2,q3,q4⟩,q⟩:=q1
 subst e
 cases r1 with
 | cons r rr =>
  cases rr with
  | cons r' rr =>
   cases rr
   obtain ⟨t,rfl⟩:=r
   obtain ⟨t',rfl⟩:=r'
   exact call_range_2 (range_it I1 q1 q2 q3 q4 q)
def tFor (wi:TI) (g:TG) (tb:TS):TS:=fun D σ H=>wi σ H fun J H1=>∃ W:Nat→Nat→St→Hp→Prop,(∃ m,W 0 m σ H1)∧∀ i m σ H,W i m σ H →
 (J.stop i H∧D.nx σ H)∨(J.go i H∧∃ N:St→Hp→Prop,(∀ σ' H',N σ' H'→∃ m',m' < m∧W (i+1) m' σ' H')∧∀ x H',J.yld i H x H'→g x σ H' fun σ2 H2=>tb { D with nx:=N,ct:=N,bk:=D.nx } σ2 H2)
def pinsAt (fp:List Addr) (h:Heap):List (Addr × Obj):=fp.filterMap fun b=>(h.get? b).map fun o=>(b,o)
theorem mem_pinsAt {fp:List Addr} {h:Heap} {b:Addr} {o:Obj} (hb:b ∈ fp) (e:h.get? b=some o):(b,o) ∈ pinsAt fp h:=List.mem_filterMap.mpr ⟨b,hb,by rw [e]; rfl⟩
theorem of_pinsAt {fp:List Addr} {h:Heap} {p:Addr × Obj} (hp:p ∈ pinsAt fp h):p.1 ∈ fp∧h.get? p.1=some p.2:=by
 obtain ⟨b,hb,e⟩:=List.mem_filterMap.mp hp
 cases q:h.get? b with
 | none=>rw [q] at e; cases e
 | some o =>
  rw [q] at e
  have e':(b,o)=p:=Option.some.inj e
  subst e'
  exact ⟨hb,q⟩
theorem Inv.pinned {pins:List (Addr × Obj)} {σ:St} {H:Hp} {s:Shared} {fp:List Addr} (I:Inv X pins σ H s) (hf:∀ b ∈ fp,FpOk X pins H b) (ho:∀ b ∈ fp,∃ o,s.heap.get? b=some o∧∀ v,o.data≠.cell v):Inv X (pins++pinsAt fp s.heap) σ H s :=
 I.pins_of fun p hp=>(List.mem_append.mp hp).elim (fun z=>I.pin p (List.mem_append_right _ z)) fun z=>by
  obtain ⟨hb,e⟩:=of_pinsAt z
  obtain ⟨f0,f1,f2,_⟩:=hf p.1 hb
  obtain ⟨o,e',d⟩:=ho p.1 hb
  rw [e] at e'; cases e'
  exact ⟨e,f0,f1,f2,d⟩
theorem Inv.unpinned {pins pl:List (Addr × Obj)} {σ:St} {H:Hp} {s:Shared} (I:Inv X (pins++pl) σ H s):Inv X pins σ H s:=I.pins_of fun p hp=>I.pin p (List.mem_append_right _ (List.mem_append_left _ hp))
theorem ps_for {iter:Expr} {body:List Stmt} {wi:TI} {g:TG} {tb:TS} {pos:Pos} (hp:PassesOwn (model X.prog X.w) X.A X.env X.xe) (hc:X.calm=true) (hi:PI X tg iter wi) (hg:PG X tg g) (hb:PSs X body tb)
  (hs:∀ x,foldedSetIterable iter X.env x=pure x:=by intro _; rfl):PS X (.For tg iter body [] pos) (tFor wi g tb):=by
 intro pins s σ H D I h
 refine wpAny_For (thn (hi pins s σ H _ I h) fun v s1 h1=>thn h1 fun itv s2 h2=>?_) hs
 obtain ⟨it,fp,tn,J,H2,e,I2,T,st2,f2,W,⟨m0,w0⟩,turn⟩:=h2
 subst e
 have stat:∀ {H':Hp},(∀ b ∈ fp,H' b=none)→∀ b ∈ fp,FpOk X pins H' b:=fun hn b hb=>⟨hn b hb,(f2 b hb).2⟩
 refine codeAny_forLoop_any (fun n s'=>∃ i σ' H',Inv X pins σ' H' s'∧tn i s'.heap∧(∀ b ∈ fp,H' b=none)∧W i n σ' H') ?_ m0 ⟨0,σ,H2,I2,st2,fun b hb=>(f2 b hb).1,w0⟩
 rintro n s3 ⟨i,σ3,H3,I3,st3,fr3,w3⟩
 rcases turn i n σ3 H3 w3 with ⟨stop,qn⟩ | ⟨go,N,hN,step⟩
 ·refine wpAny_passesOwn hp (thn (T.done X rfl rfl rfl hc i pins s3 σ3 H3 X.xe I3 (stat fr3) st3 stop) fun r s4 ⟨hr,I4⟩=>?_)
  subst hr
  exact wpAny_execs_nil ⟨σ3,H3,I4,qn⟩
 ·refine wpAny_passesOwn hp (thn (T.item X rfl rfl rfl hc i pins s3 σ3 H3 X.xe I3 (stat fr3) st3 go) fun r s4 ⟨u,hr,h4⟩=>?_)
  subst hr
  refine wpAny_passesOwn hp (thn h4 fun _ s5 ⟨x,H5,I5,r5,y5,st5,fr5⟩=>?_)
  have I5':=I5.pinned (stat fr5) (T.obj _ _ st5)
  refine wpAny_passesOwn hp (thn (hg _ s5 σ3 H5 x u _ I5' r5 (step x H5 y5)) fun _ s6 ⟨σ6,H6,I6,q6⟩=>?_)
  refine wpAny_passesOwn hp (thn (hb _ s6 σ6 H6 _ I6 q6) fun f s7 q7=>?_)
  have again:∀ {σ7:St} {H7:Hp},Inv X (pins++pinsAt fp s5.heap) σ7 H7 s7→N σ7 H7→∃ m,m < n∧∃ i σ' H',Inv X pins σ' H' s7∧tn i s7.heap∧(∀ b ∈ fp,H' b=none)∧W i m σ' H':=fun {σ7 H7} I7 n7=>by
   obtain ⟨m',hm,w7⟩:=hN σ7 H7 n7
   refine ⟨m',hm,i+1,σ7,H7,I7.unpinned,T.keep _ _ _ st5 fun b hb o e=>(I7.pin (b,o) (List.mem_append_right _ (List.mem_append_right _ (mem_pinsAt hb e)))).1,fun b hb=>?_,w7⟩
   obtain ⟨o,e,d⟩:=T.obj _ _ st5 b hb
   exact (I7.pin (b,o) (List.mem_append_right _ (List.mem_append_right _ (mem_pinsAt hb e)))).2.1
  cases f with
  | next=>obtain ⟨σ7,H7,I7,n7⟩:=q7; exact again I7 n7
  | cont=>obtain ⟨σ7,H7,I7,n7⟩:=q7; exact again I7 n7
  | brk=>obtain ⟨σ7,H7,I7,q7⟩:=q7; exact ⟨σ7,H7,I7.unpinned,q7⟩
  | ret v=>obtain ⟨x7,σ7,H7,I7,r7,q7⟩:=q7; exact ⟨x7,σ7,H7,I7.unpinned,r7,q7⟩
end
end L2
namespace L2
open PySem PySem.Spec PyProof.Rows
abbrev R2:=V→V→Hp→VK→Prop
def OpR (X:Cx) (f:Value→Value→Sem Value) (r:R2):Prop :=
 ∀ (pins:List (Addr × Obj)) (s:Shared) (σ:St) (H:Hp) (x y:V) (v u:Value) (Q:VK),Inv X pins σ H s→RelV x v→RelV y u→r x y H Q →
  wpAny (model X.prog X.w) X.A (f v u) (EP X pins σ Q) X.xe s
def UnR (X:Cx) (f:Value→Sem Value) (r:V→Hp→VK→Prop):Prop :=
 ∀ (pins:List (Addr × Obj)) (s:Shared) (σ:St) (H:Hp) (x:V) (v:Value) (Q:VK),Inv X pins σ H s→RelV x v→r x H Q →
  wpAny (model X.prog X.w) X.A (f v) (EP X pins σ Q) X.xe s
def CallR (X:Cx) (f:Value) (r:List V→Hp→VK→Prop):Prop :=
 ∀ (pins:List (Addr × Obj)) (s:Shared) (σ:St) (H:Hp) (xs:List V) (us:List Value) (Q:VK),Inv X pins σ H s→Vals xs us→r xs H Q →
  wpAny (model X.prog X.w) X.A (call f us) (EP X pins σ Q) X.xe s
def TruR (X:Cx) (r:V→Hp→(Bool→Hp→Prop)→Prop):Prop :=
 ∀ (pins:List (Addr × Obj)) (s:Shared) (σ:St) (H:Hp) (x:V) (v:Value) (Q:Bool→Hp→Prop),Inv X pins σ H s→RelV x v→r x H Q →
  wpAny (model X.prog X.w) X.A (truthy v) (TP X pins σ Q) X.xe s
def tOp (r:R2) (ta tb:TE):TE:=fun σ H Q=>ta σ H fun x H1=>tb σ H1 fun y H2=>r x y H2 Q
def tUn (r:V→Hp→VK→Prop) (ta:TE):TE:=fun σ H Q=>ta σ H fun x H1=>r x H1 Q
def rI (C:Int→Int→Prop) (g:Int→Int→V):R2:=fun x y H Q=>∃ i j,x=.int i∧y=.int j∧C i j∧Q (g i j) H
def rI0 (g:Int→Int→V):R2:=fun x y H Q=>∃ i j,x=.int i∧y=.int j∧Q (g i j) H
def rU (g:Int→V):V→Hp→VK→Prop:=fun x H Q=>∃ i,x=.int i∧Q (g i) H
section
variable {X:Cx} {a b c:Expr} {ta tb tc:TE} {pos:Pos}
theorem binT (ha:PE X a ta) (hb:PE X b tb) {pins:List (Addr × Obj)} {s:Shared} {σ:St} {H:Hp} {R:V→V→Hp→Prop} (I:Inv X pins σ H s)
  (h:ta σ H fun x H1=>tb σ H1 fun y H2=>R x y H2) {Q:Value→Shared→Prop} {f:Value→Value→Sem Value}
  (hf:∀ v u s2 x y H2,Inv X pins σ H2 s2→RelV x v→RelV y u→R x y H2→wpAny (model X.prog X.w) X.A (f v u) Q X.xe s2) :
  wpAny (model X.prog X.w) X.A (eval a X.env) (fun v s₁=>wpAny (model X.prog X.w) X.A (eval b X.env) (fun u s₂=>wpAny (model X.prog X.w) X.A (f v u) Q X.xe s₂) X.xe s₁) X.xe s:=by
 refine thn (ha pins s σ H _ I h) fun v s1 ⟨x,H1,I1,r1,q1⟩=>?_
 refine thn (hb pins s1 σ H1 _ I1 q1) fun u s2 ⟨y,H2,I2,r2,q2⟩=>?_
 exact hf v u s2 x y H2 I2 r1 r2 q2
theorem pe_op {op:Operator} {r:R2} (ho:OpR X (binaryOp op) r) (ha:PE X a ta) (hb:PE X b tb):PE X (.BinOp a op b pos) (tOp r ta tb):=by
 intro pins s σ H Q I h
 exact wpAny_BinOp (binT ha hb I h fun v u s2 x y H2 I2 rx ry q=>ho pins s2 σ H2 x y v u Q I2 rx ry q)
theorem pe_un {op:UnaryOp} {r:V→Hp→VK→Prop} (ho:UnR X (unaryOp op) r) (ha:PE X a ta):PE X (.UnaryOp op a pos) (tUn r ta):=by
 intro pins s σ H Q I h
 exact UnaryOp_ (thn (ha pins s σ H _ I h) fun v s1 hq46=>by obtain ⟨x,H1,I1,r1,q1⟩:=hq46; exact ho pins s1 σ H1 x v Q I1 r1 q1)
theorem opI {f:Value→Value→Sem Value} {C:Int→Int→Prop} {g:Int→Int→Int}
  (rule:∀ (i j:Int) (t u:Tok) (s:Shared) (Q:Value→Shared→Prop) (E:Value→Shared→Prop),C i j→Q (.int (g i j) s.toks) { s with toks:=s.toks+1 }→wpAny (model X.prog X.w) X.A (f (.int i t) (.int j u)) Q E s) :
  OpR X f (rI C fun i j=>.int (g i j)):=by
 intro pins s σ H x y v u Q I rx ry h
 obtain ⟨i,j,rfl,rfl,hc,q⟩:=h
 obtain ⟨t,rfl⟩:=rx
 obtain ⟨t',rfl⟩:=ry
 exact rule i j t t' s _ _ hc ⟨.int (g i j),H,I.tok _,⟨_,rfl⟩,q⟩
theorem opI0 {f:Value→Value→Sem Value} {g:Int→Int→Int}
  (rule:∀ (i j:Int) (t u:Tok) (s:Shared) (Q:Value→Shared→Prop) (E:Value→Shared→Prop),Q (.int (g i j) s.toks) { s with toks:=s.toks+1 }→wpAny (model X.prog X.w) X.A (f (.int i t) (.int j u)) Q E s) :
  OpR X f (rI0 fun i j=>.int (g i j)):=by
 intro pins s σ H x y v u Q I rx ry h
 obtain ⟨i,j,rfl,rfl,q⟩:=h
 obtain ⟨t,rfl⟩:=rx
 obtain ⟨t',rfl⟩:=ry
 exact rule i j t t' s _ _ ⟨.int (g i j),H,I.tok _,⟨_,rfl⟩,q⟩
theorem opB0 {f:Value→Value→Sem Value} {g:Int→Int→Bool}
  (rule:∀ (i j:Int) (t u:Tok) (s:Shared) (Q:Value→Shared→Prop) (E:Value→Shared→Prop),Q (.bool (g i j)) s→wpAny (model X.prog X.w) X.A (f (.int i t) (.int j u)) Q E s) :
  OpR X f (rI0 fun i j=>.bl (g i j)):=by
 intro pins s σ H x y v u Q I rx ry h
 obtain ⟨i,j,rfl,rfl,q⟩:=h
 obtain ⟨t,rfl⟩:=rx
 obtain ⟨t',rfl⟩:=ry
 exact rule i j t t' s _ _ ⟨.bl (g i j),H,I,rfl,q⟩
def CPow (i j:Int):Prop:=0≤j∧j≤1000000∧i.natAbs < 2 ^ 64
def CMul (i j:Int):Prop:=(-(2 ^ 64) < i∧i < 2 ^ 64)∨(-(2 ^ 64) < j∧j < 2 ^ 64)
theorem CMul.ok {i j:Int} (h:CMul i j):IntMulOk i j:=by
 rcases h with ⟨h1,h2⟩ | ⟨h1,h2⟩
 ·exact .of_left (intBits_le_64 h1 h2)
 ·exact .of_right (intBits_le_64 h1 h2)
theorem op_add:OpR X (binaryOp .Add) (rI0 fun i j=>.int (i+j)):=opI0 fun _ _ _ _ _ _ _ q=>add_int q
theorem op_sub:OpR X (binaryOp .Sub) (rI0 fun i j=>.int (i - j)):=opI0 fun _ _ _ _ _ _ _ q=>sub_int q
theorem op_mul:OpR X (binaryOp .Mult) (rI CMul fun i j=>.int (i * j)):=opI fun _ _ _ _ _ _ _ hc q=>mul_int q hc.ok
theorem op_mod:OpR X (binaryOp .Mod) (rI (fun _ j=>0 < j) fun i j=>.int (i % j)):=opI fun i j _ _ _ _ _ hc q=>by
 have h1:(0:Int) < j:=hc
 exact mod_int' (by lia) (by rw [Int.fmod_eq_emod_of_nonneg i (by lia)]; exact q)
theorem op_pow:OpR X (binaryOp .Pow) (rI CPow fun i j=>.int (i ^ j.toNat)):=opI fun _ _ _ _ _ _ _ hc q=>pow_int_small hc.1 hc.2.1 hc.2.2 q
theorem unI {f:Value→Sem Value} {g:Int→Int}
  (rule:∀ (i:Int) (t:Tok) (s:Shared) (Q:Value→Shared→Prop) (E:Value→Shared→Prop),Q (.int (g i) s.toks) { s with toks:=s.toks+1 }→wpAny (model X.prog X.w) X.A (f (.int i t)) Q E s) :
  UnR X f (rU fun i=>.int (g i)):=by
 intro pins s σ H x v Q I rx h
 obtain ⟨i,rfl,q⟩:=h
 obtain ⟨t,rfl⟩:=rx
 exact rule i t s _ _ ⟨.int (g i),H,I.tok _,⟨_,rfl⟩,q⟩
theorem un_neg:UnR X (unaryOp .USub) (rU fun i=>.int (-i)):=unI fun _ _ _ _ _ q=>neg_int q
end
section
variable {X:Cx} {a b c:Expr} {ta tb tc:TE} {pos:Pos}
theorem fin_bl {pins:List (Addr × Obj)} {σ:St} {H:Hp} {s:Shared} {Q:VK} {k k':Bool} (I:Inv X pins σ H s) (q:Q (.bl k) H) (e:k=k'):EP X pins σ Q (.bool k') s:=by
 subst e
 exact ⟨.bl k,H,I,rfl,q⟩
theorem op_lt:OpR X (compareOp .Lt) (rI0 fun i j=>.bl (decide (i < j))):=opB0 fun _ _ _ _ _ _ _ q=>lt_int q
theorem op_le:OpR X (compareOp .LtE) (rI0 fun i j=>.bl (decide (i≤j))):=opB0 fun _ _ _ _ _ _ _ q=>le_int q
theorem op_gt:OpR X (compareOp .Gt) (rI0 fun i j=>.bl (decide (j < i))):=opB0 fun _ _ _ _ _ _ _ q=>gt_int q
theorem op_ge:OpR X (compareOp .GtE) (rI0 fun i j=>.bl (decide (j≤i))):=opB0 fun _ _ _ _ _ _ _ q=>ge_int q
theorem op_isN:OpR X (compareOp .Is) (fun x y H Q=>y=.non∧Q (.bl (decide (x=.non))) H):=by
 intro pins s σ H x y v u Q I rx ry h
 obtain ⟨rfl,q⟩:=h
 cases ry
 refine is_none_gen (fin_bl I q ?_)
 cases x <;> first
  | (cases rx; rfl)
  | (obtain ⟨t,rfl⟩:=rx; rfl)
theorem op_notN:OpR X (compareOp .IsNot) (fun x y H Q=>y=.non∧Q (.bl (!decide (x=.non))) H):=by
 intro pins s σ H x y v u Q I rx ry h
 obtain ⟨rfl,q⟩:=h
 cases ry
 refine isnot_none_gen (fin_bl I q ?_)
 cases x <;> first
  | (cases rx; rfl)
  | (obtain ⟨t,rfl⟩:=rx; rfl)
theorem nomark (b:Expr) {op:CmpOp} (h:op≠.In:=by decide) (h2:op≠.NotIn:=by decide):behindInMarks op b=false:=by
 have e1:(op == CmpOp.In)=false:=by cases op <;> first | rfl | exact absurd rfl h
 have e2:(op == CmpOp.NotIn)=false:=by cases op <;> first | rfl | exact absurd rfl h2
 cases b <;> simp [behindInMarks,e1,e2]
theorem pe_cmpR {op:CmpOp} {r:R2} (ho:OpR X (compareOp op) r) (ha:PE X a ta) (hb:PE X b tb) (hm:behindInMarks op b=false):PE X (.Compare a [op] [b] pos) (tOp r ta tb):=by
 intro pins s σ H Q I h
 exact wpAny_Compare1 (binT ha hb I h fun v u s2 x y H2 I2 rx ry q=>ho pins s2 σ H2 x y v u Q I2 rx ry q) hm
def tTest (t:TE):TT:=fun σ H Q=>t σ H fun x H'=>∃ k,x=.bl k∧Q k H'
theorem pt_cmpR {op:CmpOp} {r:R2} (ho:OpR X (compareOp op) r) (ha:PE X a ta) (hb:PE X b tb) (hm:behindInMarks op b=false):PT X (.Compare a [op] [b] pos) (tTest (tOp r ta tb)):=by
 intro pins s σ H Q I h
 refine wpAny_isTrue_Compare1 (thn (ha pins s σ H _ I h) fun v s1 ⟨x,H1,I1,r1,q1⟩=>thn (hb pins s1 σ H1 _ I1 q1) fun u s2 ⟨y,H2,I2,r2,q2⟩ =>
  thn (ho pins s2 σ H2 x y v u _ I2 r1 r2 q2) fun c s3 ⟨z,H3,I3,r3,k,e,q3⟩=>?_) hm
 subst e
 cases r3
 exact wpAny_truthy_bool ⟨H3,I3,q3⟩
def TruV (K:PySem.W.Frag) (x:V) (H:Hp) (k:Bool):Prop :=
 match x with
 | .non=>k=false
 | .bl b=>k=b
 | .int i=>k=(i != 0)
 | .str y=>y.length≤sizeLine∧k=((y.length:Int) != 0)
 | .byt y=>y.size≤sizeLine∧k=((y.size:Int) != 0)
 | .ref p=>(∃ xs,SqL K H p xs∧k=!xs.isEmpty)∨(∃ xs,SqT K H p xs∧k=!xs.isEmpty)∨∃ kvs,H p=some (.dK kvs)∧k=!kvs.isEmpty
 | _=>False
theorem isEmpty_kv {κ:Type} {kvs:List (κ × V)} {vs:List (κ × Value)} (r:KV kvs vs):(!vs.isEmpty)=!kvs.isEmpty:=by
 cases r <;> rfl
theorem isEmpty_of {xs:List V} {its:List Value} (r:Vals xs its):(!its.toArray.isEmpty)=!xs.isEmpty:=by
 cases r <;> simp
theorem line63:(sizeLine:Nat) < 2 ^ 63:=by rw [sizeLine_eq]; decide
theorem tru_ok:TruR X (fun x H Q=>∃ k,TruV X.K x H k∧Q k H):=by
 intro pins s σ H x v Q I rx h
 obtain ⟨k,e,q⟩:=h
 have hl:=line63
 have hs:sizeLine=16777216:=sizeLine_eq
 cases x with
 | non =>
  cases rx
  have e':k=false:=e
  subst e'
  exact truthy_none ⟨H,I,q⟩
 | bl b =>
  cases rx
  have e':k=b:=e
  subst e'
  exact wpAny_truthy_bool ⟨H,I,q⟩
 | int i =>
  obtain ⟨t,rfl⟩:=rx
  have e':k=(i != 0):=e
  subst e'
  exact PySem.P.truthy_int ⟨H,I,q⟩
 | str y =>
  obtain ⟨t,rfl⟩:=rx
  obtain ⟨hy,e'⟩:y.length≤sizeLine∧k=((y.length:Int) != 0):=e
  subst e'
  exact PySem.P.truthy_str (by lia) ⟨H,I.tok _,q⟩
 | byt y =>
  obtain ⟨t,rfl⟩:=rx
  obtain ⟨hy,e'⟩:y.size≤sizeLine∧k=((y.size:Int) != 0):=e
  subst e'
  exact PySem.W.truthy_bytes (by lia) ⟨H,I.tok _,q⟩
 | ref p =>
  cases rx
  have e':(∃ xs,SqL X.K H p xs∧k=!xs.isEmpty)∨(∃ xs,SqT X.K H p xs∧k=!xs.isEmpty)∨∃ kvs,H p=some (.dK kvs)∧k=!kvs.isEmpty:=e
  rcases e' with ⟨xs,hx,e'⟩ | ⟨xs,hx,e'⟩ | ⟨kvs,hx,e'⟩
  ·subst e'
   obtain ⟨its,r,pl,hz⟩:=I.list hx
   have hlen:=r.length
   exact wpAny_truthy_list pl.isList (by simp only [List.size_toArray]; lia) ⟨H,I.tok _,by rw [isEmpty_of r]; exact q⟩
  ·subst e'
   obtain ⟨its,r,pl,hz⟩:=I.tuple hx
   have hlen:=r.length
   exact truthy_tuple pl (by simp only [List.size_toArray]; lia) ⟨H,I.tok _,by rw [isEmpty_of r]; exact q⟩
  ·subst e'
   obtain ⟨hz,hS,vs,r,m⟩:kvs.length≤sizeLine∧(p == sysModules)=false∧∃ vs,KV kvs vs∧s.heap.DictOf (mixKind X.prog X.w) p vs:=I.hok p _ hx
   have hlen:kvs.length=vs.length:=Paired.length r
   exact wpAny_truthy_dict hS m (by lia) ⟨H,I.tok _,by rw [isEmpty_kv r]; exact q⟩
 | _=>exact (show False from e).elim
theorem pt_truth (ha:PE X a ta) (he:∀ whole,isTrue a X.env whole=(do let v ← whole; standAt a.pos; holding [v] (truthy v))) :
  PT X a (fun σ H Q=>ta σ H fun x H'=>∃ k,TruV X.K x H' k∧Q k H'):=by
 intro pins s σ H Q I h
 exact isTrue_plain (thn (ha pins s σ H _ I h) fun v s1 hq59=>by obtain ⟨x,H1,I1,r1,q1⟩:=hq59; exact tru_ok pins s1 σ H1 x v Q I1 r1 q1) (he _)
theorem vals1 {x:V} {us:List Value} (r:Vals [x] us):∃ u,us=[u]∧RelV x u:=by
 cases r with
 | cons r1 r2=>cases r2; exact ⟨_,rfl,r1⟩
theorem vals2 {x y:V} {us:List Value} (r:Vals [x,y] us):∃ u w',us=[u,w']∧RelV x u∧RelV y w':=by
 cases r with
 | cons r1 r2 =>
  cases r2 with
  | cons r3 r4=>cases r4; exact ⟨_,_,rfl,r1,r3⟩
theorem call_max2 (hc:X.calm=true):CallR X (.builtin "max") (fun xs H Q=>∃ i j,xs=[.int i,.int j]∧Q (.int (if j > i then j else i)) H):=by
 intro pins s σ H xs us Q I r h
 obtain ⟨i,j,rfl,q⟩:=h
 obtain ⟨u,w',rfl,⟨t,rfl⟩,⟨t',rfl⟩⟩:=vals2 r
 refine max_two_ints (I.ok.hd hc) fun h' tk k=>⟨_,H,I.kept k,?_,q⟩
 by_cases hj:j > i
 ·rw [if_pos hj,if_pos hj]; exact ⟨_,rfl⟩
 ·rw [if_neg hj,if_neg hj]; exact ⟨_,rfl⟩
theorem call_int1:CallR X (.type "int") (fun xs H Q=>(∃ i,xs=[.int i]∧Q (.int i) H)∨∃ k,xs=[.bl k]∧Q (.int (if k then 1 else 0)) H):=by
 intro pins s σ H xs us Q I r h
 rcases h with ⟨i,rfl,q⟩ | ⟨k,rfl,q⟩
 ·obtain ⟨u,rfl,t,rfl⟩:=vals1 r
  exact call_int_int ⟨.int i,H,I,⟨_,rfl⟩,q⟩
 ·obtain ⟨u,rfl,r1⟩:=vals1 r
  cases r1
  exact call_int_bool ⟨.int (if k then 1 else 0),H,I.tok _,⟨_,rfl⟩,q⟩
end
end L2
namespace L2
open PySem PySem.Spec PyProof.Rows
structure ObjM (h:Heap) (x dx C:Addr) (mA:Str→Option Value):Prop where
 obj:h.get? x=some (PySem.W.instObj C dx)
 ns:h.Ns1 dx mA
 ne:dx≠x
theorem lookIn_ns {h:Heap} {dx:Addr} {mA:Str→Option Value} (n:h.Ns1 dx mA):∃ od,h.get? dx=some od∧∀ name,PySem.W.lookIn name od=some (mA name):=by
 obtain ⟨o,es,ep,ho,hd,hk,_,hm⟩:=n
 refine ⟨o,ho,fun name=>?_⟩
 have e:=hm name
 unfold nsFind findBy at e
 rw [← Array.find?_toList] at e
 unfold PySem.W.lookIn
 rw [hd]
 dsimp only
 split
 ·rename_i y q
  rw [q] at e
  exact congrArg some e
 ·rename_i q
  rw [q] at e
  have a:es.toList.any (·.refKey)=false:=by
   rw [List.any_eq_false]
   intro y hy
   obtain ⟨z,t,hkey⟩:=hk y (Array.mem_toList_iff.mp hy)
   simp [DictEntry.refKey,hkey]
  have a':¬ es.toList.any (·.refKey)=true:=by rw [a]; exact Bool.false_ne_true
  rw [if_neg a']
  exact congrArg some e
theorem ObjM.look {h:Heap} {x dx C:Addr} {mA:Str→Option Value} (I:ObjM h x dx C mA):∃ od,PySem.W.InstAt h x (PySem.W.instObj C dx) C (some od)∧∀ name,PySem.W.lookIn name od=some (mA name) :=
 let ⟨od,ho,hl⟩:=lookIn_ns I.ns
 ⟨od,⟨I.obj,rfl,rfl,ho⟩,hl⟩
section
variable {prog:Program} {w:World} {A:Around} {E:Value→Shared→Prop} {s:Shared} {K:PySem.W.Frag} {x dx C f:Addr} {mA:Str→Option Value} {name:Str} {v:Value}
end
theorem RelO.some_of {v:V} {o:Option Value} (r:RelO (some v) o):∃ u,o=some u∧RelV v u:=by
 cases o with
 | none=>exact (show False from r).elim
 | some u=>exact ⟨u,rfl,r⟩
section
variable {P:Program} {w:World} {H H':Hp} {h h':Heap} {a C dx:Addr} {fs fs':List (Str × V)}
theorem ins_get (hok:HOk P w H h) (e:H a=some (.ins C dx fs)):∃ mA,ObjM h a dx C mA∧(∀ f,RelO (fs.lookup f) (mA f))∧PySem.Within mA (fs.map (·.1))∧fs.length≤1000∧H dx=some (.own a):=by
 obtain ⟨d,z,ne,ob,mA,n,r,q⟩:=(show ObjOk P w H h a (.ins C dx fs) from hok a _ e)
 exact ⟨mA,⟨ob,n,ne⟩,r,q,z,d⟩
end
structure Cls (K:PySem.W.Frag) (C:Addr):Prop where
 pg:PySem.W.plainGet K C Str.empty=true
 hd:PySem.W.hasDictIn K C=true
 po:PySem.W.plainOver K C=true
 sa:PySem.W.findIn K (.ref C) "__setattr__" = some (some (.builtin "object.__setattr__"))
theorem Cls.get {K:PySem.W.Frag} {C:Addr} (c:Cls K C) (f:Str):PySem.W.plainGet K C f=true:=c.pg
section
variable {X:Cx} {pins:List (Addr × Obj)} {σ:St} {H:Hp} {s:Shared} {a C dx:Addr} {fs:List (Str × V)} {f:Str} {v:V} {A:Around} {E:Value→Shared→Prop}
end
section
variable {X:Cx} {o e value:Expr} {f:Str} {pos pos' tpos:Pos} {ta tv:TE}
end
section
variable {X:Cx} {pins:List (Addr × Obj)} {σ:St} {H:Hp} {s:Shared} {A:Around} {E:Value→Shared→Prop} {Q:Value→Shared→Prop} {c:Value} {b:Bool}
inductive TyOf (K:PySem.W.Frag) (H:Hp):V→Value→Prop where
 | non:TyOf K H .non (.type "NoneType")
 | bl (x:Bool):TyOf K H (.bl x) (.type "bool")
 | int (i:Int):TyOf K H (.int i) (.type "int")
 | str (x:Str):TyOf K H (.str x) (.type "str")
 | flt (x:UInt64):TyOf K H (.flt x) (.type "float")
 | lst {a:Addr} {xs:List V} (e:H a=some (.lst xs)):TyOf K H (.ref a) (.type "list")
 | frz {a:Addr} {o:Obj} {xs:List V} (e:H a=some (.frz o (.lst xs))):TyOf K H (.ref a) (.type "list")
 | tup {a:Addr} {xs:List V} (e:H a=some (.tup xs)):TyOf K H (.ref a) (.type "tuple")
 | dK {a:Addr} {kvs:List (Key × V)} (e:H a=some (.dK kvs)):TyOf K H (.ref a) (.type "dict")
 | dT {a:Addr} {kvs:List (List Key × V)} (e:H a=some (.dT kvs)):TyOf K H (.ref a) (.type "dict")
 | ins {a C dx:Addr} {fs:List (Str × V)} (e:H a=some (.ins C dx fs)) (cl:Cls K C) (ha:PySem.W.findIn K (.ref C) "__class__" = some (some (.builtin "object.__class__")))
   (hn:PySem.W.specialIn K (.builtin "object.__class__") "__get__" = some (some (.builtin "getset_descriptor.__get__"))) (htk:PySem.W.takesIn K (.builtin "object.__class__")=some true)
   (hm:PySem.W.mroIn K C (.type "object")=some true):TyOf K H (.ref a) (.ref C)
theorem isinst_ok {x:V} {u t:Value} (I:Inv X pins σ H s) (rx:RelV x u) (ty:TyOf X.K H x t) (e:PySem.W.kitOne X.K t c=some b) (h:∀ tk,Q (.bool b) { s with toks:=tk }) :
  wpAny (model X.prog X.w) A (call (.builtin "isinstance") [u,c]) Q E s:=by
 cases ty with
 | non=>cases (show u=Value.none from rx); exact PySem.W.kia_one PySem.W.kitx_none I.kIn True.intro e (fun z=>nomatch z) h
 | bl y=>cases (show u=Value.bool y from rx); exact PySem.W.kia_one PySem.W.kitx_bool I.kIn True.intro e (fun z=>nomatch z) h
 | int i=>obtain ⟨t,q⟩:=(show ∃ t,u=Value.int i t from rx); cases q; exact PySem.W.kia_one PySem.W.kitx_int I.kIn True.intro e (fun z=>nomatch z) h
 | str y=>obtain ⟨t,q⟩:=(show ∃ t,u=Value.str y t from rx); cases q; exact PySem.W.kia_one PySem.W.kitx_str I.kIn True.intro e (fun z=>nomatch z) h
 | flt y=>obtain ⟨t,q⟩:=(show ∃ t,u=Value.float y t from rx); cases q; exact PySem.W.kia_one PySem.W.kitx_float I.kIn True.intro e (fun z=>nomatch z) h
 | @lst a xs ea =>
  cases (show u=Value.ref a from rx)
  obtain ⟨_,_,n,_,h1⟩:=(show ObjOk X.prog X.w H s.heap a (.lst xs) from I.hok a _ ea)
  exact PySem.W.kia_one PySem.W.kitx_list I.kIn ⟨_,h1,rfl⟩ e (fun z=>nomatch z) h
 | @frz a ob xs ea =>
  cases (show u=Value.ref a from rx)
  obtain ⟨_,_,_,n,_,h1⟩:=(show ObjOk X.prog X.w H s.heap a (.frz ob (.lst xs)) from I.hok a _ ea)
  exact PySem.W.kia_one PySem.W.kitx_list I.kIn ⟨_,h1,rfl⟩ e (fun z=>nomatch z) h
 | @tup a xs ea =>
  cases (show u=Value.ref a from rx)
  obtain ⟨_,_,_,p⟩:=(show ObjOk X.prog X.w H s.heap a (.tup xs) from I.hok a _ ea)
  obtain ⟨o,h1,h2,_⟩:=p
  exact PySem.W.kia_one PySem.W.kitx_tuple I.kIn ⟨o,h1,h2⟩ e (fun z=>nomatch z) h
 | @dK a kvs ea =>
  cases (show u=Value.ref a from rx)
  obtain ⟨_,_,vs,_,p⟩:=(show ObjOk X.prog X.w H s.heap a (.dK kvs) from I.hok a _ ea)
  obtain ⟨o,es,ep,h1,h2,_⟩:=p
  exact PySem.W.kia_one PySem.W.kitx_dict I.kIn ⟨o,h1,h2.1⟩ e (fun z=>nomatch z) h
 | @dT a kvs ea =>
  cases (show u=Value.ref a from rx)
  obtain ⟨_,_,xs,_,o,es,ep,h1,h2,_⟩:=(show ObjOk X.prog X.w H s.heap a (.dT kvs) from I.hok a _ ea)
  exact PySem.W.kia_one PySem.W.kitx_dict I.kIn ⟨o,h1,h2.1⟩ e (fun z=>nomatch z) h
 | @ins a C dx fs ea cl ha hn htk hm =>
  cases (show u=Value.ref a from rx)
  obtain ⟨mA,O,_⟩:=ins_get I.hok ea
  obtain ⟨od,J,_⟩:=O.look
  exact PySem.W.kia_one (PySem.W.kitx_own (cl.get _) cl.hd ha hn htk hm) I.kIn J e (fun z=>nomatch z) h
end
end L2
namespace L2
open PySem PySem.Spec PyProof.Rows
structure Room (k:Nat) (A:Around):Prop where
 hd:A.handled=none
 dp:A.depth+3 * k+5 < recursionLimit
 un:A.units+16 * k+200 < cLine
theorem Room.mono {j k:Nat} {A:Around} (r:Room k A) (h:j≤k):Room j A:=⟨r.hd,by have:=r.dp; lia,by have:=r.un; lia⟩
theorem Room.deeper {k:Nat} {A:Around} (r:Room (k+1) A) (env:Env):Room k (A.deeper env) :=
 ⟨r.hd,by have:=r.dp; show A.depth+1+3 * k+5 < _; lia,by have:=r.un; show A.units+3+16 * k+200 < _; lia⟩
theorem Room.depth {k:Nat} {A:Around} (r:Room k A):A.depth < recursionLimit:=by have:=r.dp; lia
theorem Room.units {k:Nat} {A:Around} (r:Room k A):A.units+64 < cLine:=by have:=r.un; lia
def tNil:TA:=fun _ H Q=>Q [] H
def tCons (ta:TE) (tr:TA):TA:=fun σ H Q=>ta σ H fun x H1=>tr σ H1 fun xs H2=>Q (x::xs) H2
section
variable {X:Cx} {e:Expr} {es:List Expr} {te:TE} {t:TA} {pos:Pos}
theorem pa_nil:PA X [] tNil:=fun _ _ _ _ H Q I h=>Calls.spliced_nil ⟨[],H,I,.nil,h⟩
theorem pa_cons (ha:PE X e te) (hr:PA X es t) (hs:starEach (e::es) X.env=(false,eval e X.env)::starEach es X.env:=by rfl):PA X (e::es) (tCons te t):=by
 intro pos pins s σ H Q I h
 rw [hs]
 show wpAny _ _ (spliced ((false,eval e X.env)::backTo pos (starEach es X.env))) _ _ s
 refine Calls.spliced_cons (thn (ha pins s σ H _ I h) fun u s1 ⟨x,H1,I1,r1,q1⟩=>?_)
 exact thn (hr pos pins s1 σ H1 _ I1 q1) fun us s2 ⟨xs,H2,I2,r2,q2⟩=>⟨x::xs,H2,I2,.cons r1 r2,q2⟩
def tTup (t:TA):TE:=fun σ H Q=>t σ H fun xs H1=>xs.length≤sizeLine∧∀ p,H1 p=none→Q (.ref p) (upd H1 p (.tup xs))
def tLst (t:TA):TE:=fun σ H Q=>t σ H fun xs H1=>xs.length≤sizeLine∧∀ p,H1 p=none→Q (.ref p) (upd H1 p (.lst xs))
theorem pe_tup {x1} (h:PA X es t):PE X (.Tuple es x1 pos) (tTup t):=by
 intro pins s σ H Q I hq
 refine wpAny_Tuple_spliced (thn (h pos pins s σ H _ I hq) fun us s1 ⟨xs,H1,I1,r,z,q⟩=>⟨by rw [← r.length]; exact z,?_⟩)
 have hf:H1 s1.heap.objs.size=none:=I1.hok.fresh (Nat.le_refl _)
 refine ⟨.ref s1.heap.objs.size,upd H1 s1.heap.objs.size (.tup xs),I1.laid (t':=s1.toks) (fun b u e=>Heap.get?_push_of_some _ e) (Nat.le_refl _) ?_,rfl,q _ hf⟩
 exact ⟨z,us,r,⟨_,Heap.get?_push_size _ rfl,rfl,_,rfl⟩⟩
theorem pe_lst (h:PA X es t):PE X (.List es pos) (tLst t):=by
 intro pins s σ H Q I hq
 refine wpAny_List_spliced (thn (h pos pins s σ H _ I hq) fun us s1 ⟨xs,H1,I1,r,z,q⟩=>⟨by rw [← r.length]; exact z,?_⟩)
 have hf:H1 s1.heap.objs.size=none:=I1.hok.fresh (Nat.le_refl _)
 refine ⟨.ref s1.heap.objs.size,upd H1 s1.heap.objs.size (.lst xs),I1.laid (t':=s1.toks) (fun b u e=>Heap.get?_push_of_some _ e) (Nat.le_refl _) ?_,rfl,q _ hf⟩
 exact ⟨z,us,0,r,Heap.get?_push_size _ rfl⟩
end
abbrev Sp:=List V→Hp→VK→XK→Prop
abbrev CXT:=List Env→Hp→Shared→XK→Value→Shared→Prop
structure Env0 (P:Program) (w:World) (K:PySem.W.Frag) (mg:Str→Option Value) (base:Heap) (A:Around) (outer:List Env) (s:Shared) (H:Hp):Prop where
 frames:A.frames=some outer
 mod:Mod K mg base
 bs:∀ b o,base.get? b=some o→s.heap.get? b=some o∧H b=none
 bsz:base.objs.size≤s.heap.objs.size
 funs:s.heap.FunFrames base outer
 frf:∀ b ∈ frs outer,H b=none
 hok:HOk P w H s.heap
 bare:AllBare s.gens
def CE (outer:List Env) (P:Program) (w:World) (H:Hp) (s:Shared) (Q:VK) (u:Value) (s':Shared):Prop :=
 ∃ v H',s'.os=s.os∧AllBare s'.gens∧Un (frs outer) [] H H' s.heap s'.heap∧HOk P w H' s'.heap∧RelV v u∧Q v H'
def CR (CX:CXT) (outer:List Env) (P:Program) (w:World) (H:Hp) (s:Shared) (Q:VK) (E:XK) (r:Result) (s':Shared):Prop :=
 match r with
 | .ok (.ret u)=>CE outer P w H s Q u s'
 | .ok _=>False
 | .error e=>CX outer H s E e s'
structure FnOk (P:Program) (w:World) (K:PySem.W.Frag) (mg:Str→Option Value) (base:Heap) (CX:CXT) (k:Nat) (f:Addr) (fd:FuncData) (ps:List Str) (sp:Sp):Prop where
 len:∀ vs H Q E,sp vs H Q E→vs.length=ps.length
 run:∀ (A:Around) (outer:List Env) (s:Shared) (H:Hp) (args:Args) (us:List Value) (vs:List V) (Q:VK) (E:XK),Room k A→Env0 P w K mg base A outer s H→BindsTo s fd args (ps.zip us)→Vals vs us→sp vs H Q E →
  codeAny (model P w) A (.call (.ref f) args) (CR CX outer P w H s Q E) s
section
variable {X:Cx} {pins:List (Addr × Obj)} {σ:St} {H:Hp} {s s':Shared}
theorem Inv.env0 (I:Inv X pins σ H s):Env0 X.prog X.w X.K X.mg X.base X.A X.stack s H :=
 ⟨I.ok.frames,I.ok.mod,I.bs,Nat.le_trans I.ok.bsz I.sz,I.stack,I.stkFree,I.hok,I.bare⟩
theorem Inv.after {Q:VK} {u:Value} (I:Inv X pins σ H s) (h:CE X.stack X.prog X.w H s Q u s'):EP X pins σ Q u s':=by
 obtain ⟨v,H',os,bare,un,hok,r,q⟩:=h
 obtain ⟨hh,g,d,t,os'⟩:=s'
 obtain rfl:os'=s.os:=os
 exact ⟨v,H',I.call (h':=hh) (g':=g) (d':=d) (t':=t) (ch:=[]) un hok bare (fun b z=>absurd z (by simp)),r,q⟩
end
def tCall (sp:Sp) (dvs:List V) (E:XK) (t:TA):TE:=fun σ H Q=>t σ H fun vs H1=>sp (vs++dvs) H1 Q E
def Binds (K:PySem.W.Frag) (fd:FuncData) (ps:List Str) (ds:List Value):Prop :=
 ∀ (s:Shared) (us:List Value),K.In s.heap→(us++ds).length=ps.length→BindsTo s fd ⟨us,[]⟩ (ps.zip (us++ds))
theorem Binds.all {K:PySem.W.Frag} {fd:FuncData} {ps:List Str} (h:∀ us:List Value,us.length=ps.length→bindArgs fd ⟨us,[]⟩=pure (ps.zip us)):Binds K fd ps []:=fun s us _ hl=>by
 rw [List.append_nil] at hl ⊢
 exact .of_eq (h us hl)
def Passes (CX:CXT) (X:Cx) (E:XK):Prop:=∀ (pins:List (Addr × Obj)) (σ:St) (H:Hp) (s:Shared) (e:Value) (s':Shared),Inv X pins σ H s→CX X.stack H s E e s'→X.xe e s'
section
variable {X:Cx} {CX:CXT} {k:Nat} {f C:Addr} {fd:FuncData} {ps:List Str} {sp:Sp} {dvs:List V} {ds:List Value} {E:XK} {x m:Str} {p pos apos:Pos} {e o:Expr} {es:List Expr} {ta:TE} {t:TA}
theorem run_fn {pins:List (Addr × Obj)} {σ:St} {H:Hp} {s:Shared} {Q:VK} {us:List Value} {vs:List V} (F:FnOk X.prog X.w X.K X.mg X.base CX k f fd ps sp) (hr:Room k X.A) (hb:Binds X.K fd ps ds) (hd:Vals dvs ds) (hx:Passes CX X E)
  (I:Inv X pins σ H s) (r:Vals vs us) (h:sp (vs++dvs) H Q E):wpAny (model X.prog X.w) X.A (call (.ref f) us) (EP X pins σ Q) X.xe s:=by
 have r2:Vals (vs++dvs) (us++ds):=r.append hd
 have hl:(us++ds).length=ps.length:=by rw [← r2.length]; exact F.len _ _ _ _ h
 refine wpAny_call (codeAny_mono (F.run X.A X.stack s H ⟨us,[]⟩ (us++ds) (vs++dvs) Q E hr I.env0 (hb s us I.kIn hl) r2 h) fun r s' hq=>?_)
 cases r with
 | error e=>exact hx pins σ H s e s' I hq
 | ok fl =>
  cases fl with
  | ret u=>exact I.after hq
  | next=>exact False.elim hq
  | brk=>exact False.elim hq
  | cont=>exact False.elim hq
theorem pe_call (F:FnOk X.prog X.w X.K X.mg X.base CX k f fd ps sp) (hr:Room k X.A) (hg:Gl X x) (hm:X.mg x=some (.ref f)) (hk:PySem.W.keepIn X.K (.ref f)=true) (hb:Binds X.K fd ps ds) (hd:Vals dvs ds) (hx:Passes CX X E)
  (ha:PA X (e::es) t) (hdb:(x == ("__debug__" : Str))=false:=by decide) (he:starEach (e::es) X.env=(false,eval e X.env)::starEach es X.env:=by rfl) (hpl:(backTo pos (starEach es X.env)).any (·.1)=false:=by rfl) :
  PE X (.Call (.Name x p) (e::es) [] pos) (tCall sp dvs E t):=by
 intro pins s σ H Q I h
 refine wpAny_Call_Name_kw (ld_glob I hg hm ?_ hdb)
 refine PySem.W.callWith_K (h₀:=X.base) I.ok.mod.kin hk (thn (ha pos pins s σ H _ I h) fun us s1 ⟨vs,H1,I1,r,q⟩=>⟨I1.kIn,?_⟩) he hpl
 exact run_fn F hr hb hd hx I1 r q
end
section
variable {X:Cx} {CX:CXT} {k:Nat} {f C:Addr} {fd:FuncData} {ps ks:List Str} {sp:Sp} {E:XK} {x m:Str} {p pos apos kpos:Pos} {e o:Expr} {es:List Expr} {kws:List Keyword} {te ta:TE} {t tk:TA} {nm:Option Str}
variable {g:List Value→List Value→List Value} {gV:List V→List V→List V}
end
structure FnScope (N P:List Str) (sc:Scope):Prop where
 kind:sc.kind=.function
 co:sc.isCoroutine=false
 gen:sc.isGenerator=false
 nd:N.Nodup
 pre:N.take P.length=P
 par:∀ x ∈ P,sc.names.lookup x=some .local∨sc.names.lookup x=some .cell
 nofree:∀ y ∈ sc.names,y.2≠.free
theorem bindL_out {kindOf:Str→Option NameKind} {x:Str}:∀ {binds:List (Str × Value)} {m:Str→Option Value},(∀ v,(x,v) ∉ binds)→bindL kindOf binds m x=m x
 | [],_,_=>rfl
 | (n,v)::r,m,h=>by
  unfold bindL
  rw [bindL_out fun w hw=>h w (List.mem_cons_of_mem _ hw)]
  split
  ·have:x≠n:=by rintro rfl; exact h v List.mem_cons_self
   simp [this]
  ·rfl
theorem bindC_out {kindOf:Str→Option NameKind} {x:Str}:∀ {binds:List (Str × Value)} {m:Str→Option Value},(∀ v,(x,v) ∉ binds)→bindC kindOf binds m x=m x
 | [],_,_=>rfl
 | (n,v)::r,m,h=>by
  unfold bindC
  rw [bindC_out fun w hw=>h w (List.mem_cons_of_mem _ hw)]
  split
  ·rfl
  ·have:x≠n:=by rintro rfl; exact h v List.mem_cons_self
   simp [this]
theorem bindL_get {kindOf:Str→Option NameKind} {x:Str} {v:Value}:∀ {P:List Str} {vs:List Value} {i:Nat} {m:Str→Option Value},P.Nodup→P[i]?=some x→vs[i]?=some v→kindOf x=some .local →
  bindL kindOf (P.zip vs) m x=some v
 | [],_,_,_,_,h,_,_=>by simp at h
 | _::_,[],_,_,_,_,h,_=>by simp at h
 | p::P,w::vs,0,m,nd,h1,h2,hk=>by
  simp at h1 h2; subst h1; subst h2
  show bindL kindOf ((p,w)::P.zip vs) m p=_
  unfold bindL
  rw [bindL_out fun v hv=>(List.nodup_cons.mp nd).1 (List.of_mem_zip hv).1,if_pos hk]
  simp
 | p::P,w::vs,i+1,m,nd,h1,h2,hk=>by
  show bindL kindOf ((p,w)::P.zip vs) m x=_
  unfold bindL
  exact bindL_get (i:=i) (List.nodup_cons.mp nd).2 (by simpa using h1) (by simpa using h2) hk
theorem bindC_get {kindOf:Str→Option NameKind} {x:Str} {v:Value}:∀ {P:List Str} {vs:List Value} {i:Nat} {m:Str→Option Value},P.Nodup→P[i]?=some x→vs[i]?=some v→kindOf x≠some .local →
  bindC kindOf (P.zip vs) m x=some v
 | [],_,_,_,_,h,_,_=>by simp at h
 | _::_,[],_,_,_,_,h,_=>by simp at h
 | p::P,w::vs,0,m,nd,h1,h2,hk=>by
  simp at h1 h2; subst h1; subst h2
  show bindC kindOf ((p,w)::P.zip vs) m p=_
  unfold bindC
  rw [bindC_out fun v hv=>(List.nodup_cons.mp nd).1 (List.of_mem_zip hv).1,if_neg hk]
  simp
 | p::P,w::vs,i+1,m,nd,h1,h2,hk=>by
  show bindC kindOf ((p,w)::P.zip vs) m x=_
  unfold bindC
  exact bindC_get (i:=i) (List.nodup_cons.mp nd).2 (by simpa using h1) (by simpa using h2) hk
def start (N:List Str) (vs:List V):St:=vs.map some++List.replicate (N.length - vs.length) none
def cxOf (CX:CXT) (P:Program) (w:World) (K:PySem.W.Frag) (mg:Str→Option Value) (base:Heap) (N:List Str) (qual:Str) (scope:Scope) (f:Addr) (cd:Value) (A:Around) (outer:List Env) (s:Shared) (H:Hp) (E:XK):Cx where
 prog:=P
 w:=w
 K:=K
 mg:=mg
 base:=base
 A:=A.deeper (envOfC qual scope s.heap.objs.size f cd)
 N:=N
 s₀:=s
 H₀:=H
 env:=envOfC qual scope s.heap.objs.size f cd
 outer:=outer
 stack:=envOfC qual scope s.heap.objs.size f cd::outer
 ex:=[]
 calm:=true
 fn:=fun _=>true
 pn:=[]
 xe:=fun e s'=>wpAny (model P w) (A.deeper (envOfC qual scope s.heap.objs.size f cd)) (leaving (envOfC qual scope s.heap.objs.size f cd) e) (fun _ s''=>CX outer H s E e s'') (fun e' s''=>CX outer H s E e' s'') s'
theorem cell_has {sc:Scope} {n:Nat} {x:Str} (h:sc.names.lookup x=some .cell):∃ c,(cellsFrom n sc.names []).lookup x=some c:=by
 have q:=PySem.W.cellsFrom_some sc.names n [] (.inl h)
 exact Option.isSome_iff_exists.mp q
theorem inv_start {CX:CXT} {P:Program} {w:World} {K:PySem.W.Frag} {mg:Str→Option Value} {base:Heap} {N ps:List Str} {qual:Str} {scope:Scope} {f:Addr} {cd:Value} {A:Around} {outer:List Env} {s s1:Shared} {H:Hp} {E:XK} {us:List Value} {vs:List V}
  (S:FnScope N ps scope) (hd:A.handled=none) (e0:Env0 P w K mg base A outer s H) (hl:vs.length=ps.length) (r:Vals vs us)
  (x:InCallC s s.heap.objs.size (bindL (envOfC qual scope s.heap.objs.size f cd).kindOf (ps.zip us) fun _=>none) (cellsFrom (s.heap.objs.size+1) scope.names []) (bindC (envOfC qual scope s.heap.objs.size f cd).kindOf (ps.zip us) fun _=>none) s1) :
  Inv (cxOf CX P w K mg base N qual scope f cd A outer s H E) [] (start N vs) H s1:=by
 have hpl:ps.length≤N.length:=by have:=congrArg List.length S.pre; rw [List.length_take] at this; lia
 obtain ⟨h1,tk,rfl,hk⟩:=x.done
 have noA:∀ b:Addr,b ∉ (cxOf CX P w K mg base N qual scope f cd A outer s H E).ex:=fun b z=>absurd (show b ∈ ([]:List Addr) from z) (by simp)
 refine ⟨⟨e0.mod,S.kind,rfl,rfl,Nat.le_refl _,fun y z c h1 h2=>?_,fun y hy=>?_,fun y c _ h=>?_,fun _=>hd,Around.frames_deeper e0.frames,.inr ⟨rfl,rfl⟩,fun b z=>absurd z (noA b),e0.bs,e0.bsz,fun b _ _=>noA b,fun b z=>absurd z (noA b),e0.funs,e0.frf⟩,
  rfl,e0.bare,Un.kept hk,⟨_,x.toInCall.ns,fun i y v h1 h2 h3=>?_⟩,fun y c h=>⟨_,x.cell y c h⟩,e0.hok.fresh (Nat.le_refl _),fun y c h=>?_,fun p hp=>absurd (show p ∈ ([]:List (Addr × Obj)) from hp) (by simp),e0.hok.kept hk,?_⟩
 ·exact name_of_addr x.apart (PySem.mem_of_lookup h1) (PySem.mem_of_lookup h2)
 ·have hy:scope.names.lookup y=some .cell∨scope.names.lookup y=some .free:=hy
  rcases hy with hy | hy
  ·exact cell_has hy
  ·exact absurd rfl (S.nofree _ (PySem.mem_of_lookup hy))
 ·exact Nat.le_of_lt (x.above y c (PySem.mem_of_lookup h))
 ·have hi:i < vs.length:=by
   unfold start at h2
   by_cases hi:i < vs.length
   ·exact hi
   ·rw [List.getElem?_append_right (by simpa using hi)] at h2
    rw [List.getElem?_replicate] at h2
    split at h2 <;> cases h2
  have ha:vs[i]?=some v:=by
   unfold start at h2
   rw [List.getElem?_append_left (by simpa using hi),List.getElem?_map] at h2
   cases e:vs[i]? with
   | none=>rw [e] at h2; cases h2
   | some a=>rw [e] at h2; cases h2; rfl
  obtain ⟨u,hu,rv⟩:=r.get ha
  have hp:ps[i]?=some y:=by
   rw [← S.pre,List.getElem?_take_of_lt (by lia)]; exact h1
  have ndP:ps.Nodup:=by rw [← S.pre]; exact S.nd.sublist (List.take_sublist _ _)
  refine ⟨u,rv,?_⟩
  rcases S.par y (List.mem_of_getElem? hp) with k | k
  ·exact .inl ⟨k,bindL_get ndP hp hu k⟩
  ·obtain ⟨c,e⟩:=cell_has (n:=s.heap.objs.size+1) k
   refine .inr ⟨.inl k,c,e,?_⟩
   have q:=x.cell y c e
   rw [bindC_get ndP hp hu (by show scope.names.lookup y≠_; rw [k]; decide)] at q
   exact q
 ·exact e0.hok.fresh (Nat.le_of_lt (x.above y c (PySem.mem_of_lookup h)))
 ·unfold start
  show _=N.length
  rw [List.length_append,List.length_map,List.length_replicate]
  lia
theorem fn_of {CX:CXT} {P:Program} {w:World} {K:PySem.W.Frag} {mg:Str→Option Value} {base:Heap} {k:Nat} {f:Addr} {name qual:Str} {params:Arguments} {body:List Stmt} {scope:Scope} {dV kV doc pm cdv ct oc:Value} {an od:Option Addr}
  {osl:Array (Option Value)} {N ps:List Str} {sp:Sp} (lk:K.lookup f=some ⟨oc,od,.func (PySem.W.fnOf name qual params body scope dV kV doc pm an cdv ct),osl⟩) (hcd:PySem.W.codeIn K cdv qual=true) (S:FnScope N ps scope)
  (len:∀ vs H Q E,sp vs H Q E→vs.length=ps.length)
  (hbody:∀ (A:Around) (outer:List Env) (s:Shared) (H:Hp) (vs:List V) (Q:VK) (E:XK),Room k (A.deeper (envOfC qual scope s.heap.objs.size f cdv))→sp vs H Q E →
   ∃ t,PSs (cxOf CX P w K mg base N qual scope f cdv A outer s H E) body t∧t { nx:=fun _ H'=>Q .non H',rt:=Q } (start N vs) H) :
  FnOk P w K mg base CX (k+1) f (PySem.W.fnOf name qual params body scope dV kV doc pm an cdv ct) ps sp:=by
 refine ⟨len,fun A outer s H args us vs Q E hr e0 hb r hsp=>?_⟩
 have hl:=len _ _ _ _ hsp
 have KX:K.In s.heap:=e0.mod.kin.keeps fun b o e=>(e0.bs b o e).1
 have lim:s.heap.NoLimit:=e0.mod.nolimit.keeps fun b o e=>(e0.bs b o e).1
 have hkind:∀ y ∈ ps.zip us,scope.names.lookup y.1=some .local∨(scope.names.lookup y.1=some .cell∧((cellsFrom (s.heap.objs.size+1) scope.names []).lookup y.1).isSome=true):=fun hq81 hy=>by
  obtain ⟨n,v⟩:=hq81
  rcases S.par n (List.of_mem_zip hy).1 with q | q
  ·exact .inl q
  ·exact .inr ⟨q,PySem.W.cellsFrom_some _ _ _ (.inl q)⟩
 refine codeAny_call_function hr.depth (KX _ _ lk) rfl S.co S.gen rfl (PySem.W.codeRec_of KX hcd) (hb _ _ _ _ ?_)
 refine wpAny_newFunctionEnv_cells S.kind hkind fun env he s1 x=>?_
 subst he
 refine ⟨lim.keeps x.toInCall.keep,codeAny_func ?_⟩
 obtain ⟨t,ht,hq⟩:=hbody A outer s H vs Q E (hr.deeper _) hsp
 have I:Inv (cxOf CX P w K mg base N qual scope f cdv A outer s H E) [] (start N vs) H s1:=inv_start S hr.hd e0 hl r x
 refine wpAny_mono (ht [] s1 (start N vs) H _ I hq) (fun fl s' hs=>?_) fun e s' hs=>hs
 have fin:∀ {σ':St} {H':Hp} {v:V} {u:Value},Inv (cxOf CX P w K mg base N qual scope f cdv A outer s H E) [] σ' H' s'→RelV v u→Q v H'→CE outer P w H s Q u s' :=
  fun {σ' H' v u} J rv q=>⟨v,H',J.os,J.bare,J.base,J.hok,rv,q⟩
 cases fl with
 | ret u =>
  obtain ⟨v,σ',H',J,rv,q⟩:=hs
  exact fin J rv q
 | next =>
  obtain ⟨σ',H',J,q⟩:=hs
  exact fin (v:=V.non) (u:=Value.none) J rfl q
 | brk =>
  obtain ⟨_,_,_,q⟩:=hs
  exact False.elim q
 | cont =>
  obtain ⟨_,_,_,q⟩:=hs
  exact False.elim q
end L2
namespace L2
open PySem PySem.Spec PyProof.Rows
section
variable {X:Cx} {x:Str} {p pos:Pos} {e:Expr} {es:List Expr} {t:TA} {id T:String} {r:List V→Hp→VK→Prop}
def tCB (r:List V→Hp→VK→Prop) (t:TA):TE:=fun σ H Q=>t σ H fun vs H1=>r vs H1 Q
theorem pe_callB (hc:CallR X (.builtin id) r) (hg:Gl X x) (hm:X.mg x=none) (hv:bootBuiltins x=some (.builtin id)) (ha:PA X (e::es) t) (hn:x≠"__name__" := by decide) (hdb:(x == ("__debug__" : Str))=false:=by decide)
  (he:starEach (e::es) X.env=(false,eval e X.env)::starEach es X.env:=by rfl) (hpl:(backTo pos (starEach es X.env)).any (·.1)=false:=by rfl):PE X (.Call (.Name x p) (e::es) [] pos) (tCB r t):=by
 intro pins s σ H Q I h
 refine wpAny_Call_Name_kw (ld_blt I hg hm hv ?_ hn hdb)
 exact PyProof.Rows.callWith_builtin1 (thn (ha pos pins s σ H _ I h) fun us s1 hq82=>by obtain ⟨vs,H1,I1,r1,q1⟩:=hq82; exact hc pins s1 σ H1 vs us Q I1 r1 q1) he hpl
theorem pe_callTy (hc:CallR X (.type T) r) (hg:Gl X x) (hm:X.mg x=none) (hv:bootBuiltins x=some (.type T)) (ha:PA X (e::es) t) (hn:x≠"__name__" := by decide) (hdb:(x == ("__debug__" : Str))=false:=by decide)
  (he:starEach (e::es) X.env=(false,eval e X.env)::starEach es X.env:=by rfl) (hpl:(backTo pos (starEach es X.env)).any (·.1)=false:=by rfl):PE X (.Call (.Name x p) (e::es) [] pos) (tCB r t):=by
 intro pins s σ H Q I h
 refine wpAny_Call_Name_kw (ld_blt I hg hm hv ?_ hn hdb)
 exact PyProof.Rows.callWith_type1 (thn (ha pos pins s σ H _ I h) fun us s1 hq83=>by obtain ⟨vs,H1,I1,r1,q1⟩:=hq83; exact hc pins s1 σ H1 vs us Q I1 r1 q1) he hpl
end
end L2
namespace HT
open PySem PyProof.Rows
def lexLt:List Int→List Int→Bool
 | [],[]=>false
 | [],_::_=>true
 | _::_,[]=>false
 | x::xs,y::ys=>if x=y then lexLt xs ys else decide (x < y)
theorem lexLt_cons (x y:Int) (xs ys:List Int):lexLt (x::xs) (y::ys)=if x=y then lexLt xs ys else decide (x < y):=rfl
theorem lexLt_nil_nil:lexLt [] []=false:=rfl
theorem lexLt_nil_cons (y:Int) (ys:List Int):lexLt [] (y::ys)=true:=rfl
theorem lexLt_cons_nil (x:Int) (xs:List Int):lexLt (x::xs) []=false:=rfl
theorem eqAt_int (A:Around) (s:Shared) (a:Int) (t:Tok) (c:Int) (u:Tok):∃ e,SeqAt.EqAt A s (.int a t) (.int c u) e∧(e=true ↔ a=c) :=
 ⟨(a == c),SeqAt.EqAt.int_int a t c u,by simp⟩
theorem rcLt_int (A:Around) (s:Shared) (a:Int) (t:Tok) (c:Int) (u:Tok) (prog:Program) (w:World) (E:Value→Shared→Prop) (Q:Value→Shared→Prop) (h:Q (.bool (decide (a < c))) s) :
  wpAny (model prog w) A (richCompare .Lt (.int a t) (.int c u)) Q E s :=
 (PyProof.Rows.lt_int h:wpAny (model prog w) A (compareOp .Lt (.int a t) (.int c u)) Q E s)
section
open PySem.SeqAt
open PySem.AutoSeq1 (wpAny_loadPart')
open PySem.MeetsSeq PySem.MeetsSeq2 PySem.MeetsSeq3
theorem tuple_lt_ints (l b:Addr) (items items2:Array Value) (n n2:Nat) (dd dd2:Option Addr) (sl sl2:Array (Option Value)) (ns ms:List Int) (hi:IntsAre items.toList ns) (hj:IntsAre items2.toList ms) :
  Meets (Builtin.«tuple.__lt__» ⟨[.ref l,.ref b],[]⟩)
   (fun _ R s=>s.heap.get? l=some { cls:=.type "tuple",dict:=dd,data:=.seq items n,slots:=sl }∧s.heap.get? b=some { cls:=.type "tuple",dict:=dd2,data:=.seq items2 n2,slots:=sl2 } ∧
    R (.ok (.ret (.bool (lexLt ns ms)))) s) :=
 .of_wp fun prog w A R s h=>by
  obtain ⟨hp,g,d,tk,os⟩:=s; obtain ⟨hl,hb,h⟩:=h
  have f2:=AutoSeq1.sub_tuple_tuple
  have z1:items.size=ns.length:=by rw [← hi.length]; simp
  have z2:items2.size=ms.length:=by rw [← hj.length]; simp
  wp_walk using wpAny_loadPart' hl,wpAny_loadPart' hb,wpAny_forIn_list _ (fun rest b s'=>b.1=none∧s'=⟨hp,g,d,tk,os⟩∧∃ (vs ws:List Value) (ns' ms':List Int),rest=vs.zip ws ∧
   IntsAre vs ns'∧IntsAre ws ms'∧ns'.length+items2.size=ms'.length+items.size∧R (.ok (.ret (.bool (lexLt ns' ms')))) ⟨hp,g,d,tk,os⟩) _
  case turn =>
   rintro ⟨y,x⟩ rest b s' ⟨hb',rfl,vs,ws,ns',ms',hz,hvi,hwi,hlen,hR⟩
   cases hvi with
   | nil=>rw [List.zip_nil_left] at hz; cases hz
   | cons a t hvi' =>
    cases hwi with
    | nil=>rw [List.zip_nil_right] at hz; cases hz
    | cons c u hwi' =>
     rw [List.zip_cons_cons] at hz
     injection hz with hyx hrest
     injection hyx with hy hx
     subst hy hx
     rw [lexLt_cons] at hR
     simp only [List.length_cons] at hlen
     obtain ⟨e,he,hiff⟩:=eqAt_int A.in1 ⟨hp,g,d,tk,os⟩ a t c u
     refine wpAny_bind (he prog w _ _ ?_)
     cases e with
     | true =>
      rw [if_pos (hiff.mp rfl)] at hR
      wp_walk
      exact ⟨rfl,rfl,_,_,_,_,hrest,hvi',hwi',by lia,hR⟩
     | false =>
      rw [if_neg (fun q=>absurd (hiff.mpr q) Bool.false_ne_true)] at hR
      have hri:=rcLt_int A.in1 ⟨hp,g,d,tk,os⟩ a t c u prog w
      wp_walk using hri
      exact ⟨_,rfl,by simpa using hR⟩
  case fin =>
   rintro ⟨b1,b2⟩ s' ⟨hb',rfl,vs,ws,ns',ms',hz,hvi,hwi,hlen,hR⟩
   simp only at hb'
   subst hb'
   have hv:lexLt ns' ms'=decide (items.size < items2.size):=by
    cases hvi with
    | nil =>
     cases hwi with
     | nil =>
      simp only [List.length_nil] at hlen
      rw [lexLt_nil_nil]
      exact (decide_eq_false (by lia)).symm
     | cons c u hw =>
      simp only [List.length_nil,List.length_cons] at hlen
      rw [lexLt_nil_cons]
      exact (decide_eq_true (by lia)).symm
    | cons a t hv =>
     cases hwi with
     | nil =>
      simp only [List.length_nil,List.length_cons] at hlen
      rw [lexLt_cons_nil]
      exact (decide_eq_false (by lia)).symm
     | cons c u hw =>
      rw [List.zip_cons_cons] at hz
      cases hz
   rw [hv] at hR
   wp_walk
   exact ⟨_,rfl,by simpa [Builtin.Tuple.tupleCompareSizes] using hR⟩
  case h =>
   exact ⟨rfl,rfl,items.toList,items2.toList,ns,ms,rfl,hi,hj,by lia,h⟩
end
section
variable {prog:Program} {w:World} {A:Around} {E:Value→Shared→Prop} {s:Shared}
theorem lt_tupInts {l b:Addr} {items items2:Array Value} {ns ms:List Int} {Q:Value→Shared→Prop} (hl:IsTup s.heap l items) (hb:IsTup s.heap b items2) (hi:IntsAre items.toList ns) (hj:IntsAre items2.toList ms)
  (hu:A.units < cLine) (h:Q (.bool (lexLt ns ms)) s):wpAny (model prog w) A (compareOp .Lt (.ref l) (.ref b)) Q E s:=by
 obtain ⟨⟨cls,dd,data,sl⟩,ho,hc,n,hd⟩:=id hl
 obtain ⟨⟨cls2,dd2,data2,sl2⟩,ho2,hc2,n2,hd2⟩:=id hb
 simp only at hc hd hc2 hd2
 subst hc hd hc2 hd2
 exact richCompare_meets_room (op:=.Lt) ⟨_,ho,rfl⟩ ⟨_,ho2,rfl⟩ PySem.F.slot_tuple_lt PySem.F.entry_tuple_lt (PySem.F.args_tuple_lt_2 _ _) (tuple_lt_ints l b items items2 n n2 dd dd2 sl sl2 ns ms hi hj)
  ⟨ho,ho2,show Value.bool (lexLt ns ms)≠Value.notImplemented∧Q (.bool (lexLt ns ms)) s from ⟨(fun x=>nomatch x),h⟩⟩ hu
def sIx (n d:Nat):Option Int→Nat
 | none=>d
 | some v=>if v < 0 then (v+(n:Int)).toNat else min v.toNat n
end
end HT
namespace L2
open PySem PySem.Spec PyProof.Rows
abbrev TO:=St→Hp→(Option Int→Hp→Prop)→Prop
def PO (X:Cx) (e:Option Expr) (t:TO):Prop :=
 ∀ (pins:List (Addr × Obj)) (s:Shared) (σ:St) (H:Hp) (Q:Option Int→Hp→Prop),Inv X pins σ H s→t σ H Q →
  wpAny (model X.prog X.w) X.A (evalPart e X.env) (fun u s'=>∃ o H',Inv X pins σ H' s'∧IsPart u o∧Q o H') X.xe s
def tNoPart:TO:=fun _ H Q=>Q none H
def tPart (t:TE):TO:=fun σ H Q=>t σ H fun x H1=>∃ i,x=.int i∧Q (some i) H1
theorem intsAre_of {ns:List Int}:∀ {us:List Value},Vals (ns.map V.int) us→IntsAre us ns:=by
 induction ns with
 | nil=>intro us r; rw [List.map_nil] at r; cases r; exact .nil
 | cons n ns ih =>
  intro us r
  rw [List.map_cons] at r
  cases r with
  | cons r1 r2 =>
   obtain ⟨t,e⟩:=r1
   subst e
   exact .cons n t (ih r2)
section
variable {X:Cx} {e:Expr} {te:TE} {lo hi:Option Expr} {tl th:TO} {pos p2:Pos}
theorem po_none:PO X none tNoPart:=by
 intro pins s σ H Q I h
 rw [evalPart_none]
 exact wpAny_pure ⟨none,H,I,.none,h⟩
theorem po_some (h:PE X e te):PO X (some e) (tPart te):=by
 intro pins s σ H Q I hw
 rw [evalPart_some]
 refine thn (h pins s σ H _ I hw) fun u s1 ⟨x,H1,I1,r1,q1⟩=>?_
 obtain ⟨i,rfl,q⟩:=q1
 obtain ⟨t,rfl⟩:=r1
 exact ⟨some i,H1,I1,.int i t,q⟩
def SlR (X:Cx) (r:V→Option Int→Option Int→Hp→VK→Prop):Prop :=
 ∀ (pins:List (Addr × Obj)) (s:Shared) (σ:St) (H:Hp) (x:V) (v vl vu:Value) (lo hi:Option Int) (sl:Addr) (Q:VK),Inv X pins σ H s→RelV x v→s.heap.IsSliceOf sl vl vu .none→IsPart vl lo→IsPart vu hi→r x lo hi H Q →
  ∃ T id,typeLookup (.type T) "__getitem__" = pure (some (.builtin id))∧s.TypeIs v T∧wpAny (model X.prog X.w) X.A (getItem v (.ref sl)) (EP X pins σ Q) X.xe s
def tSl (r:V→Option Int→Option Int→Hp→VK→Prop) (te:TE) (tl th:TO):TE:=fun σ H Q=>te σ H fun x H1=>tl σ H1 fun l H2=>th σ H2 fun u H3=>r x l u H3 Q
theorem pe_slice {r:V→Option Int→Option Int→Hp→VK→Prop} (hr:SlR X r) (he:PE X e te) (hl:PO X lo tl) (hu:PO X hi th):PE X (.Subscript e (.Slice lo hi none p2) pos) (tSl r te tl th):=by
 intro pins s σ H Q I h
 refine Subscript_ (thn (he pins s σ H _ I h) fun v s1 ⟨x,H1,I1,r1,q1⟩=>?_)
 refine wpAny_Slice (thn (hl pins s1 σ H1 _ I1 q1) fun vl s2 ⟨l,H2,I2,pl,q2⟩=>thn (hu pins s2 σ H2 _ I2 q2) fun vu s3 ⟨u,H3,I3,pu,q3⟩=>?_)
 rw [evalPart_none]
 refine wpAny_pure ?_
 have I4:Inv X pins σ H3 { s3 with heap:=s3.heap.push { cls:=.type "slice",data:=.fields #[vl,vu,.none] } }:=I3.kept (t':=s3.toks) fun b ob q=>Heap.get?_push_of_some _ q
 obtain ⟨T,id,hT,ht,hg⟩:=hr pins { s3 with heap:=s3.heap.push { cls:=.type "slice",data:=.fields #[vl,vu,.none] } } σ H3 x v vl vu l u s3.heap.objs.size Q I4 r1 (Heap.IsSliceOf.new ..) pl pu q3
 show wpAny (model X.prog X.w) X.A (subscriptTail e (.Slice lo hi none p2) v (.ref s3.heap.objs.size)) (EP X pins σ Q) X.xe { s3 with heap:=s3.heap.push { cls:=.type "slice",data:=.fields #[vl,vu,.none] } }
 exact tail_any (ops:=[.ref s3.heap.objs.size,v]) ht hT hg (by with_unfolding_all rfl)
def cutV (xs:List V) (lo hi:Option Int):List V:=(xs.drop (HT.sIx xs.length 0 lo)).take (HT.sIx xs.length xs.length hi - HT.sIx xs.length 0 lo)
theorem cutV_length (xs:List V) (lo hi:Option Int):(cutV xs lo hi).length≤xs.length:=by
 unfold cutV
 rw [List.length_take,List.length_drop]
 lia
end
end L2
namespace L2
open PySem PySem.Spec PyProof.Rows
def ixN (n:Nat) (i:Int):Option Nat:=if 0≤i then (if i < n then some i.toNat else none) else if -(n:Int)≤i then some (i+n).toNat else none
def atI {α:Type} (xs:List α) (i:Int):Option α:=(ixN xs.length i).bind fun j=>xs[j]?
theorem ixN_seq {n:Nat} {i:Int} {j:Nat} (h:ixN n i=some j):seqIndex? i n=some j∧j < n∧-(n:Int)≤i∧i < n:=by
 unfold ixN at h
 by_cases h0:0≤i
 ·rw [if_pos h0] at h
  by_cases h1:i < n
  ·rw [if_pos h1] at h
   have e:i.toNat=j:=Option.some.inj h
   exact ⟨by rw [seqIndex_of h0 h1,e],by lia,by lia,h1⟩
  ·rw [if_neg h1] at h; cases h
 ·rw [if_neg h0] at h
  by_cases h1:-(n:Int)≤i
  ·rw [if_pos h1] at h
   have e:(i+n).toNat=j:=Option.some.inj h
   exact ⟨by rw [seqIndex_neg (by lia) h1,e],by lia,h1,by lia⟩
  ·rw [if_neg h1] at h; cases h
theorem atI_get {α:Type} {xs:List α} {i:Int} {v:α} (h:atI xs i=some v):∃ j,seqIndex? i xs.length=some j∧xs[j]?=some v∧j < xs.length∧-(xs.length:Int)≤i∧i < xs.length:=by
 unfold atI at h
 cases e:ixN xs.length i with
 | none=>rw [e] at h; cases h
 | some j =>
  rw [e] at h
  obtain ⟨h1,h2,h3,h4⟩:=ixN_seq e
  exact ⟨j,h1,h,h2,h3,h4⟩
def PlainIx (b:Expr):Prop:=∀ o i,subscripted b false o i=operate [o,i] (getItem o i)
def IxR (X:Cx) (r:R2):Prop :=
 ∀ (value slice:Expr) (pins:List (Addr × Obj)) (s:Shared) (σ:St) (H:Hp) (x y:V) (v u:Value) (Q:VK),Inv X pins σ H s→RelV x v→RelV y u→r x y H Q →
  subscripted slice false v u=operate [v,u] (getItem v u)→wpAny (model X.prog X.w) X.A (subscriptTail value slice v u) (EP X pins σ Q) X.xe s
def MtR (X:Cx) (id:String) (r:V→List V→Hp→VK→Prop):Prop :=
 ∀ (pins:List (Addr × Obj)) (s:Shared) (σ:St) (H:Hp) (x:V) (xs:List V) (v:Value) (us:List Value) (Q:VK),Inv X pins σ H s→RelV x v→Vals xs us→r x xs H Q →
  wpAny (model X.prog X.w) X.A (call (.builtin id) (v::us)) (EP X pins σ Q) X.xe s
section
variable {X:Cx} {a b:Expr} {ta tb:TE} {pos:Pos}
theorem pe_ix {r:R2} (hr:IxR X r) (ha:PE X a ta) (hb:PE X b tb) (hs:PlainIx b):PE X (.Subscript a b pos) (tOp r ta tb):=by
 intro pins s σ H Q I h
 exact Subscript_ (binT ha hb I h fun v u s2 x y H2 I2 rx ry q=>hr a b pins s2 σ H2 x y v u Q I2 rx ry q (hs _ _))
def rIxL (K:PySem.W.Frag):R2:=fun x y H Q=>∃ p xs i v,x=.ref p∧y=.int i∧SqL K H p xs∧atI xs i=some v∧Q v H
def rIxT (K:PySem.W.Frag):R2:=fun x y H Q=>∃ p xs i v,x=.ref p∧y=.int i∧SqT K H p xs∧atI xs i=some v∧Q v H
theorem ix_list:IxR X (rIxL X.K):=by
 intro value slice pins s σ H x y v u Q I rx ry h hs
 obtain ⟨p,xs,i,z,rfl,rfl,hq,he,q⟩:=h
 cases rx
 obtain ⟨t,rfl⟩:=ry
 obtain ⟨its,r,pl,hz⟩:=I.list hq
 obtain ⟨j,h1,h2,h3,h4,h5⟩:=atI_get he
 obtain ⟨w,ew,rw'⟩:=r.get h2
 have hl:=r.length
 have hn:=line63
 have fin:EP X pins σ Q w s:=⟨z,H,I,rw',q⟩
 by_cases h0:0≤i
 ·have hj:i.toNat=j:=by
   rw [seqIndex_of h0 h5] at h1
   exact Option.some.inj h1
  exact item_listR pl.isList h0 (by lia) (by rw [hj]; simpa using ew) fin hs
 ·have hj:(i+(its.toArray.size:Int)).toNat=j:=by
   rw [seqIndex_neg (by lia) h4] at h1
   rw [List.size_toArray,← hl]
   exact Option.some.inj h1
  exact subscriptTail_builtinR (x:=w) pl.isList.typeIs slot_list_getitem.lookup
   (wpAny_getItem_list_neg (Q:=fun r s'=>r=w∧EP X pins σ Q r s') pl.isList (by lia) (by rw [List.size_toArray] <;> lia) (by lia) (by rw [hj]; simpa using ew) ⟨rfl,fin⟩) hs
theorem ix_tup:IxR X (rIxT X.K):=by
 intro value slice pins s σ H x y v u Q I rx ry h hs
 obtain ⟨p,xs,i,z,rfl,rfl,hq,he,q⟩:=h
 cases rx
 obtain ⟨t,rfl⟩:=ry
 obtain ⟨its,r,pl,hz⟩:=I.tuple hq
 obtain ⟨j,h1,h2,h3,h4,h5⟩:=atI_get he
 obtain ⟨w,ew,rw'⟩:=r.get h2
 have hl:=r.length
 have hn:=line63
 have fin:EP X pins σ Q w s:=⟨z,H,I,rw',q⟩
 exact subscriptTail_builtinR (x:=w) pl.typeIs slot_tuple_getitem.lookup
  (getItem_tuple (j:=j) (Q:=fun r s'=>r=w∧EP X pins σ Q r s') pl (by lia) (by lia) (by rw [List.size_toArray,← hl]; exact h1) (by simpa using ew) ⟨rfl,fin⟩) hs
theorem mapSeq_set (its:List Value) (n j:Nat) (u:Value):Obj.mapSeq (·.setIfInBounds j u) { cls:=.type "list",data:=.seq its.toArray n }={ cls:=.type "list",data:=.seq (its.set j u).toArray n }:=by
 simp [Obj.mapSeq]
theorem Inv.lst {pins:List (Addr × Obj)} {σ:St} {H:Hp} {s:Shared} {p:Addr} {xs:List V} (I:Inv X pins σ H s) (h:H p=some (.lst xs)) :
  ∃ (its:List Value) (n:Nat),Vals xs its∧s.heap.get? p=some { cls:=.type "list",data:=.seq its.toArray n }∧xs.length≤sizeLine:=by
 obtain ⟨z,its,n,r,e⟩:=I.hok p _ h
 exact ⟨its,n,r,e,z⟩
theorem Inv.lstUpd {pins:List (Addr × Obj)} {σ:St} {H:Hp} {s:Shared} {p:Addr} {xs ys:List V} {its its':List Value} {n n':Nat} {f:Obj→Obj} (I:Inv X pins σ H s) (h:H p=some (.lst xs))
  (ho:s.heap.get? p=some { cls:=.type "list",data:=.seq its.toArray n }) (hf:f { cls:=.type "list",data:=.seq its.toArray n }={ cls:=.type "list",data:=.seq its'.toArray n' }) (r:Vals ys its') (hz:ys.length≤sizeLine) (t:Nat) :
  Inv X pins σ (upd H p (.lst ys)) { s with heap:=s.heap.update p f,toks:=t }:=by
 have e:(s.heap.update p f).get? p=some { cls:=.type "list",data:=.seq its'.toArray n' }:=by
  rw [Heap.get?_update_self f ho (by rw [hf] <;> rfl),hf]
 refine I.write (x:=p) (e:=p) (by rw [h]; trivial) (.inl rfl) (fun b u hb q=>(Heap.get?_update_other _ _ (Ne.symm hb)).trans q) ⟨_,e⟩ ?_
 exact ⟨hz,its',n',r,e⟩
def rSetL:V→V→V→Hp→(Hp→Prop)→Prop:=fun o i v H Q=>∃ p xs k j,o=.ref p∧i=.int k∧H p=some (.lst xs)∧ixN xs.length k=some j∧Q (upd H p (.lst (xs.set j v)))
theorem set_list:PSet X rSetL:=by
 intro pins s σ H o i v ov iv u Q I ro ri rv h
 obtain ⟨p,xs,k,j,rfl,rfl,hp,hj,q⟩:=h
 cases ro
 obtain ⟨t,rfl⟩:=ri
 obtain ⟨its,n,r,ho,hz⟩:=I.lst hp
 obtain ⟨h1,h2,h3,h4⟩:=ixN_seq hj
 have hl:=r.length
 have hn:=line63
 have I':Inv X pins σ (upd H p (.lst (xs.set j v))) { s with heap:=s.heap.update p (Obj.mapSeq (·.setIfInBounds j u)) } :=
  I.lstUpd hp ho (mapSeq_set its n j u) (r.set rv j) (by rw [List.length_set]; exact hz) s.toks
 by_cases h0:0≤k
 ·have hk:k.toNat=j:=by
   rw [seqIndex_of h0 h4] at h1
   exact Option.some.inj h1
  exact PySem.W.ki_setAt ho h0 (by lia) (by rw [List.size_toArray,← hl]; exact h4) (by rw [hk]; exact ⟨_,I',q⟩)
 ·have hk:(k+(its.toArray.size:Int)).toNat=j:=by
   rw [seqIndex_neg (by lia) h3] at h1
   rw [List.size_toArray,← hl]
   exact Option.some.inj h1
  exact PySem.W.ki_setBack ho (by lia) (by rw [List.size_toArray,← hl]; exact h3) (by lia) (by rw [hk]; exact ⟨_,I',q⟩)
theorem slice_bounds (lo hi:Option Int) (n:Nat):(sliceBounds lo hi none n).1=((HT.sIx n 0 lo:Nat):Int)∧(sliceBounds lo hi none n).2.1=((HT.sIx n n hi:Nat):Int)∧(sliceBounds lo hi none n).2.2=1:=by
 refine ⟨?_,?_,rfl⟩
 ·cases lo with
  | none=>simp [sliceBounds,HT.sIx]
  | some i =>
   simp only [sliceBounds,HT.sIx,Option.getD_none,show (1:Int) > 0 by decide,if_true]
   by_cases h:i < 0
   ·simp only [h,if_true] <;> lia
   ·simp only [h,if_false] <;> lia
 ·cases hi with
  | none=>simp [sliceBounds,HT.sIx]
  | some i =>
   simp only [sliceBounds,HT.sIx,Option.getD_none,show (1:Int) > 0 by decide,if_true]
   by_cases h:i < 0
   ·simp only [h,if_true] <;> lia
   ·simp only [h,if_false] <;> lia
theorem slicePick_cut (its:List Value) (lo hi:Option Int):slicePick its.toArray lo hi none=((its.drop (HT.sIx its.length 0 lo)).take (HT.sIx its.length its.length hi - HT.sIx its.length 0 lo)).toArray:=by
 obtain ⟨h1,h2,h3⟩:=slice_bounds lo hi its.toArray.size
 unfold slicePick
 rw [h1,h2,h3]
 simp only [sliceRange_one,pick_run,List.size_toArray] <;> rfl
def rSlL (K:PySem.W.Frag):V→Option Int→Option Int→Hp→VK→Prop:=fun x lo hi H Q=>∃ a xs,x=.ref a∧SqL K H a xs∧∀ p,H p=none→Q (.ref p) (upd H p (.lst (cutV xs lo hi)))
theorem sl_list:SlR X (rSlL X.K):=by
 intro pins s σ H x v vl vu lo hi sl Q I rx hs pl pu h
 obtain ⟨a,xs,rfl,hx,q⟩:=h
 cases rx
 obtain ⟨its,r,ht,hz⟩:=I.list hx
 have hlen:=r.length
 refine ⟨"list",_,slot_list_getitem.lookup,ht.isList.typeIs,?_⟩
 refine wpAny_getItem_list_slice ht.isList hs pl pu .none (by simp) ?_ (by rw [List.size_toArray] <;> lia)
 rw [slicePick_cut,← hlen]
 refine ⟨.ref s.heap.objs.size,_,I.laid (t':=s.toks) (o:=.lst (cutV xs lo hi)) (fun b ob q=>Heap.get?_push_of_some _ q) (Nat.le_refl _) ?_,rfl,q _ (I.hok.fresh (Nat.le_refl _))⟩
 exact ⟨Nat.le_trans (cutV_length xs lo hi) hz,_,0,(r.drop (HT.sIx xs.length 0 lo)).take (HT.sIx xs.length xs.length hi - HT.sIx xs.length 0 lo),Heap.get?_push_size _ rfl⟩
theorem call_len_seq:CallR X (.builtin "len") (fun xs H Q=>∃ p ys,xs=[.ref p]∧(SqL X.K H p ys∨SqT X.K H p ys)∧Q (.int ys.length) H):=by
 intro pins s σ H xs us Q I r h
 obtain ⟨p,ys,rfl,hq,q⟩:=h
 obtain ⟨u,rfl,rx⟩:=vals1 r
 cases rx
 have hn:=line63
 rcases hq with hq | hq
 ·obtain ⟨its,r',pl,hz⟩:=I.list hq
  have hlen:=r'.length
  exact Calls.call_len_list pl.isList (by simp only [List.size_toArray] <;> lia) ⟨.int ys.length,H,I.tok _,⟨s.toks+1,by rw [List.size_toArray,hlen]⟩,q⟩
 ·obtain ⟨its,r',pl,hz⟩:=I.tuple hq
  have hlen:=r'.length
  exact len_tuple pl (by simp only [List.size_toArray] <;> lia) ⟨.int ys.length,H,I.tok _,⟨s.toks+1,by rw [List.size_toArray,hlen]⟩,q⟩
theorem call_list_of:CallR X (.type "list") (fun xs H Q=>∃ p ys,xs=[.ref p]∧(SqL X.K H p ys∨SqT X.K H p ys)∧∀ l,H l=none→Q (.ref l) (upd H l (.lst ys))):=by
 intro pins s σ H xs us Q I r h
 obtain ⟨p,ys,rfl,hq,q⟩:=h
 obtain ⟨u,rfl,rx⟩:=vals1 r
 cases rx
 have fin:∀ (its:List Value),Vals ys its→ys.length≤sizeLine→∀ (h':Heap) (c':Nat),(∀ b o',s.heap.get? b=some o'→h'.get? b=some o') →
   h'.get? s.heap.objs.size=some { cls:=.type "list",dict:=none,data:=.seq its.toArray c',slots:=#[] }→EP X pins σ Q (.ref s.heap.objs.size) { s with heap:=h' }:=fun its r' hz h' c' kp e =>
  ⟨.ref s.heap.objs.size,_,I.laid (t':=s.toks) kp (Nat.le_refl _) (show ObjOk X.prog X.w _ h' _ (.lst ys) from ⟨hz,its,c',r',e⟩),rfl,q _ (I.hok.fresh (Nat.le_refl _))⟩
 rcases hq with hq | hq
 ·obtain ⟨its,r',pl,hz⟩:=I.list hq
  have hlen:=r'.length
  obtain ⟨o,ho,hc,n,hd⟩:=pl.isList
  exact call_list_seq p (.inl rfl) ho hc hd (fun h' c' kp e=>fin its r' hz h' c' kp e) (by simp only [List.size_toArray] <;> lia)
 ·obtain ⟨its,r',pl,hz⟩:=I.tuple hq
  have hlen:=r'.length
  obtain ⟨o,ho,hc,n,hd⟩:=pl
  exact call_list_seq p (.inr rfl) ho hc hd (fun h' c' kp e=>fin its r' hz h' c' kp e) (by simp only [List.size_toArray] <;> lia)
def tyV (K:PySem.W.Frag) (T:String) (x:V) (H:Hp):Prop:=match x with
 | .str _=>T="str"
 | .int _=>T="int"
 | .ref p=>(T="list" ∧ ∃ xs,SqL K H p xs)∨(T="tuple" ∧ ∃ o,K.lookup p=some o∧o.cls=.type "tuple" ∧ o.dict=none) ∨
   (T="dict" ∧ ((∃ kvs,H p=some (.dK kvs))∨∃ kvs,H p=some (.dT kvs)))∨(T="set" ∧ ∃ S n,H p=some (.set S n))
 | _=>False
theorem tyV_is {pins:List (Addr × Obj)} {σ:St} {H:Hp} {s:Shared} {T:String} {x:V} {v:Value} (I:Inv X pins σ H s) (r:RelV x v) (ty:tyV X.K T x H) :
  s.TypeIs v T∧∀ a,v=.ref a→∃ ob,s.heap.get? a=some ob∧ob.dict=none:=by
 cases x with
 | str z =>
  obtain ⟨t,rfl⟩:=r
  cases (show T="str" from ty)
  exact ⟨typeIs_str s z t,fun _ e=>nomatch e⟩
 | int i =>
  obtain ⟨t,rfl⟩:=r
  cases (show T="int" from ty)
  exact ⟨typeIs_int s i t,fun _ e=>nomatch e⟩
 | ref p =>
  cases r
  rcases ty with ⟨rfl,xs,hq⟩ | ⟨rfl,o,hk,hc,hd⟩ | ⟨rfl,hk⟩ | ⟨rfl,S,n,hk⟩
  ·obtain ⟨its,_,pl,_⟩:=I.list hq
   refine ⟨pl.isList.typeIs,fun a e=>?_⟩
   cases e
   obtain ⟨o,n,e,c,hd,_⟩:=pl
   exact ⟨o,e,hd⟩
  ·refine ⟨⟨o,I.kIn p o hk,hc⟩,fun a e=>?_⟩
   cases e
   exact ⟨o,I.kIn _ o hk,hd⟩
  ·have z:∃ o,s.heap.get? p=some o∧o.ExactDict:=by
    rcases hk with ⟨kvs,hk⟩ | ⟨kvs,hk⟩
    ·obtain ⟨_,_,_,_,o,_,_,e,ex,_⟩:=I.hok p _ hk
     exact ⟨o,e,ex⟩
    ·obtain ⟨_,_,_,_,o,_,_,e,ex,_⟩:=I.hok p _ hk
     exact ⟨o,e,ex⟩
   obtain ⟨o,e,ex⟩:=z
   refine ⟨⟨o,e,ex.1⟩,fun a e2=>?_⟩
   cases e2
   exact ⟨o,e,ex.2.1⟩
  ·obtain ⟨o,_,_,_,e,ex,_⟩:=I.hok p _ hk
   refine ⟨⟨o,e,ex.1⟩,fun a e2=>?_⟩
   cases e2
   exact ⟨o,e,ex.2.1⟩
 | _=>exact False.elim ty
def tBM0 (K:PySem.W.Frag) (T:String) (r:V→List V→Hp→VK→Prop) (to:TE):TE:=fun σ H Q=>to σ H fun x H1=>tyV K T x H1∧r x [] H1 Q
def tBM (K:PySem.W.Frag) (T:String) (r:V→List V→Hp→VK→Prop) (to:TE) (t:TA):TE:=fun σ H Q=>to σ H fun x H1=>tyV K T x H1∧t σ H1 fun xs H2=>r x xs H2 Q
variable {o e:Expr} {es:List Expr} {to:TE} {t:TA} {name:Str} {apos cpos:Pos} {T id:String} {r:V→List V→Hp→VK→Prop}
theorem pe_bm0 (pa:PlainAttrs T) (slot:Slot T name id) (hty:typeOf (.builtin id)=pure (.type "method_descriptor")) (hm:MtR X id r) (ho:PE X o to)
  (hbase:attributeBase o name X.env (eval o X.env)=eval o X.env:=by rfl) (hline:(apos.endLine == cpos.line)=true:=by rfl):PE X (.Call (.Attribute o name apos) [] [] cpos) (tBM0 X.K T r to):=by
 intro pins s σ H Q I h
 refine wpAny_Call_method0_late hbase hline (thn (ho pins s σ H _ I h) fun v s1 ⟨x,H1,I1,r1,ty,q1⟩=>?_)
 obtain ⟨h1,h2⟩:=tyV_is I1 r1 ty
 exact ⟨T,id,pa,slot,hty,h1,h2,Calls.callWith_builtin rfl (PySem.evalArgs_none (hm pins s1 σ H1 x [] v [] Q I1 r1 .nil q1))⟩
theorem pe_bm (pa:PlainAttrs T) (slot:Slot T name id) (hty:typeOf (.builtin id)=pure (.type "method_descriptor")) (hm:MtR X id r) (ho:PE X o to) (ha:PA X (e::es) t)
  (hbase:attributeBase o name X.env (eval o X.env)=eval o X.env:=by rfl)
  (hfew:((backTo cpos (starEach (e::es) X.env)).all (fun x=>!x.1) && (backToKw cpos (keywordEach [] X.env)).all (fun x=>x.1.isSome)
   && decide ((e::es).length+([]:List Keyword).length+(if ([]:List Keyword).isEmpty then 0 else 1) < 30))=true:=by rfl)
  (hline:(apos.endLine == cpos.line)=true:=by rfl) (hs:starEach (e::es) X.env=(false,eval e X.env)::starEach es X.env:=by rfl) (hplain:(backTo cpos (starEach es X.env)).any (·.1)=false:=by rfl) :
  PE X (.Call (.Attribute o name apos) (e::es) [] cpos) (tBM X.K T r to t):=by
 intro pins s σ H Q I h
 refine wpAny_Call_method_late hbase hfew hline rfl (thn (ho pins s σ H _ I h) fun v s1 ⟨x,H1,I1,r1,ty,q1⟩=>?_)
 obtain ⟨h1,h2⟩:=tyV_is I1 r1 ty
 refine ⟨T,id,pa,slot,hty,h1,h2,?_⟩
 have hA:=ha cpos pins s1 σ H1 _ I1 q1
 rw [hs] at hA ⊢
 refine Calls.callWith_builtin (by show (false || (backTo cpos (starEach es X.env)).any (·.1))=false; rw [hplain] <;> rfl) (Calls.evalArgs_plain ?_)
 exact thn hA fun us s2 ⟨vs,H2,I2,r2,q2⟩=>hm pins s2 σ H2 x vs v us Q I2 r1 r2 q2
end
end L2
namespace L2
open PySem PySem.Spec PyProof.Rows
def MtM (X:Cx) (id:String) (r:V→List V→Hp→VK→Prop):Prop :=
 ∀ (pins:List (Addr × Obj)) (s:Shared) (σ:St) (H:Hp) (x:V) (xs:List V) (v:Value) (us:List Value) (Q:VK),Inv X pins σ H s→RelV x v→Vals xs us→r x xs H Q →
  wpAny (model X.prog X.w) X.A (call (.builtin id) (v::us)) (EP X pins σ Q) X.xe s
theorem Vals.one:∀ {x:V} {us:List Value},Vals [x] us→∃ u,us=[u]∧RelV x u
 | _,_,.cons r .nil=>⟨_,rfl,r⟩
theorem Vals.zero:∀ {us:List Value},Vals [] us→us=[]
 | _,.nil=>rfl
theorem Vals.dropLast {xs:List V} {us:List Value} (h:Vals xs us):Vals xs.dropLast us.dropLast:=by
 induction h with
 | nil=>exact .nil
 | cons r t ih =>
  cases t with
  | nil=>exact .nil
  | cons q t'=>exact .cons r ih
theorem Vals.eraseIdx:∀ {xs:List V} {us:List Value} (i:Nat),Vals xs us→Vals (xs.eraseIdx i) (us.eraseIdx i)
 | _,_,_,.nil=>.nil
 | _,_,0,.cons _ t=>t
 | _,_,i+1,.cons r t=>.cons r (Vals.eraseIdx i t)
theorem erase_last {α:Type} (l:List α):l.eraseIdx (l.length - 1)=l.dropLast:=by
 induction l with
 | nil=>rfl
 | cons a r ih =>
  cases r with
  | nil=>rfl
  | cons b r =>
   have e:(a::b::r).length - 1=((b::r).length - 1)+1:=by
    have h1:(a::b::r).length=r.length+2:=rfl
    have h2:(b::r).length=r.length+1:=rfl
    lia
   rw [e,List.eraseIdx_cons_succ,ih]
   all_goals rfl
theorem len_erase {α:Type}:∀ (l:List α) (i:Nat),(l.eraseIdx i).length≤l.length
 | [],_=>Nat.le_refl _
 | _::_,0=>Nat.le_succ _
 | _::r,i+1=>Nat.succ_le_succ (len_erase r i)
section
variable {X:Cx} {pins:List (Addr × Obj)} {σ:St} {H:Hp} {s:Shared} {l b:Addr} {xs ys zs:List V}
theorem Inv.lset {its its':List Value} {n:Nat} {f:Array Value→Array Value} {t':Nat} (I:Inv X pins σ H s) (hH:H l=some (.lst xs))
  (e:s.heap.get? l=some { cls:=.type "list",data:=.seq its.toArray n }) (hf:f its.toArray=its'.toArray) (hv:Vals ys its') (hz:ys.length≤sizeLine) :
  Inv X pins σ (upd H l (.lst ys)) { s with heap:=s.heap.update l (Obj.mapSeq f),toks:=t' }:=by
 have q:=PySem.IsL.update e f
 rw [hf] at q
 refine I.write (x:=l) (e:=l) (by rw [hH]; exact trivial) (.inl rfl) (fun b' u hb hu=>(Heap.get?_update_other s.heap (Obj.mapSeq f) (Ne.symm hb)).trans hu) ⟨_,q⟩ ?_
 exact ⟨hz,its',_,hv,q⟩
theorem Inv.lnew {its:List Value} {t':Nat} (I:Inv X pins σ H s) (hv:Vals ys its) (hz:ys.length≤sizeLine) :
  Inv X pins σ (upd H s.heap.objs.size (.lst ys)) { s with heap:=s.heap.push { cls:=.type "list",data:=.seq its.toArray },toks:=t' } :=
 I.laid (fun _ _ q=>Heap.get?_push_of_some _ q) (Nat.le_refl _) ⟨hz,its,0,hv,Heap.get?_push_size _ rfl⟩
theorem Inv.fresh (I:Inv X pins σ H s):H s.heap.objs.size=none:=I.hok.fresh (Nat.le_refl _)
theorem Inv.lstM (I:Inv X pins σ H s) (hH:H l=some (.lst xs)):xs.length≤sizeLine∧∃ (its:List Value) (n:Nat),Vals xs its∧xs.length=its.length∧s.heap.get? l=some { cls:=.type "list",data:=.seq its.toArray n }:=by
 obtain ⟨z,its,n,r,e⟩:=I.hok l _ hH
 exact ⟨z,its,n,r,r.length,e⟩
theorem notLongL {n:Nat} (h:n≤sizeLine):Builtin.List.listTooLong n=false:=by
 unfold Builtin.List.listTooLong
 exact decide_eq_false (by lia)
end
section
variable {X:Cx}
def rAppend:V→List V→Hp→VK→Prop:=fun x vs H Q=>∃ l xs y,x=.ref l∧vs=[y]∧H l=some (.lst xs)∧xs.length < sizeLine∧Q .non (upd H l (.lst (xs++[y])))
theorem mt_append:MtM X "list.append" rAppend:=by
 intro pins s σ H x vs v us Q I rx rv h
 obtain ⟨l,xs,y,rfl,rfl,hH,hz,q⟩:=h
 cases rx
 obtain ⟨u,rfl,ru⟩:=rv.one
 obtain ⟨z,its,n,r,hl,e⟩:=I.lstM hH
 refine call_meets F.slot_list_append ⟨_,e,rfl⟩ F.entry_list_append (F.args_list_append_2 _ _) (PySem.list_append l its.toArray n u (by rw [List.size_toArray]; lia)) ⟨e,?_⟩
 refine ⟨.non,_,I.lset (its':=its++[u]) hH e (by simp) (r.append (.cons ru .nil)) ?_,rfl,q⟩
 rw [List.length_append,List.length_singleton]
 lia
def rExtend:V→List V→Hp→VK→Prop:=fun x vs H Q=>∃ l b xs zs,x=.ref l∧vs=[.ref b]∧H l=some (.lst xs)∧H b=some (.lst zs)∧xs.length+zs.length≤sizeLine∧Q .non (upd H l (.lst (xs++zs)))
theorem mt_extend:MtM X "list.extend" rExtend:=by
 intro pins s σ H x vs v us Q I rx rv h
 obtain ⟨l,b,xs,zs,rfl,rfl,hH,hB,hz,q⟩:=h
 cases rx
 obtain ⟨u,rfl,ru⟩:=rv.one
 cases ru
 obtain ⟨z,its,n,r,hl,e⟩:=I.lstM hH
 obtain ⟨z2,its2,n2,r2,hl2,e2⟩:=I.lstM hB
 have hsz:its.toArray.size+its2.toArray.size≤sizeLine:=by rw [List.size_toArray,List.size_toArray]; lia
 have hlong:¬ (!its.toArray.isEmpty && Builtin.List.listTooLong (its.toArray.size+its2.toArray.size))=true:=by
  rw [notLongL hsz,Bool.and_false]
  exact Bool.false_ne_true
 refine call_meets F.slot_list_extend ⟨_,e,rfl⟩ F.entry_list_extend (F.args_list_extend_2 _ _)
  (AutoSeq1.list_extend_list_list_0 l its.toArray n b its2.toArray n2 hlong (by rw [List.size_toArray]; lia) (by lia)) ⟨e,e2,?_⟩
 refine ⟨.non,_,I.lset (its':=its++its2) hH e (by simp) (r.append r2) ?_,rfl,q⟩
 rw [List.length_append]
 lia
def rPop:V→List V→Hp→VK→Prop:=fun x vs H Q=>∃ l xs y,x=.ref l∧vs=[]∧H l=some (.lst xs)∧xs[xs.length - 1]?=some y∧Q y (upd H l (.lst xs.dropLast))
theorem mt_pop:MtM X "list.pop" rPop:=by
 intro pins s σ H x vs v us Q I rx rv h
 obtain ⟨l,xs,y,rfl,rfl,hH,hy,q⟩:=h
 cases rx
 have hus:=rv.zero
 subst hus
 obtain ⟨z,its,n,r,hl,e⟩:=I.lstM hH
 obtain ⟨u,hu,ru⟩:=r.get hy
 have hy':its.toArray[its.toArray.size - 1]?=some u:=by
  show its.toArray[its.length - 1]?=some u
  rw [← Array.getElem?_toList,← hl]
  exact hu
 refine call_meets F.slot_list_pop ⟨_,e,rfl⟩ F.entry_list_pop (F.args_list_pop_1 _) (MeetsSeq.list_pop_last l its.toArray n u hy' (by rw [List.size_toArray]; lia)) ⟨e,?_⟩
 refine ⟨y,_,I.lset (its':=its.dropLast) hH e ?_ r.dropLast ?_,ru,q⟩
 ·show its.toArray.eraseIdxIfInBounds (its.toArray.size - 1)=its.dropLast.toArray
  rw [List.size_toArray,List.eraseIdxIfInBounds_toArray,erase_last]
 ·rw [List.length_dropLast]
  lia
def rPopAt:V→List V→Hp→VK→Prop:=fun x vs H Q=>∃ l xs i k y,x=.ref l∧vs=[.int i]∧H l=some (.lst xs)∧-(2 ^ 63)≤i∧i < 2 ^ 63∧seqIndex? i xs.length=some k∧xs[k]?=some y∧Q y (upd H l (.lst (xs.eraseIdx k)))
theorem mt_popAt:MtM X "list.pop" rPopAt:=by
 intro pins s σ H x vs v us Q I rx rv h
 obtain ⟨l,xs,i,k,y,rfl,rfl,hH,h1,h2,hk,hy,q⟩:=h
 cases rx
 obtain ⟨u,rfl,ru⟩:=rv.one
 obtain ⟨t,rfl⟩:=ru
 obtain ⟨z,its,n,r,hl,e⟩:=I.lstM hH
 obtain ⟨w,hw,rw'⟩:=r.get hy
 refine call_meets F.slot_list_pop ⟨_,e,rfl⟩ F.entry_list_pop (F.args_list_pop_2 _ _)
  (MeetsSeq.list_pop_at l its.toArray n i t k w (fitsIndex_both h1 h2) (by rw [List.size_toArray,← hl]; exact hk) (by rw [← Array.getElem?_toList]; exact hw) (by rw [List.size_toArray]; lia)) ⟨e,?_⟩
 refine ⟨y,_,I.lset (its':=its.eraseIdx k) hH e ?_ (r.eraseIdx k) ?_,rw',q⟩
 ·show its.toArray.eraseIdxIfInBounds k=(its.eraseIdx k).toArray
  rw [List.eraseIdxIfInBounds_toArray]
 ·have:=len_erase xs k
  lia
def rCat:R2:=fun x y H Q=>∃ l b xs zs,x=.ref l∧y=.ref b∧H l=some (.lst xs)∧H b=some (.lst zs)∧xs.length+zs.length≤sizeLine∧∀ p,H p=none→Q (.ref p) (upd H p (.lst (xs++zs)))
theorem op_cat:OpR X (binaryOp .Add) rCat:=by
 intro pins s σ H x y v u Q I rx ry h
 obtain ⟨l,b,xs,zs,rfl,rfl,hH,hB,hz,q⟩:=h
 cases rx
 cases ry
 obtain ⟨z,its,n,r,hl,e⟩:=I.lstM hH
 obtain ⟨z2,its2,n2,r2,hl2,e2⟩:=I.lstM hB
 refine PySem.P.add_list e e2 ?_ (by rw [List.size_toArray,List.size_toArray]; lia)
 have ea:its.toArray++its2.toArray=(its++its2).toArray:=by simp
 rw [ea]
 exact ⟨.ref _,_,I.lnew (t':=s.toks) (r.append r2) (by rw [List.length_append]; lia),rfl,q _ I.fresh⟩
end
section
variable {prog:Program} {w:World} {A:Around} {E:Value→Shared→Prop} {s:Shared}
end
section
variable {X:Cx}
end
end L2
namespace Att
open PySem PySem.W PySem.Calls PyProof.Rows
theorem ints_of_wellAll {P:Params} {h:Heap}:∀ (ns:List Int) (vs:List Value),WellAll P h vs (ns.map WData.int)→IntsAre vs ns:=by
 intro ns
 induction ns with
 | nil =>
  intro vs w
  rw [List.map_nil] at w
  cases w
  exact .nil
 | cons n ns ih =>
  intro vs w
  rw [List.map_cons] at w
  cases w with
  | cons a b =>
   cases a
   exact .cons _ _ (ih _ b)
theorem script_of {l:OpenLaw} {n:Nat} (hn:l.most=some n) {P:Params} {h:Heap} {args:List WData} {vals:List Value}
  (hpre:l.row.toRowW.claim.pre args=true) (hwl:WellAll P h vals args) :
  ∃ a vs ns,vals=[Value.ref a]∧args=[WData.list (ns.map WData.int)]∧h.get? a=some { cls:=.type "list",data:=.seq vs.toArray }∧IntsAre vs ns∧ns.length≤n:=by
 have hsh:WShape.hasAll [] args [.list .int]=true:=(pre_splitW hpre).1
 have hc:l.pre.holds [] { args:=args }=true:=(pre_splitW hpre).2
 obtain ⟨d,r,rfl,h1,h2⟩:=hasAllW_cons hsh
 obtain rfl:=hasAllW_nil h2
 obtain ⟨xs,rfl,h3⟩:=hasW_list h1
 obtain ⟨ns,rfl⟩:=items_int h3
 have hlen:ns.length≤n:=by
  unfold OpenLaw.pre at hc
  have h4:(WTm.not (.lt (.lit (.int (n:Int))) (.len (.arg 0)))).holds [] { args:=[.list (ns.map .int)] }=true:=by
   have h4:=(holds_andW hc).1
   rw [hn] at h4
   exact h4
  have h5:=condW_of h4 (w_not (w_lt w_lit (w_len_list (w_arg rfl))))
  rw [List.length_map] at h5
  refine Nat.le_of_not_lt fun q=>?_
  have q':(n:Int) < ((ns.length:Nat):Int):=by lia
  first
   | (rw [decide_eq_true q'] at h5; exact absurd h5 (by decide))
   | (simp at h5; lia)
 cases hwl with
 | cons w1 w2 =>
  cases w2
  cases w1 with
  | list ho hall=>exact ⟨_,_,ns,rfl,rfl,ho,ints_of_wellAll ns _ hall,hlen⟩
theorem post_true (l:OpenLaw) (args:List WData):l.row.toRowW.claim.post args (.bool true) args=true :=
 postW_of (r:=l.row.toRowW) (X:=(true == true))
  (show WShape.has [] (.bool true) .bool=true by first | rfl | decide | simp [WShape.has,WShape.arms,WShape.armsAll])
  (show (WTm.eq .res (.lit (.bool true))).value [] { args:=args,res:=some (.bool true),after:=args }=some (.bool (true == true)) from w_eq_bool (w_res rfl) w_lit) rfl
theorem attach_call {l:OpenLaw} {n:Nat} {q:Program} {loose:List Str} {XP:(Str→Option Value)→Heap→Prop} {YP:World→Heap→Prop} {d:DefRec}
  (hn:l.most=some n) (hdf:d.params.defaults=[])
  (call:∀ (w:World) (s₀ s₁:Shared) (mg mb:Str→Option Value) (fa:Addr) (o:Obj) (pm cd doc:Value) (a:Addr) (vs:List Value) (ns:List Int),
   Ground q loose [] XP w s₀ mg mb s₁.heap→YP w s₁.heap →
   s₁.heap.get? fa=some o→o.data=.func (docDef d.name d.params d.body d.scope pm cd doc)→s₁.heap.CodeRec cd d.name→mg d.name=some (.ref fa) →
   s₁.heap.get? a=some { cls:=.type "list",data:=.seq vs.toArray }→IntsAre vs ns→ns.length≤n→s₁.gens=#[] →
   codeAny (model l.prog w) callerA (.call (.ref fa) ⟨[.ref a],[]⟩) (fun r s'=>r=.ok (.ret (.bool true))∧OldK s₁.heap s'.heap∧s'.os=s₁.os∧AllBare s'.gens) s₁) :
  WalkO q loose XP YP l.row.toRowW d [] (fun f vs=>PySem.call f vs):=by
 intro w s₀ s₁ mg mb G Y fa o pm cd doc dV kV ho hd hcd hD hmg hg args vals as hpre hlay hrd hwl hlo
 obtain rfl:dV=.none:=Dflts.none hD hdf
 obtain rfl:kV=.none:=Dflts.noKw hD
 obtain ⟨a,vs,ns,rfl,rfl,hobj,hints,hlen⟩:=script_of hn hpre hwl
 refine enter_call (codeAny_mono (call w s₀ s₁ mg mb fa o pm cd doc a vs ns G Y ho (fd_plain hd) hcd hmg hobj hints hlen hg) fun r s' hq=>?_)
 obtain ⟨rfl,h2,h3,h4⟩:=hq
 exact ⟨.inl ⟨.bool true,.bool true,[],rfl,fun _=>rfl,.bool true,post_true l _,fun _=>⟨List.Pairwise.nil,fun _ hm=>(nomatch hm)⟩⟩,h2,h3,h4⟩
section
variable {prog:Program} {w:World} {A:Around} {E:Value→Shared→Prop} {s:Shared} {K:Frag}
end
end Att
namespace L2
open PySem PySem.Spec PyProof.Rows
theorem vals_ints:∀ {vs:List Value} {ns:List Int},IntsAre vs ns→Vals (ns.map V.int) vs
 | _,_,.nil=>.nil
 | _,_,.cons n t h=>.cons ⟨t,rfl⟩ (vals_ints h)
def Only (H:Hp):Prop:=∀ b,H b=none∨∃ o xs,H b=some (.frz o (.lst xs))
theorem law_call {P:Program} {w:World} {K:PySem.W.Frag} {mg mb:Str→Option Value} {CX:CXT} {k:Nat} {fa a:Addr} {fd:FuncData} {x:Str} {sp:Sp} {s₁:Shared} {vs:List Value} {ns:List Int}
  (KX:K.In s₁.heap) (hns:s₁.heap.Ns mainGlobals mg) (hb:s₁.heap.Ns builtinsNs mb) (hbb:∀ x:Str,x≠"__name__" → mb x=bootBuiltins x) (hlim:s₁.heap.NoLimit) (hg:s₁.gens=#[])
  (ha:s₁.heap.get? a=some { cls:=.type "list",data:=.seq vs.toArray }) (hi:IntsAre vs ns) (hl:ns.length≤sizeLine) (hr:Room k callerA)
  (F:∀ base:Heap,K.In base→base.Ns mainGlobals mg→FnOk P w K mg base CX k fa fd [x] sp) (hbind:∀ (s:Shared) (u:Value),BindsTo s fd ⟨[u],[]⟩ [(x,u)])
  (hsp:∀ H:Hp,Only H→SqL K H a (ns.map V.int)→sp [.ref a] H (fun v _=>v=.bl true) fun _ _ _=>False)
  (hCX:∀ H e s',CX [] H s₁ (fun _ _ _=>False) e s'→False) :
  codeAny (model P w) callerA (.call (.ref fa) ⟨[.ref a],[]⟩) (fun r s'=>r=.ok (.ret (.bool true))∧OldK s₁.heap s'.heap∧s'.os=s₁.os∧AllBare s'.gens) s₁:=by
 have rv:=vals_ints hi
 have lenV:=hi.length
 have core:∀ H:Hp,Only H→SqL K H a (ns.map V.int)→HOk P w H s₁.heap→(∀ b,H b≠none→b=a)→(H a≠none→K.lookup a=none) →
   codeAny (model P w) callerA (.call (.ref fa) ⟨[.ref a],[]⟩) (fun r s'=>r=.ok (.ret (.bool true))∧OldK s₁.heap s'.heap∧s'.os=s₁.os∧AllBare s'.gens) s₁:=by
  intro H hO hS hok hA hK
  have base_of:∀ {b:Addr} {o:Obj},s₁.heap.get? b=some o→H b=none→(hidT s₁.heap H).get? b=some o:=fun e n=>hidT_get e n
  have noA:∀ {b:Addr} {o:Obj} {es:Array DictEntry} {ep:Nat},s₁.heap.get? b=some o→o.data=.dict es ep→H b=none:=fun {b o es ep} e d=>by
   cases q:H b with
   | none=>rfl
   | some u =>
    have e':b=a:=hA b (by rw [q]; simp)
    subst e'
    rw [ha] at e; cases e
    have d':Data.seq vs.toArray _=Data.dict es ep:=d
    cases d'
  have nsK:∀ {b:Addr} {m:Str→Option Value},s₁.heap.Ns b m→(hidT s₁.heap H).Ns b m:=fun {b m} ⟨o,es,ep,e,d,r⟩=>⟨o,es,ep,base_of e (noA e d),d,r⟩
  have hKb:K.In (hidT s₁.heap H):=fun b o e=>base_of (KX b o e) (by
   cases q:H b with
   | none=>rfl
   | some u =>
    have e':b=a:=hA b (by rw [q]; simp)
    subst e'
    rw [hK (by rw [q]; simp)] at e; cases e)
  have hM:Mod K mg (hidT s₁.heap H):=⟨hKb,nsK hns,⟨mb,nsK hb,hbb⟩,let ⟨mc,h1,h2⟩:=hlim; ⟨mc,nsK h1,h2⟩⟩
  have e0:Env0 P w K mg (hidT s₁.heap H) callerA [] s₁ H:=⟨rfl,hM,fun b o e=>of_hidT e,Nat.le_of_eq (hidT_size _ _),trivial,fun b hb=>absurd (show b ∈ ([]:List Addr) from hb) (by simp),hok,.of_eq hg⟩
  refine codeAny_mono ((F _ hKb (nsK hns)).run callerA [] s₁ H ⟨[.ref a],[]⟩ [.ref a] [.ref a] _ _ hr e0 (hbind s₁ (.ref a)) (.cons rfl .nil) (hsp H hO hS)) fun r s' h=>?_
  cases r with
  | error e=>exact (hCX H e s' h).elim
  | ok fl =>
   cases fl with
   | next=>exact False.elim h
   | brk=>exact False.elim h
   | cont=>exact False.elim h
   | ret u =>
    obtain ⟨v,H',os,bare,un,hok',r',q⟩:=h
    have q':v=.bl true:=q
    subst q'
    obtain rfl:u=Value.bool true:=r'
    refine ⟨rfl,OldK.of_keep fun b o e=>?_,os,bare⟩
    cases q:H b with
    | none=>exact un.keep b o e q (by intro z; exact absurd (show b ∈ ([]:List Addr) from z) (by simp)) (by simp)
    | some u =>
     rcases hO b with z | ⟨ob,xs,z⟩
     ·rw [q] at z; cases z
     ·have z2:=un.frzs b ob _ z
      obtain ⟨e1,_⟩:=hok b _ z
      obtain ⟨e2,_⟩:=hok' b _ z2
      rw [e] at e1; cases e1
      exact e2
 cases hk:K.lookup a with
 | some o =>
  have e:=KX a o hk
  rw [ha] at e
  cases e
  refine core (fun _=>none) (fun _=>.inl rfl) (.inr ⟨_,vs.toArray,_,hk,rfl,rfl,rfl,by rw [List.size_toArray,lenV]; exact hl,by simpa using rv⟩) (fun b u z=>by have z':(none:Option HO)=some u:=z; cases z') (fun b z=>absurd rfl z) fun z=>absurd rfl z
 | none =>
  refine core (fun b=>if b=a then some (.frz { cls:=.type "list",data:=.seq vs.toArray } (.lst (ns.map V.int))) else none) (fun b=>?_) (.inl (.inr ⟨{ cls:=.type "list",data:=.seq vs.toArray },if_pos rfl⟩)) (fun b u z=>?_) (fun b z=>?_) fun _=>hk
  ·by_cases hb:b=a
   ·exact .inr ⟨_,_,if_pos hb⟩
   ·exact .inl (if_neg hb)
  ·by_cases hb:b=a
   ·have z':=(if_pos hb).symm.trans z
    cases z'
    subst hb
    exact ⟨ha,by rw [List.length_map]; exact hl,vs,_,rv,ha⟩
   ·have z':=(if_neg hb).symm.trans z
    cases z'
  ·by_cases hb:b=a
   ·exact hb
   ·exact absurd (if_neg hb) z
end L2
namespace L2
open PySem PySem.Spec PyProof.Rows
theorem walk_of {l:PySem.W.OpenLaw} {n k:Nat} {q:Program} {loose:List Str} {XP:(Str→Option Value)→Heap→Prop} {YP:World→Heap→Prop} {d:DefRec} {K:Params→PySem.W.Frag} {CX:World→CXT} {sp:World→Sp} {x:Str}
  (hn:l.most=some n) (hn2:n≤sizeLine) (hdf:d.params.defaults=[]) (hr:Room k callerA)
  (hY:∀ (w:World) (h:Heap),YP w h→(K w.params).In h)
  (F:∀ (w:World) (mg:Str→Option Value) (fa:Addr) (h:Heap),(K w.params).In h→h.Ns mainGlobals mg→mg d.name=some (.ref fa) →
   ∃ fd:FuncData,(∀ (s:Shared) (u:Value),BindsTo s fd ⟨[u],[]⟩ [(x,u)]) ∧
    ∀ base:Heap,(K w.params).In base→base.Ns mainGlobals mg→FnOk l.prog w (K w.params) mg base (CX w) k fa fd [x] (sp w))
  (hsp:∀ (w:World) (H:Hp) (a:Addr) (ns:List Int),ns.length≤n→Only H→SqL (K w.params) H a (ns.map V.int)→sp w [.ref a] H (fun v _=>v=.bl true) fun _ _ _=>False)
  (hCX:∀ (w:World) (H:Hp) (s:Shared) (e:Value) (s':Shared),CX w [] H s (fun _ _ _=>False) e s'→False) :
  PySem.W.WalkO q loose XP YP l.row.toRowW d [] (fun f vs=>PySem.call f vs):=by
 refine Att.attach_call hn hdf fun w s₀ s₁ mg mb fa o pm cd doc a vs ns G Y ho hd hcd hmg hobj hints hlen hg=>?_
 have KX:=hY w _ Y
 obtain ⟨fd,hb,hF⟩:=F w mg fa _ KX G.T.g hmg
 exact law_call KX G.T.g G.T.b G.T.builtins G.T.nolimit hg hobj hints (Nat.le_trans hlen hn2) hr hF hb (fun H hO hS=>hsp w H a ns hlen hO hS) fun H e s'=>hCX w H s₁ e s'
end L2
namespace L2
open PySem PySem.Spec PyProof.Rows
def defArgs (s:Stmt):Arguments:=match s with
 | .FunctionDef _ a _ _ _ _ _ _ _ _=>a
 | _=>{ posonlyargs:=[],args:=[],vararg:=none,kwonlyargs:=[],kw_defaults:=[],kwarg:=none,defaults:=[] }
def defBody (s:Stmt):List Stmt:=match s with
 | .FunctionDef _ _ b _ _ _ _ _ _ _=>b
 | _=>[]
def defScope (s:Stmt):Scope:=match s with
 | .FunctionDef _ _ _ _ _ _ sc _ _ _=>sc
 | _=>{ kind:=.function,names:=[],isGenerator:=false,isCoroutine:=false }
abbrev CX0:CXT:=fun _ _ _ _ _ _=>False
abbrev E0:XK:=fun _ _ _=>False
theorem pass0 {X:Cx}:Passes CX0 X E0:=fun _ _ _ _ _ _ _ h=>h.elim
structure Fun (K:PySem.W.Frag) (x qual:Str) (st:Stmt) (f:Addr) (fd:FuncData):Prop where
 ex:∃ (oc:Value) (od:Option Addr) (kV doc pm:Value) (an:Option Addr) (cdv ct:Value) (osl:Array (Option Value)),
  fd=PySem.W.fnOf x qual (defArgs st) (defBody st) (defScope st) .none kV doc pm an cdv ct∧K.lookup f=some ⟨oc,od,.func fd,osl⟩∧PySem.W.codeIn K cdv qual=true
 kp:PySem.W.keepIn K (.ref f)=true
section
variable {P:Program} {w:World} {K:PySem.W.Frag} {mg:Str→Option Value} {base:Heap}
theorem Fun.ok {x qual:Str} {st:Stmt} {f:Addr} {fd:FuncData} {N ps:List Str} {k:Nat} {sp:Sp} (F:Fun K x qual st f fd) (S:FnScope N ps (defScope st)) (len:∀ vs H Q E,sp vs H Q E→vs.length=ps.length)
  (hbody:∀ (cdv:Value) (A:Around) (outer:List Env) (s:Shared) (H:Hp) (vs:List V) (Q:VK) (E:XK),Room k (A.deeper (envOfC qual (defScope st) s.heap.objs.size f cdv))→sp vs H Q E →
   ∃ t,PSs (cxOf CX0 P w K mg base N qual (defScope st) f cdv A outer s H E).nox (defBody st) t∧t { nx:=fun _ H'=>Q .non H',rt:=Q } (start N vs) H):FnOk P w K mg base CX0 (k+1) f fd ps sp:=by
 obtain ⟨oc,od,kV,doc,pm,an,cdv,ct,osl,rfl,lk,hcd⟩:=F.ex
 refine fn_of lk hcd S len fun A outer s H vs Q E hr hsp=>?_
 obtain ⟨t,h,q⟩:=hbody cdv A outer s H vs Q E hr hsp
 exact ⟨t,h.nox,q⟩
theorem fun_mk {x qual:Str} {st:Stmt} {f:Addr} {oc:Value} {od an:Option Addr} {osl:Array (Option Value)} {kV doc pm cdv ct:Value} (l:K.lookup f=some ⟨oc,od,.func (PySem.W.fnOf x qual (defArgs st) (defBody st) (defScope st) .none kV doc pm an cdv ct),osl⟩)
  (c:PySem.W.codeIn K cdv qual=true) (k:PySem.W.keepIn K (.ref f)=true):Fun K x qual st f (PySem.W.fnOf x qual (defArgs st) (defBody st) (defScope st) .none kV doc pm an cdv ct):=⟨⟨oc,od,kV,doc,pm,an,cdv,ct,osl,rfl,l,c⟩,k⟩
end
section
variable {X:Cx}
theorem pv (i:Nat) {x:Str} {pos:Pos} (hN:X.N[i]?=some x:=by rfl) (hv:Vis X.env.scope x:=by first | exact Or.inl rfl | exact Or.inr (Or.inl rfl) | exact Or.inr (Or.inr rfl)) (hd:(x == ("__debug__" : Str))=false:=by decide)
  (hcd:(x == ("__classdict__" : Str))=false:=by decide):PE X (.Name x pos) (tVar i):=pe_var hN hv hd hcd
end
def Same (H H':Hp):Prop:=∀ b o,H b=some o→H' b=some o
theorem Same.refl (H:Hp):Same H H:=fun _ _ h=>h
theorem Same.trans {H H1 H2:Hp} (a:Same H H1) (b:Same H1 H2):Same H H2:=fun c o h=>b c o (a c o h)
theorem Same.free {H H':Hp} (e:Same H H') {l:Addr} (h:H' l=Option.none):H l=Option.none:=by
 cases q:H l with
 | none=>rfl
 | some o =>
  rw [e l o q] at h
  cases h
theorem Same.seq {K:PySem.W.Frag} {H H':Hp} {a:Addr} {xs:List V} (e:Same H H') (h:SqL K H a xs):SqL K H' a xs:=by
 rcases h with (h | ⟨o,h⟩) | h
 ·exact .inl (.inl (e _ _ h))
 ·exact .inl (.inr ⟨o,e _ _ h⟩)
 ·exact .inr h
end L2
end

noncomputable section
set_option Elab.async false
set_option linter.all false
set_option maxRecDepth 100000
namespace L2
open PySem PySem.Spec PyProof.Rows
section
variable {X:Cx} {a b c:Expr} {ta tb tc:TE} {pos:Pos}
def CDivB (i j:Int):Prop:=0 < j∧j.natAbs.log2 < 9000
theorem CDivB.of {i j:Int} (h0:0 < j) (h:j < 2 ^ 200):CDivB i j:=by
 refine ⟨h0,?_⟩
 have h2:j.natAbs < 2 ^ 200:=by lia
 have:=(Nat.log2_lt (n:=j.natAbs) (k:=200) (by lia)).mpr h2
 lia
theorem op_fdivB:OpR X (binaryOp .FloorDiv) (rI CDivB fun i j=>.int (i / j)):=opI fun i j _ _ _ _ _ hc q=>by
 have h1:(0:Int) < j:=hc.1
 exact floordiv_int (by lia) (by rw [Int.fdiv_eq_ediv_of_nonneg i (by lia)]; exact q) (.inl (PyProof.noPylong_of_log2 hc.2))
def LCh (X:Cx) (ops:List CmpOp) (rs:List Expr) (t:V→TE):Prop :=
 ∀ (pos:Pos) (pins:List (Addr × Obj)) (s:Shared) (σ:St) (H:Hp) (x:V) (v:Value) (Q:VK),Inv X pins σ H s→RelV x v→t x σ H Q →
  wpAny (model X.prog X.w) X.A (compareChain pos v ops (evalEach rs X.env)) (EP X pins σ Q) X.xe s
def LChT (X:Cx) (ops:List CmpOp) (rs:List Expr) (t:V→TT):Prop :=
 ∀ (pos:Pos) (pins:List (Addr × Obj)) (s:Shared) (σ:St) (H:Hp) (x:V) (v:Value) (Q:Bool→Hp→Prop),Inv X pins σ H s→RelV x v→t x σ H Q →
  wpAny (model X.prog X.w) X.A (testChain pos v ops (evalEach rs X.env)) (TP X pins σ Q) X.xe s
variable {op op':CmpOp} {ops:List CmpOp} {rs:List Expr} {r:R2} {t:V→TE} {tt:V→TT}
theorem ch_one (ho:OpR X (compareOp op) r) (hb:PE X b tb):LCh X [op] [b] (fun x σ H Q=>tb σ H fun y H2=>r x y H2 Q):=by
 intro pos pins s σ H x v Q I rx h
 exact chain_last (thn (hb pins s σ H _ I h) fun u s1 hq1=>by obtain ⟨y,H1,I1,r1,q1⟩:=hq1; exact ho pins s1 σ H1 x y v u Q I1 rx r1 q1)
theorem ch_cons (ho:OpR X (compareOp op) r) (hb:PE X b tb) (hc:LCh X (op'::ops) (c::rs) t) :
  LCh X (op::op'::ops) (b::c::rs) (fun x σ H Q=>tb σ H fun y H2=>r x y H2 fun z H3=>∃ k,z=.bl k∧(if k=true then t y σ H3 Q else Q (.bl false) H3)):=by
 intro pos pins s σ H x v Q I rx h
 refine chain_link (thn (hb pins s σ H _ I h) fun u s1 ⟨y,H1,I1,r1,q1⟩=>thn (ho pins s1 σ H1 x y v u _ I1 rx r1 q1) fun d s3 ⟨z,H3,I3,r3,k,e,q3⟩=>?_)
 subst e
 cases r3
 refine wpAny_truthy_bool ?_
 cases k with
 | false=>exact ite_ff ⟨.bl false,H3,I3,rfl,q3⟩
 | true=>exact ite_tt (hc pos pins s3 σ H3 y u Q I3 r1 q3)
theorem cht_one (ho:OpR X (compareOp op) r) (hb:PE X b tb):LChT X [op] [b] (fun x σ H Q=>tb σ H fun y H2=>r x y H2 fun z H3=>∃ k,z=.bl k∧Q k H3):=by
 intro pos pins s σ H x v Q I rx h
 refine test_last (thn (hb pins s σ H _ I h) fun u s1 ⟨y,H1,I1,r1,q1⟩=>thn (ho pins s1 σ H1 x y v u _ I1 rx r1 q1) fun d s3 ⟨z,H3,I3,r3,k,e,q3⟩=>?_)
 subst e
 cases r3
 exact wpAny_truthy_bool ⟨H3,I3,q3⟩
theorem cht_cons (ho:OpR X (compareOp op) r) (hb:PE X b tb) (hc:LChT X (op'::ops) (c::rs) tt) :
  LChT X (op::op'::ops) (b::c::rs) (fun x σ H Q=>tb σ H fun y H2=>r x y H2 fun z H3=>∃ k,z=.bl k∧(if k=true then tt y σ H3 Q else Q false H3)):=by
 intro pos pins s σ H x v Q I rx h
 refine test_link (thn (hb pins s σ H _ I h) fun u s1 ⟨y,H1,I1,r1,q1⟩=>thn (ho pins s1 σ H1 x y v u _ I1 rx r1 q1) fun d s3 ⟨z,H3,I3,r3,k,e,q3⟩=>?_)
 subst e
 cases r3
 refine wpAny_truthy_bool ?_
 cases k with
 | false=>exact ite_ff ⟨H3,I3,q3⟩
 | true=>exact ite_tt (hc pos pins s3 σ H3 y u Q I3 r1 q3)
theorem pt_chainN {op₁ op₂:CmpOp} (ha:PE X a ta) (hc:LChT X (op₁::op₂::ops) (b::c::rs) tt) (hm:lastMarks (op₁::op₂::ops) (b::c::rs)=false:=by with_unfolding_all rfl) :
  PT X (.Compare a (op₁::op₂::ops) (b::c::rs) pos) (fun σ H Q=>ta σ H fun x H1=>tt x σ H1 Q):=by
 intro pins s σ H Q I h
 exact isTrue_chain (thn (ha pins s σ H _ I h) fun v s1 hq9=>by obtain ⟨x,H1,I1,r1,q1⟩:=hq9; exact hc pos pins s1 σ H1 x v Q I1 r1 q1) hm
theorem call_isi:CallR X (.builtin "isinstance") (fun xs H Q=>∃ x n t k,xs=[x,.ty n]∧TyOf X.K H x t∧PySem.W.kitOne X.K t (.type n)=some k∧Q (.bl k) H):=by
 intro pins s σ H xs us Q I r h
 obtain ⟨x,n,t,k,rfl,ty,e,q⟩:=h
 obtain ⟨u,w',rfl,r1,r2⟩:=vals2 r
 cases r2
 exact isinst_ok I r1 ty e fun tk=>⟨.bl k,H,I.tok _,rfl,q⟩
end
end L2
end

noncomputable section
set_option Elab.async false
set_option linter.all false
set_option maxRecDepth 100000
namespace L2
open PySem PySem.Spec PyProof.Rows
theorem bt_max:bootBuiltins "max" = some (.builtin "max"):=by decide +kernel
theorem bt_min:bootBuiltins "min" = some (.builtin "min"):=by decide +kernel
theorem bt_int:bootBuiltins "int" = some (.type "int"):=by decide +kernel
theorem bt_bool:bootBuiltins "bool" = some (.type "bool"):=by decide +kernel
theorem bt_tuple:bootBuiltins "tuple" = some (.type "tuple"):=by decide +kernel
theorem bt_list:bootBuiltins "list" = some (.type "list"):=by decide +kernel
theorem bt_isi:bootBuiltins "isinstance" = some (.builtin "isinstance"):=by decide +kernel
theorem bt_len:bootBuiltins "len" = some (.builtin "len"):=by decide +kernel
theorem iteDT {c A B:Prop} [Decidable c] (hc:c) (h:A):if decide c=true then A else B:=by
 rw [if_pos (decide_eq_true hc)]
 exact h
theorem iteDF {c A B:Prop} [Decidable c] (hc:¬ c) (h:B):if decide c=true then A else B:=by
 rw [if_neg (by simp [hc])]
 exact h
theorem iteD {c A B:Prop} [Decidable c] (h1:c→A) (h2:¬ c→B):if decide c=true then A else B:=by
 by_cases h:c
 ·exact iteDT h (h1 h)
 ·exact iteDF h (h2 h)
theorem Same.new {H:Hp} {p:Addr} {o:HO} (n:H p=none):Same H (L2.upd H p o):=fun b u e=>by rw [upd_ne (ne_of_none e n)]; exact e
section
variable {X:Cx} {st:Stmt} {rest:List Stmt} {t u:TS}
end
theorem pow18:CPow 10 18:=⟨by decide,by decide,by decide⟩
section
variable {X:Cx}
theorem mod_lt' {a:Int} {b:Int} (h:0 < b):0≤a % b∧a % b < b:=⟨Int.emod_nonneg a (by omega),Int.emod_lt_of_pos a h⟩
end
end L2
end

noncomputable section
set_option Elab.async false
set_option linter.all false
set_option maxRecDepth 100000
namespace L2
open PySem PySem.Spec PyProof.Rows
def compCx (X:Cx) (scope:Scope) (N':List Str) (cl:List (Str × Addr)) (C:Addr) (s:Shared) (H:Hp) (ex:List Addr):Cx :=
 { X with N:=N',s₀:=s,H₀:=H,env:=compEnvC scope cl C X.env,outer:=X.stack,stack:=X.stack,ex:=ex,fn:=fun _=>false,pn:=[],xe:=fun _ _=>False }
theorem closure_of {env:Env}:∀ (names:List (Str × NameKind)) (cs:List (Str × Addr)),(∀ x,(x,NameKind.free) ∈ names→∃ c,env.cells.lookup x=some c) →
  (∀ x c,cs.lookup x=some c→env.cells.lookup x=some c) →
  ∃ cl,(forIn names cs fun (p:Str × NameKind) (cs:List (Str × Addr))=>do
   if p.2 == .free then do
    let a ← cellOf env p.1
    pure (ForInStep.yield ((p.1,a)::cs))
   else pure (ForInStep.yield cs):Sem (List (Str × Addr)))=pure cl ∧
   (∀ x,((x,NameKind.free) ∈ names∨(∃ c,cs.lookup x=some c))→∃ c,cl.lookup x=some c)∧∀ x c,cl.lookup x=some c→env.cells.lookup x=some c
 | [],cs,_,hcs=>⟨cs,rfl,fun x h=>h.elim (fun z=>nomatch z) id,hcs⟩
 | (n,k)::names,cs,hf,hcs=>by
  by_cases hk:k=.free
  ·subst hk
   obtain ⟨c,hc⟩:=hf n (List.mem_cons_self ..)
   obtain ⟨cl,e,h1,h2⟩:=closure_of names ((n,c)::cs) (fun x hx=>hf x (List.mem_cons_of_mem _ hx)) (fun x c' hx=>by
    rw [List.lookup_cons] at hx
    cases q:x == n with
    | true=>rw [q] at hx; cases hx; rw [eq_of_beq q]; exact hc
    | false=>rw [q] at hx; exact hcs x c' hx)
   refine ⟨cl,?_,fun x hx=>h1 x ?_,h2⟩
   ·rw [List.forIn_cons]
    have ec:cellOf env n=pure c:=by unfold cellOf; rw [hc]
    simp only [beq_self_eq_true,if_true,ec]
    exact e
   ·rcases hx with hx | ⟨c',hx⟩
    ·rcases List.mem_cons.mp hx with z | z
     ·cases z
      exact .inr ⟨c,by simp⟩
     ·exact .inl z
    ·right
     rw [List.lookup_cons]
     cases q:x == n with
     | true=>exact ⟨c,rfl⟩
     | false=>exact ⟨c',hx⟩
  ·obtain ⟨cl,e,h1,h2⟩:=closure_of names cs (fun x hx=>hf x (List.mem_cons_of_mem _ hx)) hcs
   refine ⟨cl,?_,fun x hx=>h1 x ?_,h2⟩
   ·rw [List.forIn_cons]
    have hb:(k == NameKind.free)=false:=by simpa using hk
    simp only [hb,Bool.false_eq_true,if_false]
    exact e
   ·rcases hx with hx | hx
    ·rcases List.mem_cons.mp hx with z | z
     ·cases z; exact absurd rfl hk
     ·exact .inl z
    ·exact .inr hx
theorem closureFor_of {env:Env} {scope:Scope} (h:∀ x,(x,NameKind.free) ∈ scope.names→∃ c,env.cells.lookup x=some c) :
  ∃ cl,closureFor scope env=pure cl∧(∀ x,(x,NameKind.free) ∈ scope.names→∃ c,cl.lookup x=some c)∧∀ x c,cl.lookup x=some c→env.cells.lookup x=some c:=by
 obtain ⟨cl,e,h1,h2⟩:=closure_of scope.names [] h (fun x c z=>by simp at z)
 refine ⟨cl,?_,fun x hx=>h1 x (.inl hx),h2⟩
 unfold closureFor
 refine Eq.trans ?_ (congrArg (· >>= pure) e)
 rfl
structure Links (X:Cx) (scope:Scope) (N':List Str) (lk:List (Option Nat)):Prop where
 kind:scope.kind=.function
 nocell:∀ x ∈ scope.names,x.2≠.cell
 names:∀ x ∈ scope.names,x.2=.local→scope.names.lookup x.1=some .local
 free:∀ x,(x,NameKind.free) ∈ scope.names→X.env.kindOf x=some .cell∨X.env.kindOf x=some .free
 len:lk.length=N'.length
 link:∀ (i j:Nat),lk[i]?=some (some j)→∃ x,N'[i]?=some x∧X.N[j]?=some x∧(x,NameKind.free) ∈ scope.names∧scope.names.lookup x=some .free
def linksB (outer:List (Str × NameKind)) (N:List Str) (scope:Scope) (N':List Str) (lk:List (Option Nat)):Bool :=
 (scope.kind == .function) && scope.names.all (fun x=>x.2 != .cell && (x.2 != .local || scope.names.lookup x.1 == some .local) && (x.2 != .free || outer.lookup x.1 == some .cell || outer.lookup x.1 == some .free)) &&
 lk.length == N'.length && (List.range lk.length).all fun i=>match lk[i]? with
  | some (some j)=>match N'[i]? with
   | some x=>N[j]? == some x && scope.names.contains (x,.free) && scope.names.lookup x == some .free
   | none=>false
  | _=>true
theorem Links.of {X:Cx} {scope:Scope} {N':List Str} {lk:List (Option Nat)} (h:linksB X.env.scope.names X.N scope N' lk=true):Links X scope N' lk:=by
 simp only [linksB,Bool.and_eq_true] at h
 obtain ⟨⟨⟨h1,h2⟩,h3⟩,h4⟩:=h
 rw [List.all_eq_true] at h2 h4
 refine ⟨by simpa using h1,fun x hx=>?_,fun x hx hl=>?_,fun x hx=>?_,by simpa using h3,fun i j hij=>?_⟩
 ·have:=h2 x hx
  simp only [Bool.and_eq_true] at this
  simpa using this.1.1
 ·have:=h2 x hx
  simp only [Bool.and_eq_true] at this
  have q:=this.1.2
  rw [hl] at q
  simpa using q
 ·have:=h2 _ hx
  simp only [Bool.and_eq_true] at this
  have q:=this.2
  simp only [Bool.or_eq_true] at q
  rcases q with (q | q) | q
  ·simp at q
  ·exact .inl (show X.env.scope.names.lookup x=some .cell by simpa using q)
  ·exact .inr (show X.env.scope.names.lookup x=some .free by simpa using q)
 ·have hi:i < lk.length:=(List.getElem?_eq_some_iff.mp hij).1
  have q:=h4 i (List.mem_range.mpr hi)
  rw [hij] at q
  simp only at q
  cases e:N'[i]? with
  | none=>rw [e] at q; simp at q
  | some x =>
   rw [e] at q
   simp only [Bool.and_eq_true] at q
   obtain ⟨⟨q1,q2⟩,q3⟩:=q
   exact ⟨x,rfl,by simpa using q1,by simpa using q2,by simpa using q3⟩
def inSt (lk:List (Option Nat)) (σ:St):St:=lk.map fun l=>match l with | some j=>(match σ[j]? with | some v=>v | none=>none) | none=>none
theorem lookup_relabel_free {env:Env}:∀ {names:List (Str × NameKind)} {x:Str},names.lookup x=some .free →
  (names.map fun (n,k)=>if (k == NameKind.free && env.scope.kind == .function && env.kindOf n == some .cell) then (n,NameKind.cell) else (n,k)).lookup x=some .cell ∨
  (names.map fun (n,k)=>if (k == NameKind.free && env.scope.kind == .function && env.kindOf n == some .cell) then (n,NameKind.cell) else (n,k)).lookup x=some .free
 | [],_,h=>by simp at h
 | (n,k)::r,x,h=>by
  have ih:=@lookup_relabel_free env r x
  show List.lookup x ((if (k == NameKind.free && env.scope.kind == .function && env.kindOf n == some .cell)=true then (n,NameKind.cell) else (n,k))::_)=_ ∨
   List.lookup x ((if (k == NameKind.free && env.scope.kind == .function && env.kindOf n == some .cell)=true then (n,NameKind.cell) else (n,k))::_)=_
  cases hx:x == n with
  | true =>
   simp only [List.lookup_cons,hx] at h
   cases h
   by_cases hc:(NameKind.free == NameKind.free && env.scope.kind == .function && env.kindOf n == some .cell)=true
   ·rw [if_pos hc]; left; simp [List.lookup_cons,hx]
   ·rw [if_neg hc]; right; simp [List.lookup_cons,hx]
  | false =>
   simp only [List.lookup_cons,hx] at h
   by_cases hc:(k == NameKind.free && env.scope.kind == .function && env.kindOf n == some .cell)=true
   ·rw [if_pos hc]; simp only [List.lookup_cons,hx]; exact ih h
   ·rw [if_neg hc]; simp only [List.lookup_cons,hx]; exact ih h
theorem lookup_mem_free {env:Env}:∀ {names:List (Str × NameKind)} {x:Str} {k:NameKind},(k=.cell∨k=.free)→(∀ y ∈ names,y.2≠.cell) →
  (names.map fun (n,k)=>if (k == NameKind.free && env.scope.kind == .function && env.kindOf n == some .cell) then (n,NameKind.cell) else (n,k)).lookup x=some k→(x,NameKind.free) ∈ names
 | [],_,_,_,_,h=>by simp at h
 | (n,k')::r,x,k,hk,hc,h=>by
  have ih:=@lookup_mem_free env r x k hk (fun y hy=>hc y (List.mem_cons_of_mem _ hy))
  have h':List.lookup x ((if (k' == NameKind.free && env.scope.kind == .function && env.kindOf n == some .cell)=true then (n,NameKind.cell) else (n,k'))::(r.map fun (n,k)=>if (k == NameKind.free && env.scope.kind == .function && env.kindOf n == some .cell) then (n,NameKind.cell) else (n,k)))=some k:=h
  have hk':=hc (n,k') (List.mem_cons_self ..)
  by_cases hcnd:(k' == NameKind.free && env.scope.kind == .function && env.kindOf n == some .cell)=true
  ·rw [if_pos hcnd] at h'
   simp only [Bool.and_eq_true,beq_iff_eq] at hcnd
   cases hx:x == n with
   | true=>rw [eq_of_beq hx,hcnd.1.1]; exact List.mem_cons_self ..
   | false=>rw [List.lookup_cons,hx] at h'; exact List.mem_cons_of_mem _ (ih h')
  ·rw [if_neg hcnd] at h'
   cases hx:x == n with
   | true =>
    rw [List.lookup_cons,hx] at h'
    have e:k'=k:=by simpa using h'
    subst e
    rcases hk with hk | hk
    ·exact absurd hk hk'
    ·rw [eq_of_beq hx,hk]; exact List.mem_cons_self ..
   | false=>rw [List.lookup_cons,hx] at h'; exact List.mem_cons_of_mem _ (ih h')
section
variable {X:Cx} {pins:List (Addr × Obj)} {σ:St} {H:Hp} {s:Shared} {scope:Scope} {N':List Str} {lk:List (Option Nat)} {cl:List (Str × Addr)} {ex:List Addr}
theorem inv_comp {h':Heap} {t':Nat} (I:Inv X pins σ H s) (L:Links X scope N' lk) (hex:∀ b ∈ ex,FpOk X pins H b) (hob:∀ b ∈ ex,∃ o,s.heap.get? b=some o)
  (hc1:∀ x,(x,NameKind.free) ∈ scope.names→∃ c,cl.lookup x=some c) (hc2:∀ x c,cl.lookup x=some c→X.env.cells.lookup x=some c)
  (hn:h'.Ns s.heap.objs.size (fun _=>none)) (hk:∀ b o,s.heap.get? b=some o→h'.get? b=some o) :
  Inv (compCx X scope N' cl s.heap.objs.size s H ex) [] (inSt lk σ) H { s with heap:=h',toks:=t' }:=by
 obtain ⟨m,hm,hl⟩:=I.loc
 have exl:∀ b ∈ ex,b≠s.heap.objs.size:=fun b hb=>by
  obtain ⟨o,e⟩:=hob b hb
  exact Nat.ne_of_lt (Heap.lt_size e)
 refine ⟨⟨I.ok.mod,L.kind,I.ok.glob,I.ok.blt,Nat.le_refl _,fun x y c h1 h2=>I.ok.inj x y c (hc2 _ _ h1) (hc2 _ _ h2),fun x hx=>?_,fun x c z=>(nomatch z),I.ok.hd,I.ok.frames,.inl rfl,
  fun b hb=>⟨exl b hb,fun x c e=>(hex b hb).2.2.2.2.1 x c (hc2 _ _ e)⟩,I.bs,Nat.le_trans I.ok.bsz I.sz,fun b o e z=>?_,fun b hb z=>?_,I.stack,I.stkFree⟩,
  rfl,I.bare,Un.kept hk,⟨_,hn,fun i x v h1 h2 h3=>?_⟩,fun x c e=>?_,I.hok.fresh (Nat.le_refl _),fun x c e=>I.freeC x c (hc2 _ _ e),fun p hp=>absurd (show p ∈ ([]:List (Addr × Obj)) from hp) (by simp),I.hok.kept hk,?_⟩
 ·have hx':(relabel scope X.env).names.lookup x=some .cell∨(relabel scope X.env).names.lookup x=some .free:=hx
  rcases hx' with q | q
  ·exact hc1 x (lookup_mem_free (.inl rfl) L.nocell q)
  ·exact hc1 x (lookup_mem_free (.inr rfl) L.nocell q)
 ·obtain ⟨f0,f1,f2,f3,_⟩:=hex b z
  rcases f3 with q | q
  ·exact I.ok.noex b o e q
  ·have h1:=Heap.lt_size e
   have h2:=I.ok.bsz
   exact absurd (Nat.lt_of_lt_of_le h1 (Nat.le_trans h2 q)) (Nat.lt_irrefl _)
 ·obtain ⟨f0,f1,f2,f3,_⟩:=hex b hb
  rcases List.mem_cons.mp (I.stkSub b z) with q | q
  ·exact f1 q
  ·exact f2 q
 ·have hi:∃ j,lk[i]?=some (some j)∧σ[j]?=some (some v):=by
   have h2':(inSt lk σ)[i]?=some (some v):=h2
   unfold inSt at h2'
   rw [List.getElem?_map] at h2'
   cases e:lk[i]? with
   | none=>rw [e] at h2'; cases h2'
   | some l =>
    cases l with
    | none=>rw [e] at h2'; cases h2'
    | some j =>
     rw [e] at h2'
     cases e2:σ[j]? with
     | none=>simp [e2] at h2'
     | some w' =>
      simp only [Option.map_some,e2,Option.some.injEq] at h2'
      subst h2'
      exact ⟨j,rfl,e2⟩
  obtain ⟨j,hj,hσ⟩:=hi
  obtain ⟨y,e1,e2,e3,e4⟩:=L.link i j hj
  have exy:x=y:=by
   have h1':N'[i]?=some x:=h1
   rw [e1] at h1'; exact (Option.some.inj h1').symm
  subst exy
  have hvis:Vis X.env.scope x:=by
   rcases L.free x e3 with q | q
   ·exact .inr (.inl q)
   ·exact .inr (.inr q)
  obtain ⟨u,ru,lu⟩:=hl j x v e2 hσ hvis
  refine ⟨u,ru,.inr ⟨?_,?_⟩⟩
  ·exact lookup_relabel_free e4
  ·rcases lu with ⟨k,_⟩ | ⟨_,c,hc,z⟩
   ·rcases L.free x e3 with q | q <;> (rw [k] at q; cases q)
   ·obtain ⟨c',hc'⟩:=hc1 x e3
    have:=hc2 x c' hc'
    rw [hc] at this
    cases this
    obtain ⟨o,ho,hd⟩:=z
    exact ⟨c,hc',o,hk _ _ ho,hd⟩
 ·obtain ⟨v,o,ho,hd⟩:=I.cell x c (hc2 _ _ e)
  exact ⟨v,o,hk _ _ ho,hd⟩
 ·show (inSt lk σ).length=N'.length
  unfold inSt
  rw [List.length_map,L.len]
theorem inv_back {s':Shared} {σ':St} {H':Hp} {pl:List (Addr × Obj)} {C:Addr} {h'':Heap} (I:Inv X pins σ H s) (hex:∀ b ∈ ex,FpOk X pins H b)
  (J:Inv (compCx X scope N' cl s.heap.objs.size s H ex) pl σ' H' s') (hs:Heap.SameBut s.heap.objs.size s'.heap h''):Inv X pins σ H' { s' with heap:=h'' }:=by
 have hC:H' s.heap.objs.size=none:=J.free
 have u:=J.base
 refine I.call' (ch:=ex) (s':={ s' with heap:=h'' }) J.os ?_ ?_ J.bare (fun b hb=>?_)
 ·have kk:∀ b o,b≠s.heap.objs.size→s'.heap.get? b=some o→h''.get? b=some o:=fun b o hb e=>(hs.2 b hb).trans e
  have ne:∀ b o,s.heap.get? b=some o→b≠s.heap.objs.size:=fun b o e=>Nat.ne_of_lt (Heap.lt_size e)
  refine ⟨fun b o e n hb hx=>kk b _ (ne b o e) (u.keep b o e n hb hx),fun b o e n hb hx=>?_,u.free,fun b o e hx=>?_,u.tups,u.frzs,u.tbls⟩
  ·obtain ⟨sl,q⟩:=u.slot b o e n hb hx
   exact ⟨sl,kk b _ (ne b o e) q⟩
  ·obtain ⟨o',q⟩:=u.there b o e hx
   exact ⟨o',kk b _ (ne b o e) q⟩
 ·intro b o e
  have hb:b≠s.heap.objs.size:=fun z=>by rw [z] at e; rw [hC] at e; cases e
  refine (J.hok b o e).stay (fun c v hc q=>(hs.2 c ?_).trans q) (fun _ q=>q) fun _ _ q=>q
  rcases hc with z | z
  ·rw [z]; exact hb
  ·intro z'; rw [z'] at z; rw [hC] at z; cases z
 ·obtain ⟨f0,f1,f2,f3,f4,f5⟩:=hex b hb
  exact ⟨f3,f1,f4,f5⟩
end
end L2
end

noncomputable section
set_option Elab.async false
set_option linter.all false
set_option maxRecDepth 100000
namespace L2
open PySem PySem.Spec PyProof.Rows
def turnForm (g:Comprehension) (after:Sem Fin→Sem Fin) (e:Expr) (d:Nat) (it acc:Value) (env:Env):Sem Fin:=do
 standAt g.iter.pos
 match ← pyNext it with
 | none=>pure (.done .next)
 | some v =>
  letOwnedTupleGo g.target it v
  assign g.target env v
  let mut ok:=true
  for c in g.ifs do
   if ok then ok ← isTrue c env (eval c env)
  if ok then after (again (.compLoop e d it acc env)) else again (.compLoop e d it acc env)
def nestAft (e:Expr) (d:Nat) (g':Comprehension) (acc:Value) (env:Env) (k:Sem Fin):Sem Fin:=do
 let x ← eval g'.iter env
 standAt g'.iter.pos
 let x ← foldedSetIterable g'.iter env x
 let _ ← runOwn (.compStart e (d+1) (← holding [x] (pyIter x)) acc env) env
 k
def thenK (t:Sem Unit) (k:Sem Fin):Sem Fin:=do
 t
 k
def emitL (elt:Expr) (acc:Value) (env:Env):Sem Unit:=do let _ ← call (.builtin "list.append") [acc,← eval elt env]
def emitD (k v:Expr) (acc:Value) (env:Env):Sem Unit:=do
    let kv ← eval k env
    let vv ← holding [kv] (eval v env)
    match acc with
    | .ref d=>do
     standAt { k.pos with endLine:=v.pos.endLine,endCol:=v.pos.endCol }
     holding [kv,vv] (dictSet d kv vv)
    | _=>unsupported "internal:dictcomp"
structure CForm (e:Expr) (d:Nat) (g:Comprehension) (acc:Value) (env:Env) (after:Sem Fin→Sem Fin):Prop where
 turn:∀ it,compTurn e d it acc env=turnForm g after e d it acc env
 cl:(clausesOf e)[d]?=some g
 sync:g.is_async=0
 quiet:∀ it,(Code.compLoop e d it acc env).quiet=true
 under:∀ (A:Around) it,A.under (Code.compLoop e d it acc env)=A
 underS:∀ (A:Around) it,A.under (Code.compStart e d it acc env)=A
 nofr:∀ it,(Code.compLoop e d it acc env).isFrame=false
 nofrS:∀ it,(Code.compStart e d it acc env).isFrame=false
section
variable {elt tg tg2 it1 it2 k v:Expr} {ifs ifs2:List Expr} {sc:Scope} {pos:Pos} {acc:Value} {env:Env}
theorem cf_l1:CForm (.ListComp elt [⟨tg,it1,ifs,0⟩] sc pos) 0 ⟨tg,it1,ifs,0⟩ acc env (thenK (emitL elt acc env)) :=
 ⟨fun _=>rfl,rfl,rfl,fun _=>rfl,fun _ _=>rfl,fun _ _=>rfl,fun _=>rfl,fun _=>rfl⟩
theorem cf_d1:CForm (.DictComp k v [⟨tg,it1,ifs,0⟩] sc pos) 0 ⟨tg,it1,ifs,0⟩ acc env (thenK (emitD k v acc env)) :=
 ⟨fun _=>rfl,rfl,rfl,fun _=>rfl,fun _ _=>rfl,fun _ _=>rfl,fun _=>rfl,fun _=>rfl⟩
theorem cf_l20:CForm (.ListComp elt [⟨tg,it1,ifs,0⟩,⟨tg2,it2,ifs2,0⟩] sc pos) 0 ⟨tg,it1,ifs,0⟩ acc env (nestAft (.ListComp elt [⟨tg,it1,ifs,0⟩,⟨tg2,it2,ifs2,0⟩] sc pos) 0 ⟨tg2,it2,ifs2,0⟩ acc env) :=
 ⟨fun _=>rfl,rfl,rfl,fun _=>rfl,fun _ _=>rfl,fun _ _=>rfl,fun _=>rfl,fun _=>rfl⟩
theorem cf_l21:CForm (.ListComp elt [⟨tg,it1,ifs,0⟩,⟨tg2,it2,ifs2,0⟩] sc pos) 1 ⟨tg2,it2,ifs2,0⟩ acc env (thenK (emitL elt acc env)) :=
 ⟨fun _=>rfl,rfl,rfl,fun _=>rfl,fun _ _=>rfl,fun _ _=>rfl,fun _=>rfl,fun _=>rfl⟩
end
def tTrue:TT:=fun _ H Q=>Q true H
def PTs (X:Cx) (ifs:List Expr) (t:TT):Prop :=
 ∀ (pins:List (Addr × Obj)) (s:Shared) (σ:St) (H:Hp) (Q:Bool→Hp→Prop),Inv X pins σ H s→t σ H Q →
  wpAny (model X.prog X.w) X.A (forIn ifs true fun c r=>if r=true then do let ok ← isTrue c X.env (eval c X.env); pure (ForInStep.yield ok) else pure (ForInStep.yield r)) (TP X pins σ Q) X.xe s
theorem pts_nil {X:Cx}:PTs X [] tTrue:=fun _ _ _ H _ I h=>wpAny_tests_nil ⟨H,I,h⟩
theorem pts_one {X:Cx} {c:Expr} {t:TT} (h:PT X c t):PTs X [c] t:=fun pins s σ H Q I q=>wpAny_tests_one (h pins s σ H Q I q)
abbrev TAft:=(St→Hp→Prop)→St→Hp→Prop
def PAft (X:Cx) (after:Sem Fin→Sem Fin) (t:TAft):Prop :=
 ∀ (pins:List (Addr × Obj)) (s:Shared) (σ:St) (H:Hp) (N:St→Hp→Prop) (k:Sem Fin) (Q:Fin→Shared→Prop) (E:Value→Shared→Prop),Inv X pins σ H s→t N σ H →
  (∀ σ' H' s',Inv X pins σ' H' s'→N σ' H'→wpAny (model X.prog X.w) X.A k Q E s')→wpAny (model X.prog X.w) X.A (after k) Q E s
theorem nox_any {X:Cx} (hx:X.xe=fun _ _=>False) {α:Type} {t:Sem α} {Q:α→Shared→Prop} {E:Value→Shared→Prop} {s:Shared} (h:wpAny (model X.prog X.w) X.A t Q X.xe s):wpAny (model X.prog X.w) X.A t Q E s :=
 wpAny_mono h (fun _ _ q=>q) fun e s q=>by rw [hx] at q; exact q.elim
def tLoop (J:It) (g:TG) (tt:TT) (ta:TAft) (End:St→Hp→Prop):St→Hp→Prop:=fun σ H =>
 ∃ W:Nat→Nat→St→Hp→Prop,(∃ m,W 0 m σ H)∧∀ i m σ H,W i m σ H→(J.stop i H∧End σ H) ∨
  (J.go i H∧∃ N:St→Hp→Prop,(∀ σ' H',N σ' H'→∃ m',m' < m∧W (i+1) m' σ' H')∧∀ x H',J.yld i H x H'→g x σ H' fun σ2 H2=>tt σ2 H2 fun b H3=>if b=true then ta N σ2 H3 else N σ2 H3)
section
variable {X:Cx} {e:Expr} {d:Nat} {g:Comprehension} {acc:Value} {after:Sem Fin→Sem Fin} {tg:TG} {tt:TT} {ta:TAft}
theorem comp_loop (hx:X.xe=fun _ _=>False) (hc:X.calm=true) (F:CForm e d g acc X.env after) (hg:PG X g.target tg) (ht:PTs X g.ifs tt) (ha:PAft X after ta)
  {it:Addr} {fp:List Addr} {tn:Nat→Heap→Prop} {J:It} (T:Turn X.prog X.w X.K g.target J fp it tn) {pins:List (Addr × Obj)} {σ:St} {H:Hp} {s:Shared} {End:St→Hp→Prop}
  (I:Inv X pins σ H s) (st:tn 0 s.heap) (hf:∀ b ∈ fp,FpOk X pins H b) (h:tLoop J tg tt ta End σ H) :
  codeAny (model X.prog X.w) X.A (.compLoop e d (.ref it) acc X.env) (fun r s'=>r=.ok .next∧∃ σ' H',Inv X pins σ' H' s'∧End σ' H') s:=by
 obtain ⟨W,⟨m0,w0⟩,turn⟩:=h
 have stat:∀ {H':Hp},(∀ b ∈ fp,H' b=none)→∀ b ∈ fp,FpOk X pins H' b:=fun hn b hb=>⟨hn b hb,(hf b hb).2⟩
 refine codeAny_loop (F.quiet _) (fun n s'=>∃ i σ' H',Inv X pins σ' H' s'∧tn i s'.heap∧(∀ b ∈ fp,H' b=none)∧W i n σ' H') (fun n s3 hI=>?_) m0 ⟨0,σ,H,I,st,fun b hb=>(hf b hb).1,w0⟩
 obtain ⟨i,σ3,H3,I3,st3,fr3,w3⟩:=hI
 rw [F.under]
 have hden:(model X.prog X.w).den (.compLoop e d (.ref it) acc X.env)=(turnForm g after e d (.ref it) acc X.env).onRaise (fun x=>do noteFrame x X.env; theTreesLotGoes x):=by
  rw [← F.turn]
  show (if (Code.compLoop e d (.ref it) acc X.env).isFrame then _ else _)=_
  rw [F.nofr]
  rfl
 rw [hden]
 refine wpAny_noted ?_
 unfold turnForm
 rcases turn i n σ3 H3 w3 with ⟨stop,qn⟩ | ⟨go,N,hN,step⟩
 ·refine wpAny_bind (wpAny_standAt (wpAny_bind (thn (T.done X rfl rfl rfl hc i pins s3 σ3 H3 _ I3 (stat fr3) st3 stop) fun r s4 ⟨hr,I4⟩=>?_)))
  subst hr
  exact wpAny_pure ⟨rfl,σ3,H3,I4,qn⟩
 ·refine wpAny_bind (wpAny_standAt (wpAny_bind (thn (T.item X rfl rfl rfl hc i pins s3 σ3 H3 _ I3 (stat fr3) st3 go) fun r s4 ⟨u,hr,h4⟩=>?_)))
  subst hr
  refine wpAny_bind (thn h4 fun _ s5 ⟨x,H5,I5,r5,y5,st5,fr5⟩=>?_)
  have I5':=I5.pinned (stat fr5) (T.obj _ _ st5)
  refine wpAny_bind (thn (nox_any hx (hg _ s5 σ3 H5 x u _ I5' r5 (step x H5 y5))) fun _ s6 ⟨σ6,H6,I6,q6⟩=>?_)
  refine wpAny_bind (thn (nox_any hx (ht _ s6 σ6 H6 _ I6 q6)) fun ok s7 ⟨H7,I7,q7⟩=>?_)
  have againN:∀ {σ8:St} {H8:Hp} {s8:Shared},Inv X (pins++pinsAt fp s5.heap) σ8 H8 s8→N σ8 H8→∃ m,m < n∧∃ i σ' H',Inv X pins σ' H' s8∧tn i s8.heap∧(∀ b ∈ fp,H' b=none)∧W i m σ' H':=fun {σ8 H8 s8} I8 n8=>by
   obtain ⟨m',hm,w8⟩:=hN σ8 H8 n8
   refine ⟨m',hm,i+1,σ8,H8,I8.unpinned,T.keep _ _ _ st5 fun b hb o e=>(I8.pin (b,o) (List.mem_append_right _ (List.mem_append_right _ (mem_pinsAt hb e)))).1,fun b hb=>?_,w8⟩
   obtain ⟨o,e,d⟩:=T.obj _ _ st5 b hb
   exact (I8.pin (b,o) (List.mem_append_right _ (List.mem_append_right _ (mem_pinsAt hb e)))).2.1
  cases ok with
  | false=>exact wpAny_pure ⟨rfl,againN I7 (by simpa using q7)⟩
  | true =>
   exact ha _ s7 σ6 H7 N _ _ _ I7 (by simpa using q7) fun σ8 H8 s8 I8 n8=>wpAny_pure ⟨rfl,againN I8 n8⟩
theorem comp_start (hx:X.xe=fun _ _=>False) (hc:X.calm=true) (F:CForm e d g acc X.env after) (hg:PG X g.target tg) (ht:PTs X g.ifs tt) (ha:PAft X after ta)
  {it:Addr} {fp:List Addr} {tn:Nat→Heap→Prop} {J:It} (T:Turn X.prog X.w X.K g.target J fp it tn) {pins:List (Addr × Obj)} {σ:St} {H:Hp} {s:Shared} {End:St→Hp→Prop}
  (I:Inv X pins σ H s) (st:tn 0 s.heap) (hf:∀ b ∈ fp,FpOk X pins H b) (h:tLoop J tg tt ta End σ H) :
  codeAny (model X.prog X.w) X.A (.compStart e d (.ref it) acc X.env) (fun r s'=>r=.ok .next∧∃ σ' H',Inv X pins σ' H' s'∧End σ' H') s:=by
 have lp:=comp_loop hx hc F hg ht ha T I st hf h
 refine codeAny_of_tree ?_
 rw [F.underS]
 have hden:(model X.prog X.w).den (.compStart e d (.ref it) acc X.env)=(compStart e d (.ref it) acc X.env).onRaise (fun x=>do noteFrame x X.env; standAt theWindowsPlace):=by
  show (if (Code.compStart e d (.ref it) acc X.env).isFrame then _ else _)=_
  rw [F.nofrS]
  rfl
 rw [hden]
 refine wpAny_notedAt ?_
 unfold compStart
 rw [F.cl]
 simp only [Option.elim_some,F.sync]
 show wpAny _ _ (ask >>= _) _ _ s
 refine wpAny_bind (wpAny_askSetting (wpAny_ite ?_))
 split
 ·first
   | exact wpAny_bind (wpAny_pure (wpAny_pure (And.intro (F.quiet _) lp)))
   | exact wpAny_pure (And.intro (F.quiet _) lp)
 ·have h2:∀ (E:Value→Shared→Prop),wpAny (model X.prog X.w) X.A (pyIter (.ref it)) (fun it' s'=>(Code.compLoop e d it' acc X.env).quiet=true∧codeAny (model X.prog X.w) X.A (.compLoop e d it' acc X.env) (fun r s'=>r=.ok .next∧∃ σ' H',Inv X pins σ' H' s'∧End σ' H') s') E s :=
   fun E=>T.self X.A 0 s _ E st ⟨F.quiet _,lp⟩
  first
   | exact wpAny_bind (wpAny_rule (wpAny_bind (wpAny_standAt (wpAny_bind (wpAny_mono (h2 _) (fun it' s' h'=>wpAny_pure h') fun _ _ x=>x)))))
   | (refine wpAny_bind (wpAny_rule ?_); exact wpAny_bind (wpAny_standAt (wpAny_bind (wpAny_mono (h2 _) (fun it' s' h'=>wpAny_pure h') fun _ _ x=>x))))
theorem pa_nest {g':Comprehension} {wi:TI} (hx:X.xe=fun _ _=>False) (hc:X.calm=true) (F:CForm e (d+1) g' acc X.env after) (hi:PI X g'.target g'.iter wi) (hg:PG X g'.target tg) (ht:PTs X g'.ifs tt) (ha:PAft X after ta)
  (hs:∀ x,foldedSetIterable g'.iter X.env x=pure x:=by intro _; rfl) :
  PAft X (nestAft e d g' acc X.env) (fun N σ H=>wi σ H fun J H1=>tLoop J tg tt ta N σ H1):=by
 intro pins s σ H N k Q E I h hk
 unfold nestAft
 refine wpAny_bind (thn (nox_any hx (hi pins s σ H _ I h)) fun x s1 h1=>?_)
 refine wpAny_bind (wpAny_standAt (wpAny_bind (wpAny_of_eq (hs x) ?_)))
 refine wpAny_bind (wpAny_holding (thn (nox_any hx h1) fun itv s2 h2=>?_))
 obtain ⟨it,fp,tn,J,H2,e1,I2,T,st2,f2,hl⟩:=h2
 subst e1
 refine wpAny_bind (wpAny_runOwn (codeAny_mono (comp_start hx hc F hg ht ha T I2 st2 f2 hl) fun r s' hr=>?_))
 obtain ⟨rfl,σ',H',I',q⟩:=hr
 exact hk σ' H' s' I' q
theorem pa_emitL {elt:Expr} {te:TE} {a:Addr} (hx:X.xe=fun _ _=>False) (he:PE X elt te) :
  PAft X (thenK (emitL elt (.ref a) X.env)) (fun N σ H=>te σ H fun v H1=>∃ xs,H1 a=some (.lst xs)∧xs.length < sizeLine∧N σ (upd H1 a (.lst (xs++[v])))):=by
 intro pins s σ H N k Q E I h hk
 unfold thenK emitL
 refine wpAny_bind (wpAny_bind (thn (nox_any hx (he pins s σ H _ I h)) fun u s1 ⟨v,H1,I1,r1,xs,hH,hz,q⟩=>?_))
 refine wpAny_bind (thn (nox_any hx <| mt_append (X:=X) pins s1 σ H1 (.ref a) [v] (.ref a) [u] (fun w' H'=>N σ H') I1 rfl (.cons r1 .nil) ⟨a,xs,v,rfl,rfl,hH,hz,q⟩) fun _ s2 ⟨_,H2,I2,_,q2⟩=>?_)
 exact wpAny_pure (hk σ H2 s2 I2 q2)
end
end L2
end

noncomputable section
set_option Elab.async false
set_option linter.all false
set_option maxRecDepth 100000
namespace L2
open PySem PySem.Spec PyProof.Rows
section
variable {X:Cx} {e:Expr} {g:Comprehension} {gs:List Comprehension} {scope:Scope} {N':List Str} {lk:List (Option Nat)} {tg:TG} {tt:TT} {wi:TI}
structure NewAcc (X:Cx) (newAcc:Sem Value) (o:HO):Prop where
 ok:∀ (pins:List (Addr × Obj)) (s:Shared) (σ:St) (H:Hp) (Q:Value→Shared→Prop) (E:Value→Shared→Prop),Inv X pins σ H s →
  (∀ a s',s.heap.objs.size≤a→H a=none→(∀ b o,s.heap.get? b=some o→s'.heap.get? b=some o)→Inv X pins σ (upd H a o) s'→Q (.ref a) s')→wpAny (model X.prog X.w) X.A newAcc Q E s
theorem new_list:NewAcc X (newList []) (.lst []) :=
 ⟨fun pins s σ H Q E I h=>wpAny_newObj_type (h _ _ (Nat.le_refl _) I.fresh (fun b o e=>Heap.get?_push_of_some _ e) (I.lnew (its:=[]) (t':=s.toks) .nil (Nat.zero_le _)))⟩
theorem Inv.sameBut {pins:List (Addr × Obj)} {σ:St} {H:Hp} {s:Shared} {C:Addr} {h':Heap} (I:Inv X pins σ H s) (f:FpOk X pins H C) (hs:Heap.SameBut C s.heap h'):Inv X pins σ H { s with heap:=h' }:=by
 obtain ⟨f0,f1,f2,f3,f4,f5⟩:=f
 exact I.turned (t':=s.toks) (fun b o hb e=>(hs.2 b hb).trans e) f0 f1 f3 f4 f5
end
end L2
end

noncomputable section
set_option Elab.async false
set_option linter.all false
set_option maxRecDepth 100000
set_option maxHeartbeats 4000000
namespace ST
open PySem PySem.SetTable
def stp (m:Nat) (p:Probe):Probe:=advance { mask:=m,place:=#[],dummies:=#[],finger:=0,led:=true,moves:=0,plain:=true } p
def sta (m:Nat) (h:Int):Probe:=probeStart { mask:=m,place:=#[],dummies:=#[],finger:=0,led:=true,moves:=0,plain:=true } h
def pth (m:Nat) (h:Int):Nat→Probe
 | 0=>sta m h
 | n+1=>stp m (pth m h n)
def vis (m:Nat) (h:Int) (n:Nat):Nat:=(pth m h n).j
end ST
end

noncomputable section
set_option Elab.async false
set_option linter.all false
set_option maxRecDepth 100000
set_option maxHeartbeats 4000000
namespace ST
open PySem PySem.SetTable
abbrev g (xs:Array Nat) (i:Nat):Nat:=xs.getD i 0
def Ris (xs:Array Nat):Prop:=∀ i j,i < j→j < xs.size→g xs i < g xs j
def Occ (t:SetTable) (x:Nat):Prop:=∃ i,i < t.place.size∧g t.place i=x
structure WF (t:SetTable) (hs:List Int):Prop where
 dum:t.dummies=#[]
 sz:t.place.size=hs.length
 ris:Ris t.place
 bnd:∀ i,i < t.place.size→g t.place i≤t.mask
 msk:∃ j,3≤j∧t.mask=2 ^ j - 1
 room:t.place.size≤t.mask
 rch:∀ i h,hs[i]?=some h→∃ n,vis t.mask h n=g t.place i∧∀ k,k < n→Occ t (vis t.mask h k)
instance (t:SetTable):DecidablePred (Occ t):=fun x=>decidable_of_iff (∃ i,i < t.place.size∧g t.place i=x) Iff.rfl
end ST
end











noncomputable section
set_option Elab.async false
set_option linter.all false
set_option maxRecDepth 100000
set_option maxHeartbeats 4000000
namespace ST
open PySem PyProof.Rows
section
variable {prog:Program} {w:World} {A:Around} {E:Value→Shared→Prop} {s:Shared}
abbrev TK (prog:Program) (w:World):=tupleKind (intKind prog w)
abbrev kH (prog:Program) (w:World) (k:List Int):Int:=(TK prog w).hash k
abbrev ent (prog:Program) (w:World) (x:Addr × List Int):Int × Value:=(kH prog w x.2,.ref x.1)
structure SObj (prog:Program) (w:World) (o:Obj) (ts:List (Addr × List Int)) (es:Array (Int × Value)) (ep:Nat) (t:SetTable):Prop where
 ex:o.ExactSet
 dat:o.data=.set es ep t
 els:es.toList=ts.map (ent prog w)
 wf:WF t (ts.map fun x=>kH prog w x.2)
 roo:t.place.size * 5 < t.mask * 3
 msk:t.mask≤8191
 led:t.led=!w.params.followText "set-order"
 pln:t.plain=true
 ndp:(ts.map (·.2)).Nodup
end
end ST
end

noncomputable section
set_option Elab.async false
set_option linter.all false
set_option maxRecDepth 100000
namespace L2
open PySem PySem.Spec PyProof.Rows
inductive D where
 | non | bl (b:Bool) | int (i:Int) | str (x:Str) | obj (a:Addr)
 | tup (ds:List D) | lst (ds:List D)
 | dT (ks:List (List Key)) (ds:List D) | dK (ks:List Key) (ds:List D)
 | sT (ts:List (List Int))
def setPhi (P:Program) (w:World) (a:Addr) (ts:List (Addr × List Int)) (h:Heap):Prop:=∃ o es ep t,h.get? a=some o∧ST.SObj P w o ts es ep t
abbrev SetO (P:Program) (w:World) (a:Addr) (ts:List (Addr × List Int)):HO:=.ext (setPhi P w a ts)
def SetR (P:Program) (w:World) (H:Hp) (a:Addr) (ts:List (List Int)):Prop :=
 ∃ ts':List (Addr × List Int),H a=some (SetO P w a ts')∧(∀ x ∈ ts',H x.1=some (.tup (x.2.map V.int)))∧(ts'.map (·.2)).Perm ts
section
variable (P:Program) (w:World) (W:Addr→Prop) (H:Hp)
mutual
def RepD:D→V→Prop
 | .non,v=>v=.non
 | .bl b,v=>v=.bl b
 | .int i,v=>v=.int i
 | .str x,v=>v=.str x
 | .obj a,v=>v=.ref a
 | .tup ds,v=>∃ a vs,v=.ref a∧H a=some (.tup vs)∧RepDs ds vs
 | .lst ds,v=>∃ a vs,v=.ref a∧H a=some (.lst vs)∧¬ W a∧RepDs ds vs
 | .dT ks ds,v=>∃ a vs,v=.ref a∧H a=some (.dT (ks.zip vs))∧ks.length=vs.length∧¬ W a∧RepDs ds vs
 | .dK ks ds,v=>∃ a vs,v=.ref a∧H a=some (.dK (ks.zip vs))∧ks.length=vs.length∧¬ W a∧RepDs ds vs
 | .sT ts,v=>∃ a,v=.ref a∧SetR P w H a ts∧¬ W a
def RepDs:List D→List V→Prop
 | [],vs=>vs=[]
 | d::ds,vs=>∃ v r,vs=v::r∧RepD d v∧RepDs ds r
end
end
mutual
def D.flat:D→Bool
 | .tup ds=>D.flats ds
 | .lst _=>false
 | .dT _ _=>false
 | .dK _ _=>false
 | .sT _=>false
 | _=>true
def D.flats:List D→Bool
 | []=>true
 | d::ds=>D.flat d && D.flats ds
end
structure Kp (W:Addr→Prop) (H H':Hp):Prop where
 out:∀ b o,H b=some o→¬ W b→H' b=some o
 tup:∀ b xs,H b=some (.tup xs)→H' b=some (.tup xs)
theorem Kp.refl {W:Addr→Prop} {H:Hp}:Kp W H H:=⟨fun _ _ e _=>e,fun _ _ e=>e⟩
theorem Kp.trans {W:Addr→Prop} {H H1 H2:Hp} (a:Kp W H H1) (b:Kp W H1 H2):Kp W H H2:=⟨fun c o e n=>b.out c o (a.out c o e n) n,fun c xs e=>b.tup c xs (a.tup c xs e)⟩
theorem Same.kp {W:Addr→Prop} {H H':Hp} (h:Same H H'):Kp W H H':=⟨fun b o e _=>h b o e,fun b xs e=>h b _ e⟩
theorem Kp.mono {W W':Addr→Prop} {H H':Hp} (h:Kp W H H') (s:∀ a,W a→W' a):Kp W' H H':=⟨fun b o e n=>h.out b o e fun z=>n (s b z),h.tup⟩
section
variable {P:Program} {w:World} {W W':Addr→Prop} {H H':Hp}
mutual
theorem RepD.keep (k:Kp W H H'):∀ {d:D} {v:V},RepD P w W H d v→RepD P w W H' d v
 | .non,_,h=>h
 | .bl _,_,h=>h
 | .int _,_,h=>h
 | .str _,_,h=>h
 | .obj _,_,h=>h
 | .tup ds,_,⟨a,vs,e,t,r⟩=>⟨a,vs,e,k.tup a vs t,RepDs.keep k r⟩
 | .lst ds,_,⟨a,vs,e,t,n,r⟩=>⟨a,vs,e,k.out a _ t n,n,RepDs.keep k r⟩
 | .dT ks ds,_,⟨a,vs,e,t,l,n,r⟩=>⟨a,vs,e,k.out a _ t n,l,n,RepDs.keep k r⟩
 | .dK ks ds,_,⟨a,vs,e,t,l,n,r⟩=>⟨a,vs,e,k.out a _ t n,l,n,RepDs.keep k r⟩
 | .sT ts,_,⟨a,e,⟨ts',t,r,z⟩,n⟩=>⟨a,e,⟨ts',k.out a _ t n,fun x hx=>k.tup _ _ (r x hx),z⟩,n⟩
theorem RepDs.keep (k:Kp W H H'):∀ {ds:List D} {vs:List V},RepDs P w W H ds vs→RepDs P w W H' ds vs
 | [],_,h=>h
 | d::ds,_,⟨v,r,e,h1,h2⟩=>⟨v,r,e,RepD.keep k h1,RepDs.keep k h2⟩
end
mutual
theorem RepD.anti (s:∀ a,W' a→W a):∀ {d:D} {v:V},RepD P w W H d v→RepD P w W' H d v
 | .non,_,h=>h
 | .bl _,_,h=>h
 | .int _,_,h=>h
 | .str _,_,h=>h
 | .obj _,_,h=>h
 | .tup ds,_,⟨a,vs,e,t,r⟩=>⟨a,vs,e,t,RepDs.anti s r⟩
 | .lst ds,_,⟨a,vs,e,t,n,r⟩=>⟨a,vs,e,t,fun z=>n (s a z),RepDs.anti s r⟩
 | .dT ks ds,_,⟨a,vs,e,t,l,n,r⟩=>⟨a,vs,e,t,l,fun z=>n (s a z),RepDs.anti s r⟩
 | .dK ks ds,_,⟨a,vs,e,t,l,n,r⟩=>⟨a,vs,e,t,l,fun z=>n (s a z),RepDs.anti s r⟩
 | .sT ts,_,⟨a,e,t,n⟩=>⟨a,e,t,fun z=>n (s a z)⟩
theorem RepDs.anti (s:∀ a,W' a→W a):∀ {ds:List D} {vs:List V},RepDs P w W H ds vs→RepDs P w W' H ds vs
 | [],_,h=>h
 | d::ds,_,⟨v,r,e,h1,h2⟩=>⟨v,r,e,RepD.anti s h1,RepDs.anti s h2⟩
end
mutual
theorem RepD.flat:∀ {d:D} {v:V},d.flat=true→RepD P w W H d v→RepD P w W' H d v
 | .non,_,_,h=>h
 | .bl _,_,_,h=>h
 | .int _,_,_,h=>h
 | .str _,_,_,h=>h
 | .obj _,_,_,h=>h
 | .tup ds,_,f,⟨a,vs,e,t,r⟩=>⟨a,vs,e,t,RepDs.flat (by simpa [D.flat] using f) r⟩
 | .lst ds,_,f,_=>by simp [D.flat] at f
 | .dT ks ds,_,f,_=>by simp [D.flat] at f
 | .dK ks ds,_,f,_=>by simp [D.flat] at f
 | .sT ts,_,f,_=>by simp [D.flat] at f
theorem RepDs.flat:∀ {ds:List D} {vs:List V},D.flats ds=true→RepDs P w W H ds vs→RepDs P w W' H ds vs
 | [],_,_,h=>h
 | d::ds,_,f,⟨v,r,e,h1,h2⟩=>by
  have f':(d.flat && D.flats ds)=true:=f
  rw [Bool.and_eq_true] at f'
  exact ⟨v,r,e,RepD.flat f'.1 h1,RepDs.flat f'.2 h2⟩
end
theorem RepD.same (s:Same H H') {d:D} {v:V} (h:RepD P w W H d v):RepD P w W H' d v:=h.keep s.kp
theorem RepDs.same (s:Same H H') {ds:List D} {vs:List V} (h:RepDs P w W H ds vs):RepDs P w W H' ds vs:=h.keep s.kp
theorem RepDs.length:∀ {ds:List D} {vs:List V},RepDs P w W H ds vs→vs.length=ds.length
 | [],_,h=>by rw [show _=[] from h]; rfl
 | d::ds,_,⟨v,r,e,h1,h2⟩=>by rw [e,List.length_cons,List.length_cons,RepDs.length h2]
theorem RepDs.get:∀ {ds:List D} {vs:List V} {i:Nat} {d:D},RepDs P w W H ds vs→ds[i]?=some d→∃ v,vs[i]?=some v∧RepD P w W H d v
 | [],_,_,_,_,e=>by simp at e
 | d::ds,_,0,_,⟨v,r,e,h1,h2⟩,e'=>by simp at e'; subst e' e; exact ⟨v,by simp,h1⟩
 | d::ds,_,i+1,_,⟨v,r,e,h1,h2⟩,e'=>by
  subst e
  obtain ⟨u,e1,e2⟩:=RepDs.get (i:=i) h2 (by simpa using e')
  exact ⟨u,by simpa using e1,e2⟩
theorem RepDs.append:∀ {ds ds':List D} {vs vs':List V},RepDs P w W H ds vs→RepDs P w W H ds' vs'→RepDs P w W H (ds++ds') (vs++vs')
 | [],_,_,_,h,h'=>by rw [show _=[] from h]; exact h'
 | d::ds,_,_,_,⟨v,r,e,h1,h2⟩,h'=>by subst e; exact ⟨v,_,rfl,h1,RepDs.append h2 h'⟩
theorem RepDs.one {d:D} {v:V} (h:RepD P w W H d v):RepDs P w W H [d] [v]:=⟨v,[],rfl,h,rfl⟩
end
end L2
end

noncomputable section
set_option Elab.async false
set_option linter.all false
set_option maxRecDepth 100000
namespace L2
open PySem PySem.Spec PySem.SeqAt PyProof.Rows
abbrev Dm (W:Addr→Prop) (H:Hp):Prop:=∀ a,W a→H a≠none
theorem Dm.same {W:Addr→Prop} {H H':Hp} (d:Dm W H) (s:Same H H'):Dm W H':=fun a h e=>d a h (s.free e)
abbrev Rp (X:Cx) (W:Addr→Prop) (H:Hp) (d:D) (v:V):Prop:=RepD X.prog X.w W H d v
abbrev Rps (X:Cx) (W:Addr→Prop) (H:Hp) (ds:List D) (vs:List V):Prop:=RepDs X.prog X.w W H ds vs
def rD1 (X:Cx) (f:D→Option D):V→Hp→VK→Prop:=fun x H Q=>∃ W d1 d,Dm W H∧Rp X W H d1 x∧f d1=some d∧∀ v H',Same H H'→Rp X W H' d v→Q v H'
def rD2 (X:Cx) (f:D→D→Option D):R2:=fun x y H Q=>∃ W d1 d2 d,Dm W H∧Rp X W H d1 x∧Rp X W H d2 y∧f d1 d2=some d∧∀ v H',Same H H'→Rp X W H' d v→Q v H'
def rDs (X:Cx) (f:List D→Option D):List V→Hp→VK→Prop:=fun xs H Q=>∃ W ds d,Dm W H∧Rps X W H ds xs∧f ds=some d∧∀ v H',Same H H'→Rp X W H' d v→Q v H'
abbrev OpD (X:Cx) (f:Value→Value→Sem Value) (g:D→D→Option D):Prop:=OpR X f (rD2 X g)
abbrev CallD (X:Cx) (f:Value) (g:List D→Option D):Prop:=CallR X f (rDs X g)
section
variable {X:Cx} {W:Addr→Prop} {H:Hp}
theorem new_not {p:Addr} (d:Dm W H) (n:H p=none):¬ W p:=fun z=>d p z n
theorem Rp.lstNew {p:Addr} {vs:List V} {ds:List D} (d:Dm W H) (n:H p=none) (r:Rps X W H ds vs):Rp X W (upd H p (.lst vs)) (.lst ds) (.ref p) :=
 ⟨p,vs,rfl,upd_same,new_not d n,r.same (Same.new n)⟩
theorem Rp.tupNew {p:Addr} {vs:List V} {ds:List D} (n:H p=none) (r:Rps X W H ds vs):Rp X W (upd H p (.tup vs)) (.tup ds) (.ref p) :=
 ⟨p,vs,rfl,upd_same,r.same (Same.new n)⟩
theorem Rps.nil:Rps X W H [] []:=rfl
theorem Rps.cons {d:D} {ds:List D} {v:V} {vs:List V} (h:Rp X W H d v) (r:Rps X W H ds vs):Rps X W H (d::ds) (v::vs):=⟨v,vs,rfl,h,r⟩
end
def D.isI:D→Option Int
 | .int i=>some i
 | _=>none
def D.isL:D→Option (List D)
 | .lst a=>some a
 | _=>none
def D.isT:D→Option (List D)
 | .tup a=>some a
 | _=>none
def D.isN:D→Bool
 | .non=>true
 | _=>false
theorem D.isI_some {d:D} {i:Int} (h:d.isI=some i):d=.int i:=by cases d <;> first | (cases h; rfl) | cases h
theorem D.isL_some {d:D} {i:List D} (h:d.isL=some i):d=.lst i:=by cases d <;> first | (cases h; rfl) | cases h
theorem D.isT_some {d:D} {i:List D} (h:d.isT=some i):d=.tup i:=by cases d <;> first | (cases h; rfl) | cases h
theorem D.isN_true {d:D} (h:d.isN=true):d=.non:=by cases d <;> first | rfl | cases h
theorem D.isN_iff {d:D}:d=.non ↔ d.isN=true:=⟨fun e=>by rw [e]; rfl,D.isN_true⟩
def int2 (f:Int→Int→Option D) (a b:D):Option D:=match a.isI,b.isI with
 | some i,some j=>f i j
 | _,_=>none
theorem int2_some {f:Int→Int→Option D} {a b d:D} (h:int2 f a b=some d):∃ i j,a=.int i∧b=.int j∧f i j=some d:=by
 unfold int2 at h
 cases ha:a.isI with
 | none=>rw [ha] at h; cases h
 | some i =>
  cases hb:b.isI with
  | none=>rw [ha,hb] at h; cases h
  | some j=>rw [ha,hb] at h; exact ⟨i,j,D.isI_some ha,D.isI_some hb,h⟩
def lst2 (f:D→D→Option D) (g:List D→List D→Option D) (a b:D):Option D:=match a.isL,b.isL with
 | some i,some j=>g i j
 | _,_=>f a b
theorem lst2_some {f:D→D→Option D} {g:List D→List D→Option D} {a b d:D} (h:lst2 f g a b=some d):(∃ i j,a=.lst i∧b=.lst j∧g i j=some d)∨f a b=some d:=by
 unfold lst2 at h
 cases ha:a.isL with
 | none=>rw [ha] at h; exact .inr h
 | some i =>
  cases hb:b.isL with
  | none=>rw [ha,hb] at h; exact .inr h
  | some j=>rw [ha,hb] at h; exact .inl ⟨i,j,D.isL_some ha,D.isL_some hb,h⟩
def dAdd:D→D→Option D:=lst2 (int2 fun i j=>some (.int (i+j))) fun a b=>if a.length+b.length≤sizeLine then some (.lst (a++b)) else none
def dSub:D→D→Option D:=int2 fun i j=>some (.int (i - j))
instance (i j:Int):Decidable (CMul i j):=by unfold CMul; infer_instance
instance (i j:Int):Decidable (CPow i j):=by unfold CPow; infer_instance
def dPow:D→D→Option D:=int2 fun i j=>if CPow i j then some (.int (i ^ j.toNat)) else none
def dNeg:D→Option D
 | .int i=>some (.int (-i))
 | _=>none
section
variable {X:Cx}
theorem ifSome {c:Prop} [Decidable c] {α:Type} {a b:α} (h:(if c then some a else none)=some b):c∧b=a:=by
 by_cases hc:c
 ·rw [if_pos hc] at h; cases h; exact ⟨hc,rfl⟩
 ·rw [if_neg hc] at h; cases h
theorem op_dI {f:Value→Value→Sem Value} {C:Int→Int→Prop} {g:Int→Int→V} {h:Int→Int→D} {F:Int→Int→Option D} (ho:OpR X f (rI C g)) (hF:∀ i j d,F i j=some d→C i j∧d=h i j)
  (hg:∀ (W:Addr→Prop) (H:Hp) i j,Rp X W H (h i j) (g i j)):OpD X f (int2 F):=by
 intro pins s σ H x y v u Q I rx ry hh
 obtain ⟨W,d1,d2,d,hd,r1,r2,e,q⟩:=hh
 obtain ⟨i,j,rfl,rfl,e⟩:=int2_some e
 obtain ⟨c,rfl⟩:=hF _ _ _ e
 cases r1; cases r2
 exact ho pins s σ H _ _ v u Q I rx ry ⟨i,j,rfl,rfl,c,q _ _ (Same.refl _) (hg W H i j)⟩
theorem op_dI0 {f:Value→Value→Sem Value} {g:Int→Int→V} {h:Int→Int→D} (ho:OpR X f (rI0 g))
  (hg:∀ (W:Addr→Prop) (H:Hp) i j,Rp X W H (h i j) (g i j)):OpD X f (int2 fun i j=>some (h i j)):=by
 intro pins s σ H x y v u Q I rx ry hh
 obtain ⟨W,d1,d2,d,hd,r1,r2,e,q⟩:=hh
 obtain ⟨i,j,rfl,rfl,e⟩:=int2_some e
 cases e
 cases r1; cases r2
 exact ho pins s σ H _ _ v u Q I rx ry ⟨i,j,rfl,rfl,q _ _ (Same.refl _) (hg W H i j)⟩
theorem op_dSub:OpD X (binaryOp .Sub) dSub:=op_dI0 (h:=fun i j=>.int (i - j)) op_sub fun _ _ _ _=>rfl
theorem op_dPow:OpD X (binaryOp .Pow) dPow:=op_dI (h:=fun i j=>.int (i ^ j.toNat)) op_pow (fun _ _ _ e=>ifSome e) fun _ _ _ _=>rfl
theorem un_dNeg:UnR X (unaryOp .USub) (rD1 X dNeg):=by
 intro pins s σ H x v Q I rx h
 obtain ⟨W,d1,d,hd,r1,e,q⟩:=h
 cases d1 with
 | int i=>cases e; cases r1; exact un_neg pins s σ H _ v Q I rx ⟨i,rfl,q _ _ (Same.refl _) rfl⟩
 | _=>cases e
end
def dCmp (p:Int→Int→Bool):D→D→Option D:=int2 fun i j=>some (.bl (p i j))
abbrev dLt:D→D→Option D:=dCmp fun i j=>decide (i < j)
abbrev dLe:D→D→Option D:=dCmp fun i j=>decide (i≤j)
abbrev dGt:D→D→Option D:=dCmp fun i j=>decide (j < i)
abbrev dGe:D→D→Option D:=dCmp fun i j=>decide (j≤i)
section
variable {X:Cx}
theorem op_dCmp {p:Int→Int→Bool} {f:Value→Value→Sem Value} (ho:OpR X f (rI0 fun i j=>.bl (p i j))):OpD X f (dCmp p):=op_dI0 (h:=fun i j=>.bl (p i j)) ho fun _ _ _ _=>rfl
theorem op_dLt:OpD X (compareOp .Lt) dLt:=op_dCmp op_lt
theorem op_dLe:OpD X (compareOp .LtE) dLe:=op_dCmp op_le
theorem op_dGt:OpD X (compareOp .Gt) dGt:=op_dCmp op_gt
theorem op_dGe:OpD X (compareOp .GtE) dGe:=op_dCmp op_ge
end
mutual
def D.pd:D→PyData
 | .non=>.none
 | .bl b=>.bool b
 | .int i=>.int i
 | .str x=>.str x
 | .tup ds=>.tuple (D.pds ds)
 | .lst ds=>.list (D.pds ds)
 | _=>.dict []
def D.pds:List D→List PyData
 | []=>[]
 | d::ds=>d.pd::D.pds ds
end
abbrev D.shp (d:D):Bool:=shaped d.pd
mutual
theorem reads_of {X:Cx} {pins:List (Addr × Obj)} {σ:St} {H:Hp} {s:Shared} (I:Inv X pins σ H s) {W:Addr→Prop}:∀ {d:D} {v:V} {u:Value},Rp X W H d v→RelV v u→d.pd.canLay0=true→∃ as,Reads s.heap u d.pd as
 | .non,_,_,h,r,_=>by cases h; cases r; exact ⟨_,.none⟩
 | .bl b,_,_,h,r,_=>by cases h; cases r; exact ⟨_,.bool b⟩
 | .int i,_,_,h,r,_=>by cases h; obtain ⟨t,rfl⟩:=r; exact ⟨_,.int i t⟩
 | .str x,_,_,h,r,_=>by cases h; obtain ⟨t,rfl⟩:=r; exact ⟨_,.str x t⟩
 | .tup ds,_,_,h,r,c=>by
  obtain ⟨a,vs,rfl,e,q⟩:=h
  cases r
  obtain ⟨its,rv,⟨o,ho,hc,n,hd⟩,hz⟩:=I.tuple (SqT.of e)
  obtain ⟨as,ha⟩:=readsAll_of I q rv (by simpa [D.pd,PyData.canLay0] using c)
  exact ⟨_,.tuple ho hc hd (by simpa using ha)⟩
 | .lst ds,_,_,h,r,c=>by
  obtain ⟨a,vs,rfl,e,_,q⟩:=h
  cases r
  obtain ⟨z,its,n,rv,e'⟩:=I.hok a _ e
  obtain ⟨as,ha⟩:=readsAll_of I q rv (by simpa [D.pd,PyData.canLay0] using c)
  exact ⟨_,.list e' rfl rfl (by simpa using ha)⟩
 | .obj _,_,_,_,_,c=>by simp [D.pd,PyData.canLay0] at c
 | .dT _ _,_,_,_,_,c=>by simp [D.pd,PyData.canLay0] at c
 | .dK _ _,_,_,_,_,c=>by simp [D.pd,PyData.canLay0] at c
 | .sT _,_,_,_,_,c=>by simp [D.pd,PyData.canLay0] at c
theorem readsAll_of {X:Cx} {pins:List (Addr × Obj)} {σ:St} {H:Hp} {s:Shared} (I:Inv X pins σ H s) {W:Addr→Prop}:∀ {ds:List D} {vs:List V} {us:List Value},Rps X W H ds vs→Vals vs us→PyData.canLayAll0 (D.pds ds)=true→∃ as,ReadsAll s.heap us (D.pds ds) as
 | [],_,_,h,r,_=>by
  rw [show _=[] from h] at r
  cases r
  exact ⟨_,.nil⟩
 | d::ds,_,_,⟨v,vr,e,h1,h2⟩,r,c=>by
  subst e
  have c':(d.pd.canLay0 && PyData.canLayAll0 (D.pds ds))=true:=c
  rw [Bool.and_eq_true] at c'
  cases r with
  | cons r1 r2 =>
   obtain ⟨as,ha⟩:=reads_of I h1 r1 c'.1
   obtain ⟨bs,hb⟩:=readsAll_of I h2 r2 c'.2
   exact ⟨_,.cons ha hb⟩
end
def dEq (a b:D):Option D:=if a.shp=true∧b.shp=true then some (.bl (PyData.eqv a.pd b.pd)) else none
def dNe (a b:D):Option D:=if a.shp=true∧b.shp=true then some (.bl (!PyData.eqv a.pd b.pd)) else none
section
variable {X:Cx}
theorem op_dEq (hu:X.A.units+64 < cLine):OpD X (compareOp .Eq) dEq:=by
 intro pins s σ H x y v u Q I rx ry h
 obtain ⟨W,d1,d2,d,hd,r1,r2,e,q⟩:=h
 obtain ⟨⟨s1,s2⟩,rfl⟩:=ifSome e
 obtain ⟨as,ra⟩:=reads_of I r1 rx (canLay_of_shaped s1)
 obtain ⟨bs,rb⟩:=reads_of I r2 ry (canLay_of_shaped s2)
 exact compareEq_shaped ra rb s1 s2 hu ⟨.bl _,H,I,rfl,q _ _ (Same.refl _) rfl⟩
theorem op_dNe (hu:X.A.units+64 < cLine):OpD X (compareOp .NotEq) dNe:=by
 intro pins s σ H x y v u Q I rx ry h
 obtain ⟨W,d1,d2,d,hd,r1,r2,e,q⟩:=h
 obtain ⟨⟨s1,s2⟩,rfl⟩:=ifSome e
 obtain ⟨as,ra⟩:=reads_of I r1 rx (canLay_of_shaped s1)
 obtain ⟨bs,rb⟩:=reads_of I r2 ry (canLay_of_shaped s2)
 exact compareNe_shaped ra rb s1 s2 hu ⟨.bl _,H,I,rfl,q _ _ (Same.refl _) rfl⟩
def dIsN (a b:D):Option D:=match b.isN with
 | true=>some (.bl a.isN)
 | false=>none
def dNotN (a b:D):Option D:=match b.isN with
 | true=>some (.bl (!a.isN))
 | false=>none
theorem Rp.non_iff {W:Addr→Prop} {H:Hp} {d:D} {v:V} (h:Rp X W H d v):v=.non ↔ d=.non:=by
 cases d with
 | non=>cases h; simp
 | bl b=>cases h; simp
 | int i=>cases h; simp
 | str x=>cases h; simp
 | obj a=>cases h; simp
 | tup ds=>obtain ⟨a,vs,rfl,_⟩:=h; simp
 | lst ds=>obtain ⟨a,vs,rfl,_⟩:=h; simp
 | dT ks ds=>obtain ⟨a,vs,rfl,_⟩:=h; simp
 | dK ks ds=>obtain ⟨a,vs,rfl,_⟩:=h; simp
 | sT ts=>obtain ⟨a,rfl,_⟩:=h; simp
theorem isN_some {b d e:D} (h:(match b.isN with | true=>some d | false=>none)=some e):b=.non∧e=d:=by
 cases q:b.isN with
 | true=>rw [q] at h; cases h; exact ⟨D.isN_true q,rfl⟩
 | false=>rw [q] at h; cases h
theorem Rp.non_dec {W:Addr→Prop} {H:Hp} {d:D} {v:V} (h:Rp X W H d v):decide (v=.non)=d.isN:=by
 have q:=h.non_iff.trans D.isN_iff
 cases e:d.isN with
 | true=>exact decide_eq_true (q.mpr e)
 | false=>exact decide_eq_false fun z=>by rw [q.mp z] at e; cases e
theorem op_dIsN:OpD X (compareOp .Is) dIsN:=by
 intro pins s σ H x y v u Q I rx ry h
 obtain ⟨W,d1,d2,d,hd,r1,r2,e,q⟩:=h
 obtain ⟨rfl,rfl⟩:=isN_some e
 cases r2
 exact op_isN pins s σ H _ _ v u Q I rx ry ⟨rfl,q _ _ (Same.refl _) (congrArg V.bl r1.non_dec)⟩
theorem op_dNotN:OpD X (compareOp .IsNot) dNotN:=by
 intro pins s σ H x y v u Q I rx ry h
 obtain ⟨W,d1,d2,d,hd,r1,r2,e,q⟩:=h
 obtain ⟨rfl,rfl⟩:=isN_some e
 cases r2
 exact op_notN pins s σ H _ _ v u Q I rx ry ⟨rfl,q _ _ (Same.refl _) (congrArg (fun b=>V.bl (!b)) r1.non_dec)⟩
end
end L2
end

noncomputable section
set_option Elab.async false
set_option linter.all false
set_option maxRecDepth 100000
namespace L2
open PySem PySem.Spec PySem.SeqAt PyProof.Rows
section
variable {X:Cx}
def dIx (a b:D):Option D:=match b.isI with
 | some i=>match a.isL with
  | some ds=>atI ds i
  | none=>match a.isT with
   | some ds=>atI ds i
   | none=>none
 | none=>none
theorem dIx_some {a b d:D} (h:dIx a b=some d):∃ ds i,(a=.lst ds∨a=.tup ds)∧b=.int i∧atI ds i=some d:=by
 unfold dIx at h
 cases hb:b.isI with
 | none=>rw [hb] at h; cases h
 | some i =>
  rw [hb] at h
  cases ha:a.isL with
  | some ds=>rw [ha] at h; exact ⟨ds,i,.inl (D.isL_some ha),D.isI_some hb,h⟩
  | none =>
   rw [ha] at h
   cases ht:a.isT with
   | some ds=>rw [ht] at h; exact ⟨ds,i,.inr (D.isT_some ht),D.isI_some hb,h⟩
   | none=>rw [ht] at h; cases h
theorem Rps.atI {W:Addr→Prop} {H:Hp} {ds:List D} {vs:List V} {i:Int} {d:D} (h:Rps X W H ds vs) (e:L2.atI ds i=some d):∃ v,L2.atI vs i=some v∧Rp X W H d v:=by
 unfold L2.atI at *
 rw [h.length]
 cases q:ixN ds.length i with
 | none=>rw [q] at e; cases e
 | some j =>
  rw [q] at e
  exact RepDs.get h e
theorem ix_dIx:IxR X (rD2 X dIx):=by
 intro value slice pins s σ H x y v u Q I rx ry h hs
 obtain ⟨W,d1,d2,d,hd,r1,r2,e,q⟩:=h
 obtain ⟨ds,i,h,rfl,e⟩:=dIx_some e
 cases r2
 rcases h with rfl | rfl
 ·obtain ⟨p,vs,rfl,h1,n1,q1⟩:=r1
  obtain ⟨z,hz,rz⟩:=Rps.atI (X:=X) q1 e
  exact ix_list value slice pins s σ H _ _ v u Q I rx ry ⟨p,vs,i,z,rfl,rfl,SqL.of h1,hz,q _ _ (Same.refl _) rz⟩ hs
 ·obtain ⟨p,vs,rfl,h1,q1⟩:=r1
  obtain ⟨z,hz,rz⟩:=Rps.atI (X:=X) q1 e
  exact ix_tup value slice pins s σ H _ _ v u Q I rx ry ⟨p,vs,i,z,rfl,rfl,SqT.of h1,hz,q _ _ (Same.refl _) rz⟩ hs
def dLen:List D→Option D
 | [.lst ds]=>some (.int ds.length)
 | [.tup ds]=>some (.int ds.length)
 | _=>none
theorem call_dLen:CallD X (.builtin "len") dLen:=by
 intro pins s σ H xs us Q I r h
 obtain ⟨W,ds,d,hd,r1,e,q⟩:=h
 match ds,e with
 | [.lst es],e =>
  cases e
  obtain ⟨v,r',rfl,⟨p,vs,rfl,h1,n1,q1⟩,hr⟩:=r1
  cases hr
  refine call_len_seq pins s σ H _ us Q I r ⟨p,vs,rfl,.inl (SqL.of h1),?_⟩
  rw [q1.length]
  exact q _ _ (Same.refl _) rfl
 | [.tup es],e =>
  cases e
  obtain ⟨v,r',rfl,⟨p,vs,rfl,h1,q1⟩,hr⟩:=r1
  cases hr
  refine call_len_seq pins s σ H _ us Q I r ⟨p,vs,rfl,.inr (SqT.of h1),?_⟩
  rw [q1.length]
  exact q _ _ (Same.refl _) rfl
def dList:List D→Option D
 | [.lst ds]=>some (.lst ds)
 | [.tup ds]=>some (.lst ds)
 | _=>none
theorem args2 {W:Addr→Prop} {H:Hp} {a b:D} {xs:List V} (h:Rps X W H [a,b] xs):∃ x y,xs=[x,y]∧Rp X W H a x∧Rp X W H b y:=by
 obtain ⟨x,r,rfl,hx,y,r',rfl,hy,hr⟩:=h
 cases hr
 exact ⟨x,y,rfl,hx,hy⟩
theorem args1 {W:Addr→Prop} {H:Hp} {a:D} {xs:List V} (h:Rps X W H [a] xs):∃ x,xs=[x]∧Rp X W H a x:=by
 obtain ⟨x,r,rfl,hx,hr⟩:=h
 cases hr
 exact ⟨x,rfl,hx⟩
def dInt:List D→Option D
 | [.int i]=>some (.int i)
 | [.bl k]=>some (.int (if k then 1 else 0))
 | _=>none
theorem call_dInt:CallD X (.type "int") dInt:=by
 intro pins s σ H xs us Q I r h
 obtain ⟨W,ds,d,hd,r1,e,q⟩:=h
 match ds,e with
 | [.int i],e =>
  cases e
  obtain ⟨x,rfl,hx⟩:=args1 r1
  cases hx
  exact call_int1 pins s σ H _ us Q I r (.inl ⟨i,rfl,q _ _ (Same.refl _) rfl⟩)
 | [.bl k],e =>
  cases e
  obtain ⟨x,rfl,hx⟩:=args1 r1
  cases hx
  exact call_int1 pins s σ H _ us Q I r (.inr ⟨k,rfl,q _ _ (Same.refl _) rfl⟩)
end
end L2
end

noncomputable section
set_option Elab.async false
set_option linter.all false
set_option maxRecDepth 100000
namespace L2
open PySem PySem.Spec PySem.SeqAt PyProof.Rows
abbrev Rho:=List (Option D)
abbrev Phi:=Rho→(D→Prop)→Prop
abbrev PhiS:=Rho→(List D→Prop)→Prop
def EnvP (P:Program) (w:World) (W:Addr→Prop) (H:Hp) (σ:St) (ρ:Rho):Prop:=∀ (i:Nat) (d:D),ρ[i]?=some (some d)→∃ v,σ[i]?=some (some v)∧RepD P w W H d v
theorem EnvP.keep {P:Program} {w:World} {W:Addr→Prop} {H H':Hp} {σ:St} {ρ:Rho} (e:EnvP P w W H σ ρ) (k:Kp W H H'):EnvP P w W H' σ ρ:=fun i d h=>by
 obtain ⟨v,h1,h2⟩:=e i d h
 exact ⟨v,h1,h2.keep k⟩
theorem EnvP.same {P:Program} {w:World} {W:Addr→Prop} {H H':Hp} {σ:St} {ρ:Rho} (e:EnvP P w W H σ ρ) (s:Same H H'):EnvP P w W H' σ ρ:=e.keep s.kp
theorem PE.pre {X:Cx} {e:Expr} {t t':TE} (h:PE X e t) (k:∀ σ H Q,t' σ H Q→t σ H Q):PE X e t':=fun pins s σ H Q I q=>h pins s σ H Q I (k σ H Q q)
theorem PT.pre {X:Cx} {e:Expr} {t t':TT} (h:PT X e t) (k:∀ σ H Q,t' σ H Q→t σ H Q):PT X e t':=fun pins s σ H Q I q=>h pins s σ H Q I (k σ H Q q)
theorem PA.pre {X:Cx} {es:List Expr} {t t':TA} (h:PA X es t) (k:∀ σ H Q,t' σ H Q→t σ H Q):PA X es t':=fun pos pins s σ H Q I q=>h pos pins s σ H Q I (k σ H Q q)
structure SE' (P:Program) (w:World) (W:Addr→Prop) (σ:St) (H:Hp) (ρ:Rho):Prop where
 dm:Dm W H
 env:EnvP P w W H σ ρ
abbrev SE (X:Cx):(Addr→Prop)→St→Hp→Rho→Prop:=SE' X.prog X.w
theorem SE'.same {P:Program} {w:World} {W:Addr→Prop} {σ:St} {H H':Hp} {ρ:Rho} (e:SE' P w W σ H ρ) (s:Same H H'):SE' P w W σ H' ρ:=⟨e.dm.same s,e.env.same s⟩
def tD (X:Cx) (φ:Phi):TE:=fun σ H Q=>∃ W ρ,SE X W σ H ρ∧φ ρ fun d=>∀ v H',Same H H'→Rp X W H' d v→Q v H'
def tDs (X:Cx) (φ:PhiS):TA:=fun σ H Q=>∃ W ρ,SE X W σ H ρ∧φ ρ fun ds=>∀ vs H',Same H H'→Rps X W H' ds vs→Q vs H'
structure PV (X:Cx) (e:Expr) (φ:Phi):Prop where
 mono:∀ ρ R R',(∀ d,R d→R' d)→φ ρ R→φ ρ R'
 pe:PE X e (tD X φ)
structure PVA (X:Cx) (es:List Expr) (φ:PhiS):Prop where
 mono:∀ ρ R R',(∀ d,R d→R' d)→φ ρ R→φ ρ R'
 pa:PA X es (tDs X φ)
section
variable {X:Cx} {a b c e:Expr} {es:List Expr} {φ φa φb φc:Phi} {τ τa τb:PhiB} {φs:PhiS} {pos:Pos} {W:Addr→Prop} {σ:St} {H:Hp} {ρ:Rho}
theorem tD.of (h:PV X e φ) (se:SE X W σ H ρ) {R:D→Prop} {Q:VK} (hr:φ ρ R) (k:∀ d v H',R d→Same H H'→Rp X W H' d v→Q v H'):tD X φ σ H Q :=
 ⟨W,ρ,se,h.mono ρ _ _ (fun d hd v H' s r=>k d v H' hd s r) hr⟩
theorem tDs.of (h:PVA X es φs) (se:SE X W σ H ρ) {R:List D→Prop} {Q:List V→Hp→Prop} (hr:φs ρ R) (k:∀ ds vs H',R ds→Same H H'→Rps X W H' ds vs→Q vs H'):tDs X φs σ H Q :=
 ⟨W,ρ,se,h.mono ρ _ _ (fun d hd v H' s r=>k d v H' hd s r) hr⟩
def fVar (i:Nat):Phi:=fun ρ R=>∃ d,ρ[i]?=some (some d)∧R d
theorem pv_var {i:Nat} {x:Str} (hN:X.N[i]?=some x:=by rfl) (hv:Vis X.env.scope x:=by first | exact .inl rfl | exact .inr (.inl rfl) | exact .inr (.inr rfl)) (hd:(x == ("__debug__" : Str))=false:=by decide) (hcd:(x == ("__classdict__" : Str))=false:=by decide) :
  PV X (.Name x pos) (fVar i):=⟨fun ρ R R' k ⟨d,e,h⟩=>⟨d,e,k d h⟩,(pe_var hN hv hd hcd).pre fun σ H Q ⟨W,ρ,se,d,e,q⟩=>by
 obtain ⟨v,h1,h2⟩:=se.env i d e
 exact ⟨v,h1,q v H (Same.refl _) h2⟩⟩
theorem PW.pre {t t':TT} (h:PW X e t) (k:∀ σ H Q,t' σ H Q→t σ H Q):PW X e t':=fun w pins s σ H Q I q=>h w pins s σ H Q I (k σ H Q q)
variable {rest:List Expr}
def fNil:PhiS:=fun _ R=>R []
def fCons (φ:Phi) (φs:PhiS):PhiS:=fun ρ R=>φ ρ fun d=>φs ρ fun ds=>R (d::ds)
theorem pva_nil:PVA X [] fNil:=⟨fun ρ R R' k h=>k _ h,pa_nil.pre fun σ H Q ⟨W,ρ,se,q⟩=>q [] H (Same.refl _) rfl⟩
theorem pva_cons (ha:PV X a φ) (hr:PVA X es φs) (hs:starEach (a::es) X.env=(false,eval a X.env)::starEach es X.env:=by rfl):PVA X (a::es) (fCons φ φs) :=
 ⟨fun ρ R R' k h=>ha.mono ρ _ _ (fun d q=>hr.mono ρ _ _ (fun ds q2=>k _ q2) q) h,(pa_cons ha.pe hr.pa hs).pre fun σ H Q ⟨W,ρ,se,h⟩ =>
  tD.of ha se h fun d1 v1 H1 h1 s1 r1=>tDs.of hr (se.same s1) h1 fun ds vs H2 q s2 r2=>q (v1::vs) H2 (s1.trans s2) (.cons (r1.same s2) r2)⟩
variable {x:Str} {p:Pos} {id T:String} {g:List D→Option D}
end
abbrev FD:=List D→(D→Prop)→Prop
def Mono (F:FD):Prop:=∀ ds R R',(∀ d,R d→R' d)→F ds R→F ds R'
section
variable {X:Cx} {k:Nat} {f:Addr} {fd:FuncData} {ps:List Str} {F:FD} {new:Bool} {x:Str} {p pos:Pos} {e:Expr} {es:List Expr} {φs:PhiS}
end
end L2
end

noncomputable section
set_option Elab.async false
set_option linter.all false
set_option maxRecDepth 100000
namespace L2
open PySem PySem.Spec PySem.SeqAt PyProof.Rows
section
variable {X:Cx} {a b c e:Expr} {es:List Expr} {φ φa φb φc:Phi} {τ τa τb:PhiB} {φs:PhiS} {pos:Pos} {W:Addr→Prop} {σ:St} {H:Hp} {ρ:Rho}
theorem LCh.pre {ops:List CmpOp} {rs:List Expr} {t t':V→TE} (h:LCh X ops rs t) (k:∀ x σ H Q,t' x σ H Q→t x σ H Q):LCh X ops rs t':=fun pos pins s σ H x v Q I r q=>h pos pins s σ H x v Q I r (k x σ H Q q)
theorem LChT.pre {ops:List CmpOp} {rs:List Expr} {t t':V→TT} (h:LChT X ops rs t) (k:∀ x σ H Q,t' x σ H Q→t x σ H Q):LChT X ops rs t':=fun pos pins s σ H x v Q I r q=>h pos pins s σ H x v Q I r (k x σ H Q q)
variable {op op':CmpOp} {ops:List CmpOp} {rs:List Expr} {g:D→D→Option D} {φr:PhiC}
end
abbrev NF:D→Prop:=fun d=>d.flat=true
section
variable {X:Cx} {a b c e:Expr} {es:List Expr} {φ φa φb φc:Phi} {φs:PhiS} {pos:Pos}
abbrev NL:D→Prop:=fun d=>match d with | .lst ds=>D.flats ds=true | d=>d.flat=true
end
end L2
end

noncomputable section
set_option Elab.async false
set_option linter.all false
set_option maxRecDepth 100000
namespace L2
open PySem PySem.Spec PySem.SeqAt PyProof.Rows
section
variable {P:Program} {w:World} {W W':Addr→Prop} {H:Hp}
mutual
theorem RepD.grow (s:∀ a,W' a→W a∨H a=none):∀ {d:D} {v:V},RepD P w W H d v→RepD P w W' H d v
 | .non,_,h=>h
 | .bl _,_,h=>h
 | .int _,_,h=>h
 | .str _,_,h=>h
 | .obj _,_,h=>h
 | .tup ds,_,⟨a,vs,e,t,r⟩=>⟨a,vs,e,t,RepDs.grow s r⟩
 | .lst ds,_,⟨a,vs,e,t,n,r⟩=>⟨a,vs,e,t,fun z=>(s a z).elim n fun q=>(by rw [t] at q; cases q),RepDs.grow s r⟩
 | .dT ks ds,_,⟨a,vs,e,t,l,n,r⟩=>⟨a,vs,e,t,l,fun z=>(s a z).elim n fun q=>(by rw [t] at q; cases q),RepDs.grow s r⟩
 | .dK ks ds,_,⟨a,vs,e,t,l,n,r⟩=>⟨a,vs,e,t,l,fun z=>(s a z).elim n fun q=>(by rw [t] at q; cases q),RepDs.grow s r⟩
 | .sT ts,_,⟨a,e,⟨ts',t,r,z⟩,n⟩=>⟨a,e,⟨ts',t,r,z⟩,fun z=>(s a z).elim n fun q=>(by rw [t] at q; cases q)⟩
theorem RepDs.grow (s:∀ a,W' a→W a∨H a=none):∀ {ds:List D} {vs:List V},RepDs P w W H ds vs→RepDs P w W' H ds vs
 | [],_,h=>h
 | d::ds,_,⟨v,r,e,h1,h2⟩=>⟨v,r,e,RepD.grow s h1,RepDs.grow s h2⟩
end
end
def ItW (X:Cx) (W:Addr→Prop) (J:It) (ds:List D) (H0:Hp):Prop:=∀ (i:Nat) (H:Hp),Kp W H0 H →
 (∀ d,ds[i]?=some d→J.go i H∧∀ x H1,J.yld i H x H1→Same H H1∧Rp X W H1 d x)∧(ds.length≤i→J.stop i H)
def ItD (X:Cx) (W:Addr→Prop) (J:It) (ds:List D) (H0:Hp):Prop:=∀ W':Addr→Prop,(∀ b,W' b→W b∨H0 b=none)→ItW X W' J ds H0
abbrev PhiI:=Rho→(List D→Prop)→Prop
structure PVI (X:Cx) (tg iter:Expr) (ι:PhiI):Prop where
 mono:∀ ρ R R',(∀ d,R d→R' d)→ι ρ R→ι ρ R'
 pi:PI X tg iter fun σ H R=>∃ W ρ,SE X W σ H ρ∧ι ρ fun ds=>∀ J H',Same H H'→ItD X W J ds H'→R J H'
section
variable {X:Cx} {tg e:Expr} {es:List Expr} {φ:Phi} {φs:PhiS}
theorem PI.pre {iter:Expr} {t t':TI} (h:PI X tg iter t) (k:∀ σ H R,t' σ H R→t σ H R):PI X tg iter t':=fun pins s σ H R I q=>h pins s σ H R I (k σ H R q)
theorem itd_list {W:Addr→Prop} {H:Hp} {p:Addr} {vs:List V} {ds:List D} (h1:H p=some (.lst vs)) (n1:¬ W p) (q1:Rps X W H ds vs):ItD X W (Itl X.K p) ds H:=fun W' hW i H' k=>by
 have h2:=k.out p _ h1 fun z=>(hW p z).elim n1 fun q=>by rw [h1] at q; cases q
 replace q1:=RepDs.grow hW q1
 constructor
 ·intro d hd
  obtain ⟨v,hv,rv⟩:=RepDs.get q1 hd
  refine ⟨⟨vs,v,SqL.of h2,hv⟩,fun x H1 y=>?_⟩
  obtain ⟨rfl,y⟩:=y
  have e:=y vs (SqL.of h2)
  rw [hv] at e
  cases e
  exact ⟨Same.refl _,rv.keep k⟩
 ·intro hl
  exact ⟨vs,SqL.of h2,by rw [q1.length]; exact hl⟩
def rngD (lo:Int) (n:Nat):List D:=(List.range n).map fun (k:Nat)=>D.int (lo+(k:Int))
theorem itd_range {W:Addr→Prop} {H:Hp} {lo:Int} {n:Nat}:ItD X W (Itr lo n) (rngD lo n) H:=fun _ _ i H' k=>by
 constructor
 ·intro d hd
  unfold rngD at hd
  rw [List.getElem?_map] at hd
  have hi:i < n:=by
   by_cases h:i < n
   ·exact h
   ·rw [List.getElem?_eq_none (by simpa using h)] at hd; cases hd
  rw [List.getElem?_range hi] at hd
  cases hd
  refine ⟨hi,fun x H1 y=>?_⟩
  obtain ⟨rfl,rfl⟩:=y
  exact ⟨Same.refl _,rfl⟩
 ·intro hl
  unfold rngD at hl
  rw [List.length_map,List.length_range] at hl
  exact hl
end
section
variable {X:Cx} {tg:Expr} {tgs:List Expr} {γ:Gam} {γs:Gams} {pos:Pos}
theorem PG.pre {t t':TG} (h:PG X tg t) (k:∀ v σ H Q,t' v σ H Q→t v σ H Q):PG X tg t':=fun pins s σ H v u Q I r q=>h pins s σ H v u Q I r (k v σ H Q q)
theorem PGs.pre {t t':TGs} (h:PGs X tgs t) (k:∀ v σ H Q,t' v σ H Q→t v σ H Q):PGs X tgs t':=fun pins s σ H v u Q I r q=>h pins s σ H v u Q I r (k v σ H Q q)
end
end L2
end

noncomputable section
set_option Elab.async false
set_option linter.all false
set_option maxRecDepth 100000
namespace L2
open PySem PySem.Spec PySem.SeqAt PyProof.Rows
theorem kp_upd {H:Hp} {a:Addr} {o o':HO} (h:H a=some o) (ht:∀ xs,o≠.tup xs):Kp (·=a) H (upd H a o') :=
 ⟨fun b u e n=>by rw [upd_ne n]; exact e,fun b xs e=>by rw [upd_ne (ne_of e h (fun z=>ht xs z.symm))]; exact e⟩
section
variable {X:Cx} {a:Addr} {e elt:Expr} {d:Nat} {φ:Phi}
end
section
variable {X:Cx} {e:Expr} {g:Comprehension} {gs:List Comprehension} {scope:Scope} {N':List Str} {lk:List (Option Nat)} {ι:PhiI} {γ:Gam} {τ:PhiB} {ε:Eps} {newAcc:Sem Value} {o0:HO} {acc:AccR}
variable {pos:Pos} {elt:Expr}
variable {tg it1 tg2 it2:Expr} {ifs ifs2:List Expr} {φ:Phi} {ι2:PhiI} {γ2:Gam} {τ2:PhiB}
end
end L2
end

noncomputable section
set_option Elab.async false
set_option linter.all false
set_option maxRecDepth 100000
namespace L2
open PySem PySem.Spec PySem.SeqAt PyProof.Rows
section
variable {P:Program} {w:World} {W W':Addr→Prop} {H H':Hp}
end
section
variable {P:Program} {w:World} {H0:Hp} {IO W0:Addr→Prop} {σ:St} {H H':Hp} {β:Bet} {W:Addr→Prop} {own:Nat→List Addr}
def ownSet (own:Nat→List Addr) (i:Nat) (as:List Addr):Nat→List Addr:=fun j=>if j=i then as else own j
theorem ownSet_sub {own:Nat→List Addr} {i j:Nat} {a:Addr} (h:a ∈ ownSet own i [] j):a ∈ own j∧j≠i:=by
 unfold ownSet at h
 by_cases e:j=i
 ·rw [if_pos e] at h; cases h
 ·rw [if_neg e] at h; exact ⟨h,e⟩
theorem set_ne {α:Type} {β:List α} {i j:Nat} {x:α} (h:i≠j):(β.set i x)[j]?=β[j]?:=by rw [List.getElem?_set,if_neg h]
theorem set_eq {α:Type} {β:List α} {i:Nat} {x y:α} (h:(β.set i x)[i]?=some y):y=x∧i < β.length:=by
 rw [List.getElem?_set,if_pos rfl] at h
 by_cases hi:i < β.length
 ·rw [if_pos hi] at h; cases h; exact ⟨rfl,hi⟩
 ·rw [if_neg hi] at h; cases h
theorem get_set {α:Type} {σ:List α} {i:Nat} {x:α} (h:i < σ.length):(σ.set i x)[i]?=some x:=by rw [List.getElem?_set,if_pos rfl,if_pos h]
end
end L2
end

noncomputable section
set_option Elab.async false
set_option linter.all false
set_option maxRecDepth 100000
namespace L2
open PySem PySem.Spec PySem.SeqAt PyProof.Rows
structure Sn (Z:Hp × (Addr→Prop)) (H:Hp) (W:Addr→Prop):Prop where
 w:∀ b,W b→Z.2 b∨Z.1 b=none
 k:Kp (fun b=>Z.2 b∨Z.1 b=none) Z.1 H
 d:∀ b,Z.1 b≠none→H b≠none
theorem Sn.refl {H:Hp} {W:Addr→Prop}:Sn (H,W) H W:=⟨fun _ z=>.inl z,Kp.refl,fun _ z=>z⟩
theorem Sn.same {Z:Hp × (Addr→Prop)} {H H':Hp} {W:Addr→Prop} (n:Sn Z H W) (s:Same H H'):Sn Z H' W:=⟨n.w,n.k.trans s.kp,fun b z e=>n.d b z (s.free e)⟩
theorem Sn.free {Z:Hp × (Addr→Prop)} {H:Hp} {W:Addr→Prop} (n:Sn Z H W) {a:Addr} (h:H a=none):Z.1 a=none:=by
 cases q:Z.1 a with
 | none=>rfl
 | some o=>exact absurd h (n.d a (by rw [q]; intro z; cases z))
theorem Sn.upd {Z:Hp × (Addr→Prop)} {H:Hp} {W:Addr→Prop} (n:Sn Z H W) {a:Addr} {o o':HO} (h:H a=some o) (ht:∀ xs,o≠.tup xs) (wa:W a):Sn Z (L2.upd H a o') W :=
 ⟨n.w,n.k.trans ((kp_upd h ht).mono fun b z=>by rw [z]; exact n.w a wa),fun b z e=>by
  by_cases hb:b=a
  ·subst hb; rw [upd_same] at e; cases e
  ·rw [upd_ne hb] at e; exact n.d b z e⟩
theorem Sn.trans {Z:Hp × (Addr→Prop)} {H1 H:Hp} {W1 W:Addr→Prop} (n1:Sn Z H1 W1) (n:Sn (H1,W1) H W):Sn Z H W:=by
 have big:∀ b,W1 b∨H1 b=none→Z.2 b∨Z.1 b=none:=fun b z=>z.elim (n1.w b) fun q=>.inr (n1.free q)
 exact ⟨fun b z=>big b (n.w b z),n1.k.trans (n.k.mono big),fun b z=>n.d b (n1.d b z)⟩
section
variable {X:Cx} {C:Cfg} {st:Stmt} {rest a b:List Stmt} {ψ ψ1 ψ2:Psi} {Z:Hp × (Addr→Prop)} {σ:St} {H H':Hp} {β:Bet} {pos:Pos}
theorem PS.pre {t t':TS} (h:PS X st t) (k:∀ D σ H,t' D σ H→t D σ H):PS X st t':=fun pins s σ H D I q=>h pins s σ H D I (k D σ H q)
theorem PSs.pre {t t':TS} (h:PSs X rest t) (k:∀ D σ H,t' D σ H→t D σ H):PSs X rest t':=fun pins s σ H D I q=>h pins s σ H D I (k D σ H q)
variable {i:Nat} {φ:Phi} {N:D→Prop}
end
end L2
end



noncomputable section
set_option Elab.async false
set_option linter.all false
set_option maxRecDepth 100000
namespace L2
open PySem PySem.Spec PySem.SeqAt PyProof.Rows
section
variable {X:Cx} {C:Cfg} {a b c e:Expr} {es:List Expr} {φ:Phi} {ν νa νb:PhiN} {τ τa τb:PhiNB} {νs:PhiNS} {pos:Pos} {σ:St} {H H':Hp} {β:Bet} {Z:Hp × (Addr→Prop)}
theorem held {P:Program} {w:World} {W W2:Addr→Prop} {H2:Hp} {d:D} {v:V} (r:RepD P w W H d v) (n:Sn (H,W) H2 W2):RepD P w W2 H2 d v :=
 RepD.anti n.w (RepD.keep n.k (RepD.grow (fun b z=>z) r))
variable {rest:List Expr}
variable {x:Str} {p:Pos} {id T:String} {g:List D→Option D}
end
theorem Sn.kp {Z:Hp × (Addr→Prop)} {H H':Hp} {W:Addr→Prop} (n:Sn Z H W) (k:Kp W H H') (dn:∀ c,H c≠none→H' c≠none):Sn Z H' W:=⟨n.w,n.k.trans (k.mono n.w),fun b z=>dn b (n.d b z)⟩
section
variable {X:Cx} {C:Cfg} {k ih:Nat} {f:Addr} {fd:FuncData} {ps:List Str} {F:FD} {ok:List Int→Prop} {x hx:Str} {p pos px:Pos} {es:List Expr} {νs:PhiNS}
end
section
variable {X:Cx} {C:Cfg} {e:Expr} {ν:PhiN} {i:Nat} {x:Str} {pos pos':Pos} {tg:Expr} {γ:GamB}
variable {px ap cp:Pos}
end
end L2
end

noncomputable section
set_option Elab.async false
set_option linter.all false
set_option maxRecDepth 100000
set_option maxHeartbeats 1000000
namespace HT2
open PySem PySem.Spec PyProof.Rows
section
open PySem.SeqAt
open PySem.AutoSeq1 (wpAny_loadPart')
open PySem.MeetsSeq PySem.MeetsSeq2 PySem.MeetsSeq3
end
section
variable {prog:Program} {w:World} {A:Around} {E:Value→Shared→Prop} {s:Shared}
end
section
open PySem.SeqAt
open PySem.AutoSeq1 (wpAny_loadPart')
open PySem.MeetsSeq PySem.MeetsSeq2 PySem.MeetsSeq3
end
section
variable {prog:Program} {w:World} {A:Around} {E:Value→Shared→Prop} {s:Shared}
end
end HT2
namespace L2
open PySem PySem.Spec PySem.SeqAt PyProof.Rows
theorem reps_ints {P:Program} {w:World} {W:Addr→Prop} {H:Hp}:∀ {ns:List Int} {vs:List V},RepDs P w W H (ns.map D.int) vs→vs=ns.map V.int
 | [],_,h=>h
 | n::ns,_,⟨v,r,e,h1,h2⟩=>by rw [e,reps_ints h2,show v=V.int n from h1]; rfl
section
variable {X:Cx}
end
end L2
end








noncomputable section
set_option Elab.async false
set_option linter.all false
set_option maxRecDepth 100000
namespace TS
open PySem PyProof.Rows
section
variable {prog:Program} {w:World} {A:Around} {E:Value→Shared→Prop} {s:Shared}
end
end TS
namespace ST
open PySem PyProof.Rows
section
variable {prog:Program} {w:World} {s:Shared}
end
end ST
namespace L2
open PySem PySem.Spec PySem.SeqAt PyProof.Rows HT
abbrev kD (k:List Int):D:=.tup (k.map D.int)
section
variable {X:Cx} {P:Program} {w:World} {W:Addr→Prop} {H:Hp}
end
section
variable {X:Cx}
end
end L2
end

noncomputable section
set_option Elab.async false
set_option linter.all false
set_option maxRecDepth 100000
namespace L2
open PySem PySem.Spec PySem.SeqAt PyProof.Rows
def fTake:FD:=fun ds R=>∃ n:Int,ds=[.int n]∧0 < n∧n < 2 ^ 200∧∀ r:Int,0≤r→r < n→R (.int r)
theorem fTake.mono:Mono fTake:=fun ds R R' k ⟨n,e,h1,h2,q⟩=>⟨n,e,h1,h2,fun r a b=>k _ (q r a b)⟩
section
variable {P:Program} {w:World} {K:PySem.W.Frag} {mg:Str→Option Value} {base:Heap}
end
end L2
end

noncomputable section
set_option Elab.async false
set_option linter.all false
set_option maxRecDepth 100000
namespace L2
open PySem PySem.Spec PySem.SeqAt PyProof.Rows
section
variable {X:Cx} {W:Addr→Prop} {H:Hp}
theorem newL {p:Addr} {vs:List V} {ds:List D} (n:H p=none) (f:NL (.lst ds)) (r:Rps X W H ds vs):Rp X (fun a=>H a≠none) (upd H p (.lst vs)) (.lst ds) (.ref p) :=
 ⟨p,vs,rfl,upd_same,fun z=>z n,RepDs.flat f (r.same (Same.new n))⟩
def rD2N (X:Cx) (f:D→D→Option D):R2:=fun x y H Q=>∃ W d1 d2 d,Dm W H∧Rp X W H d1 x∧Rp X W H d2 y∧f d1 d2=some d∧∀ v H',Same H H'→Rp X W H' d v→(NL d→Rp X (fun a=>H a≠none) H' d v)→Q v H'
def rDsN (X:Cx) (f:List D→Option D):List V→Hp→VK→Prop:=fun xs H Q=>∃ W ds d,Dm W H∧Rps X W H ds xs∧f ds=some d∧∀ v H',Same H H'→Rp X W H' d v→(NL d→Rp X (fun a=>H a≠none) H' d v)→Q v H'
abbrev OpDN (X:Cx) (f:Value→Value→Sem Value) (g:D→D→Option D):Prop:=OpR X f (rD2N X g)
abbrev CallDN (X:Cx) (f:Value) (g:List D→Option D):Prop:=CallR X f (rDsN X g)
theorem op_dAddN:OpDN X (binaryOp .Add) dAdd:=by
 intro pins s σ H x y v u Q I rx ry h
 obtain ⟨W,d1,d2,d,hd,r1,r2,e,q⟩:=h
 rcases lst2_some e with ⟨a,b,rfl,rfl,e⟩ | e
 ·obtain ⟨hl,rfl⟩:=ifSome e
  obtain ⟨p,vs,rfl,h1,n1,q1⟩:=r1
  obtain ⟨p',vs',rfl,h2,n2,q2⟩:=r2
  exact op_cat pins s σ H _ _ v u Q I rx ry ⟨p,p',vs,vs',rfl,rfl,h1,h2,by rw [q1.length,q2.length]; exact hl,fun l hl'=>q _ _ (Same.new hl') (Rp.lstNew hd hl' (q1.append q2)) fun f=>newL hl' f (q1.append q2)⟩
 ·obtain ⟨i,j,rfl,rfl,e⟩:=int2_some e
  cases e
  cases r1; cases r2
  exact op_add pins s σ H _ _ v u Q I rx ry ⟨i,j,rfl,rfl,q _ _ (Same.refl _) rfl fun _=>rfl⟩
theorem call_dListN:CallDN X (.type "list") dList:=by
 intro pins s σ H xs us Q I r h
 obtain ⟨W,ds,d,hd,r1,e,q⟩:=h
 match ds,e with
 | [.lst es],e =>
  cases e
  obtain ⟨v,r',rfl,⟨p,vs,rfl,h1,n1,q1⟩,hr⟩:=r1
  cases hr
  exact call_list_of pins s σ H _ us Q I r ⟨p,vs,rfl,.inl (SqL.of h1),fun l hl=>q _ _ (Same.new hl) (Rp.lstNew hd hl q1) fun f=>newL hl f q1⟩
 | [.tup es],e =>
  cases e
  obtain ⟨v,r',rfl,⟨p,vs,rfl,h1,q1⟩,hr⟩:=r1
  cases hr
  exact call_list_of pins s σ H _ us Q I r ⟨p,vs,rfl,.inr (SqT.of h1),fun l hl=>q _ _ (Same.new hl) (Rp.lstNew hd hl q1) fun f=>newL hl f q1⟩
end
section
variable {X:Cx} {a b e:Expr} {es:List Expr} {φ φa φb:Phi} {φs:PhiS} {pos:Pos}
variable {x:Str} {p:Pos} {id T:String} {g:List D→Option D}
variable {k:Nat} {f:Addr} {fd:FuncData} {ps:List Str} {F:FD}
end
end L2
end

noncomputable section
set_option Elab.async false
set_option linter.all false
set_option maxRecDepth 100000
namespace L2.Q
open PySem PySem.Spec PySem.SeqAt PyProof.Rows
section
variable (P:Program) (w:World) (H:Hp)
mutual
def Own:D→V→List Addr→Prop
 | .tup ds,v,A=>∃ a vs,v=.ref a∧H a=some (.tup vs)∧Owns ds vs A
 | .lst ds,v,A=>∃ a vs A',v=.ref a∧H a=some (.lst vs)∧A=a::A'∧Owns ds vs A'
 | .dT ks ds,v,A=>∃ a vs A',v=.ref a∧H a=some (.dT (ks.zip vs))∧ks.length=vs.length∧A=a::A'∧Owns ds vs A'
 | .dK ks ds,v,A=>∃ a vs A',v=.ref a∧H a=some (.dK (ks.zip vs))∧ks.length=vs.length∧A=a::A'∧Owns ds vs A'
 | .sT ts,v,A=>∃ a,v=.ref a∧SetR P w H a ts∧A=[a]
 | .non,v,A=>v=.non∧A=[]
 | .bl b,v,A=>v=.bl b∧A=[]
 | .int i,v,A=>v=.int i∧A=[]
 | .str x,v,A=>v=.str x∧A=[]
 | .obj a,v,A=>v=.ref a∧A=[]
def Owns:List D→List V→List Addr→Prop
 | [],vs,A=>vs=[]∧A=[]
 | d::ds,vs,A=>∃ v r A1 A2,vs=v::r∧A=A1++A2∧Own d v A1∧Owns ds r A2
end
end
section
variable {P:Program} {w:World} {W:Addr→Prop} {H H':Hp}
theorem setR_keep {a:Addr} {ts:List (List Int)} (k:∀ b xs,H b=some (.tup xs)→H' b=some (.tup xs)) (ha:∀ o,H a=some o→H' a=some o) (h:SetR P w H a ts):SetR P w H' a ts :=
 let ⟨ts',e,r,z⟩:=h; ⟨ts',ha _ e,fun x hx=>k _ _ (r x hx),z⟩
mutual
theorem Own.keep (k:∀ b xs,H b=some (.tup xs)→H' b=some (.tup xs)):∀ {d:D} {v:V} {A:List Addr},(∀ c ∈ A,∀ o,H c=some o→H' c=some o)→Own P w H d v A→Own P w H' d v A
 | .tup ds,_,_,ha,⟨a,vs,e,t,r⟩=>⟨a,vs,e,k a vs t,Owns.keep k ha r⟩
 | .lst ds,_,_,ha,⟨a,vs,A',e,t,eA,r⟩=>⟨a,vs,A',e,ha a (by rw [eA]; simp) _ t,eA,Owns.keep k (fun c hc=>ha c (by rw [eA]; simp [hc])) r⟩
 | .dT ks ds,_,_,ha,⟨a,vs,A',e,t,l,eA,r⟩=>⟨a,vs,A',e,ha a (by rw [eA]; simp) _ t,l,eA,Owns.keep k (fun c hc=>ha c (by rw [eA]; simp [hc])) r⟩
 | .dK ks ds,_,_,ha,⟨a,vs,A',e,t,l,eA,r⟩=>⟨a,vs,A',e,ha a (by rw [eA]; simp) _ t,l,eA,Owns.keep k (fun c hc=>ha c (by rw [eA]; simp [hc])) r⟩
 | .sT ts,_,_,ha,⟨a,e,r,eA⟩=>⟨a,e,setR_keep k (fun o ho=>ha a (by rw [eA]; simp) o ho) r,eA⟩
 | .non,_,_,_,h=>h
 | .bl _,_,_,_,h=>h
 | .int _,_,_,_,h=>h
 | .str _,_,_,_,h=>h
 | .obj _,_,_,_,h=>h
theorem Owns.keep (k:∀ b xs,H b=some (.tup xs)→H' b=some (.tup xs)):∀ {ds:List D} {vs:List V} {A:List Addr},(∀ c ∈ A,∀ o,H c=some o→H' c=some o)→Owns P w H ds vs A→Owns P w H' ds vs A
 | [],_,_,_,h=>h
 | d::ds,_,_,ha,⟨v,r,A1,A2,e,eA,h1,h2⟩=>⟨v,r,A1,A2,e,eA,Own.keep k (fun c hc=>ha c (by rw [eA]; simp [hc])) h1,Owns.keep k (fun c hc=>ha c (by rw [eA]; simp [hc])) h2⟩
end
mutual
theorem Own.rep:∀ {d:D} {v:V} {A:List Addr},(∀ c ∈ A,¬ W c)→Own P w H d v A→RepD P w W H d v
 | .tup ds,_,_,ha,⟨a,vs,e,t,r⟩=>⟨a,vs,e,t,Owns.rep ha r⟩
 | .lst ds,_,_,ha,⟨a,vs,A',e,t,eA,r⟩=>⟨a,vs,e,t,ha a (by rw [eA]; simp),Owns.rep (fun c hc=>ha c (by rw [eA]; simp [hc])) r⟩
 | .dT ks ds,_,_,ha,⟨a,vs,A',e,t,l,eA,r⟩=>⟨a,vs,e,t,l,ha a (by rw [eA]; simp),Owns.rep (fun c hc=>ha c (by rw [eA]; simp [hc])) r⟩
 | .dK ks ds,_,_,ha,⟨a,vs,A',e,t,l,eA,r⟩=>⟨a,vs,e,t,l,ha a (by rw [eA]; simp),Owns.rep (fun c hc=>ha c (by rw [eA]; simp [hc])) r⟩
 | .sT ts,_,_,ha,⟨a,e,r,eA⟩=>⟨a,e,r,ha a (by rw [eA]; simp)⟩
 | .non,_,_,_,h=>h.1
 | .bl _,_,_,_,h=>h.1
 | .int _,_,_,_,h=>h.1
 | .str _,_,_,_,h=>h.1
 | .obj _,_,_,_,h=>h.1
theorem Owns.rep:∀ {ds:List D} {vs:List V} {A:List Addr},(∀ c ∈ A,¬ W c)→Owns P w H ds vs A→RepDs P w W H ds vs
 | [],_,_,_,h=>h.1
 | d::ds,_,_,ha,⟨v,r,A1,A2,e,eA,h1,h2⟩=>⟨v,r,e,Own.rep (fun c hc=>ha c (by rw [eA]; simp [hc])) h1,Owns.rep (fun c hc=>ha c (by rw [eA]; simp [hc])) h2⟩
end
mutual
theorem Own.dom:∀ {d:D} {v:V} {A:List Addr},Own P w H d v A→∀ c ∈ A,H c≠none∧∀ xs,H c≠some (.tup xs)
 | .tup ds,_,_,⟨a,vs,e,t,r⟩,c,hc=>Owns.dom r c hc
 | .lst ds,_,_,⟨a,vs,A',e,t,eA,r⟩,c,hc=>by
  rw [eA] at hc
  rcases List.mem_cons.mp hc with rfl | hc
  ·rw [t]; exact ⟨fun z=>(nomatch z),fun xs z=>by cases z⟩
  ·exact Owns.dom r c hc
 | .dT ks ds,_,_,⟨a,vs,A',e,t,l,eA,r⟩,c,hc=>by
  rw [eA] at hc
  rcases List.mem_cons.mp hc with rfl | hc
  ·rw [t]; exact ⟨fun z=>(nomatch z),fun xs z=>by cases z⟩
  ·exact Owns.dom r c hc
 | .dK ks ds,_,_,⟨a,vs,A',e,t,l,eA,r⟩,c,hc=>by
  rw [eA] at hc
  rcases List.mem_cons.mp hc with rfl | hc
  ·rw [t]; exact ⟨fun z=>(nomatch z),fun xs z=>by cases z⟩
  ·exact Owns.dom r c hc
 | .sT ts,_,_,⟨a,e,⟨ts',t,r,z⟩,eA⟩,c,hc=>by
  rw [eA] at hc
  rw [List.mem_singleton.mp hc,t]
  exact ⟨fun z=>(nomatch z),fun xs z=>by cases z⟩
 | .non,_,_,h,c,hc=>by rw [h.2] at hc; cases hc
 | .bl _,_,_,h,c,hc=>by rw [h.2] at hc; cases hc
 | .int _,_,_,h,c,hc=>by rw [h.2] at hc; cases hc
 | .str _,_,_,h,c,hc=>by rw [h.2] at hc; cases hc
 | .obj _,_,_,h,c,hc=>by rw [h.2] at hc; cases hc
theorem Owns.dom:∀ {ds:List D} {vs:List V} {A:List Addr},Owns P w H ds vs A→∀ c ∈ A,H c≠none∧∀ xs,H c≠some (.tup xs)
 | [],_,_,h,c,hc=>by rw [h.2] at hc; cases hc
 | d::ds,_,_,⟨v,r,A1,A2,e,eA,h1,h2⟩,c,hc=>by
  rw [eA] at hc
  rcases List.mem_append.mp hc with hc | hc
  ·exact Own.dom h1 c hc
  ·exact Owns.dom h2 c hc
end
mutual
theorem own_flat:∀ {d:D} {v:V},d.flat=true→RepD P w W H d v→Own P w H d v []
 | .tup ds,_,f,⟨a,vs,e,t,r⟩=>⟨a,vs,e,t,owns_flat (by simpa [D.flat] using f) r⟩
 | .lst ds,_,f,_=>by simp [D.flat] at f
 | .dT ks ds,_,f,_=>by simp [D.flat] at f
 | .dK ks ds,_,f,_=>by simp [D.flat] at f
 | .sT ts,_,f,_=>by simp [D.flat] at f
 | .non,_,_,h=>⟨h,rfl⟩
 | .bl _,_,_,h=>⟨h,rfl⟩
 | .int _,_,_,h=>⟨h,rfl⟩
 | .str _,_,_,h=>⟨h,rfl⟩
 | .obj _,_,_,h=>⟨h,rfl⟩
theorem owns_flat:∀ {ds:List D} {vs:List V},D.flats ds=true→RepDs P w W H ds vs→Owns P w H ds vs []
 | [],_,_,h=>⟨h,rfl⟩
 | d::ds,_,f,⟨v,r,e,h1,h2⟩=>by
  have f':(d.flat && D.flats ds)=true:=f
  rw [Bool.and_eq_true] at f'
  exact ⟨v,r,[],[],e,rfl,own_flat f'.1 h1,owns_flat f'.2 h2⟩
end
theorem Owns.length:∀ {ds:List D} {vs:List V} {A:List Addr},Owns P w H ds vs A→vs.length=ds.length
 | [],_,_,h=>by rw [h.1]; rfl
 | d::ds,_,_,⟨v,r,A1,A2,e,eA,h1,h2⟩=>by rw [e,List.length_cons,List.length_cons,Owns.length h2]
theorem Owns.append:∀ {ds ds':List D} {vs vs':List V} {A A':List Addr},Owns P w H ds vs A→Owns P w H ds' vs' A'→Owns P w H (ds++ds') (vs++vs') (A++A')
 | [],_,_,_,_,_,h,h'=>by rw [h.1,h.2]; exact h'
 | d::ds,_,_,_,_,_,⟨v,r,A1,A2,e,eA,h1,h2⟩,h'=>by
  subst e eA
  exact ⟨v,_,A1,_,rfl,by rw [List.append_assoc],h1,Owns.append h2 h'⟩
theorem Owns.one {d:D} {v:V} {A:List Addr} (h:Own P w H d v A):Owns P w H [d] [v] A:=⟨v,[],A,[],rfl,by simp,h,rfl,rfl⟩
theorem Owns.split:∀ {ds:List D} {vs:List V} {A:List Addr} {i:Nat} {d:D},Owns P w H ds vs A→ds[i]?=some d→∃ v A1 A2 A3,vs[i]?=some v∧A=A1++(A2++A3)∧Owns P w H (ds.take i) (vs.take i) A1∧Own P w H d v A2∧Owns P w H (ds.drop (i+1)) (vs.drop (i+1)) A3
 | [],_,_,_,_,_,e=>by simp at e
 | d::ds,_,_,0,_,⟨v,r,A1,A2,e,eA,h1,h2⟩,e'=>by
  simp at e'; subst e' e eA
  exact ⟨v,[],A1,A2,by simp,by simp,⟨rfl,rfl⟩,h1,by simpa using h2⟩
 | d::ds,_,_,i+1,_,⟨v,r,A1,A2,e,eA,h1,h2⟩,e'=>by
  subst e eA
  obtain ⟨u,B1,B2,B3,g1,g2,g3,g4,g5⟩:=Owns.split (i:=i) h2 (by simpa using e')
  exact ⟨u,A1++B1,B2,B3,by simpa using g1,by rw [g2]; simp [List.append_assoc],by simpa using ⟨v,_,A1,B1,rfl,rfl,h1,g3⟩,g4,by simpa using g5⟩
end
inductive Kd where
 | own | yng | old | bor
inductive B where
 | val (y:Bool) (d:D) | own (d:D) | hand (ok:List Int→Prop) | shl (y:Bool) (d:D)
abbrev Bet:=List (Option B)
structure Cfg where
 H0:Hp
 IO:Addr→Prop
 /-- is the result to be one's own -/
 ro:Bool
 /-- what else names' data keeps off -/
 U:Addr→Prop:=fun _=>False
abbrev Wn (own:Nat→List Addr):Addr→Prop:=fun a=>∃ i,a ∈ own i
def av (C:Cfg) (W:Addr→Prop):Kd→Addr→Prop
 | .own,a=>W a∨C.H0 a≠none
 | .yng,a=>W a∨C.H0 a≠none
 | .old,a=>W a
 | .bor,_=>False
def av' (C:Cfg) (W:Addr→Prop) (k:Kd) (a:Addr):Prop:=av C W k a∨C.U a
abbrev yk (y:Bool):Kd:=match y with | true=>.yng | false=>.old
def shO:D→HO→List V→Prop
 | .lst _,o,vs=>o=.lst vs
 | .dT ks _,o,vs=>o=.dT (ks.zip vs)∧ks.length=vs.length
 | .dK ks _,o,vs=>o=.dK (ks.zip vs)∧ks.length=vs.length
 | _,_,_=>False
def shD:D→List D
 | .lst ds=>ds
 | .dT _ ds=>ds
 | .dK _ ds=>ds
 | _=>[]
def Shl (P:Program) (w:World) (W:Addr→Prop) (H:Hp) (d:D) (v:V) (A:List Addr):Prop:=∃ a o vs,v=.ref a∧A=[a]∧H a=some o∧shO d o vs∧RepDs P w W H (shD d) vs
theorem Shl.map {P:Program} {w:World} {W W':Addr→Prop} {H H':Hp} {d:D} {v:V} {A:List Addr} (h:Shl P w W H d v A) (ha:∀ c ∈ A,∀ o,H c=some o→H' c=some o) (hr:∀ ds vs,RepDs P w W H ds vs→RepDs P w W' H' ds vs):Shl P w W' H' d v A :=
 let ⟨a,o,vs,e1,e2,e3,e4,r⟩:=h; ⟨a,o,vs,e1,e2,ha a (by rw [e2]; simp) o e3,e4,hr _ _ r⟩
structure SQ' (P:Program) (w:World) (C:Cfg) (σ:St) (H:Hp) (β:Bet) (own:Nat→List Addr):Prop where
 len:β.length=σ.length
 val:∀ (i:Nat) (y:Bool) (d:D),β[i]?=some (some (.val y d))→∃ v,σ[i]?=some (some v)∧RepD P w (av' C (Wn own) (yk y)) H d v
 ow:∀ (i:Nat) (d:D),β[i]?=some (some (.own d))→∃ v,σ[i]?=some (some v)∧Own P w H d v (own i)∧∀ c ∈ own i,C.H0 c=none
 hnd:∀ (i:Nat) (ok:List Int→Prop),β[i]?=some (some (.hand ok))→∃ a ns,σ[i]?=some (some (.ref a))∧H a=some (.lst (ns.map V.int))∧ok ns∧own i=[a]∧((∀ b,¬ C.IO b)∨C.IO a)
 dm:∀ (i:Nat) (a:Addr),a ∈ own i→H a≠none∧(∀ xs,H a≠some (.tup xs))∧(C.H0 a=none∨C.IO a)∧¬ C.U a
 dis:∀ (i j:Nat) (a:Addr),a ∈ own i→a ∈ own j→i=j
 nod:∀ i,(own i).Nodup
 kp:Kp C.IO C.H0 H
 dmn:∀ a,C.H0 a≠none→H a≠none
 shl:∀ (i:Nat) (y:Bool) (d:D),β[i]?=some (some (.shl y d))→∃ v,σ[i]?=some (some v)∧Shl P w (av' C (Wn own) (yk y)) H d v (own i)∧∀ c ∈ own i,C.H0 c=none
abbrev SQ (X:Cx):=SQ' X.prog X.w
section
variable {P:Program} {w:World} {C:Cfg} {σ:St} {H H':Hp} {β:Bet} {own:Nat→List Addr} {W W':Addr→Prop}
theorem SQ'.dmW (b:SQ' P w C σ H β own):Dm (Wn own) H:=fun a ⟨i,h⟩=>(b.dm i a h).1
theorem SQ'.dmK (b:SQ' P w C σ H β own) (k:Kd):Dm (av C (Wn own) k) H:=fun a h=>by
 cases k with
 | own=>exact h.elim (b.dmW a) (b.dmn a)
 | yng=>exact h.elim (b.dmW a) (b.dmn a)
 | old=>exact b.dmW a h
 | bor=>exact h.elim
theorem av_mono (s:∀ a,W' a→W a) (k:Kd):∀ a,av C W' k a→av C W k a:=fun a h=>by
 cases k with
 | own=>exact h.imp (s a) id
 | yng=>exact h.imp (s a) id
 | old=>exact s a h
 | bor=>exact h
theorem avp_mono (s:∀ a,W' a→W a) (k:Kd):∀ a,av' C W' k a→av' C W k a:=fun a h=>h.imp (av_mono s k a) id
theorem SQ'.keep (b:SQ' P w C σ H β own) (k:Kp (fun a=>H a=none) H H') (kp:Kp C.IO H H') (dn:∀ a,H a≠none→H' a≠none):SQ' P w C σ H' β own:=by
 have ko:∀ c o,H c=some o→H' c=some o:=fun c o e=>k.out c o e (by rw [e]; exact fun z=>(nomatch z))
 have same:Same H H':=ko
 exact ⟨b.len,fun i y d e=>let ⟨v,h1,h2⟩:=b.val i y d e; ⟨v,h1,h2.same same⟩,fun i d e=>let ⟨v,h1,h2,h3⟩:=b.ow i d e; ⟨v,h1,h2.keep (fun _ _ e=>same _ _ e) (fun c _ o e=>same c o e),h3⟩,
  fun i ok e=>let ⟨a,ns,h1,h2,h3⟩:=b.hnd i ok e; ⟨a,ns,h1,same _ _ h2,h3⟩,fun i a h=>by
   obtain ⟨h1,h2,h3⟩:=b.dm i a h
   cases q:H a with
   | none=>exact absurd q h1
   | some o=>rw [same a o q]; exact ⟨fun z=>(nomatch z),fun xs z=>h2 xs (by rw [q]; exact z),h3⟩,b.dis,b.nod,b.kp.trans kp,fun a z=>dn a (b.dmn a z),fun i y d e=>let ⟨v,h1,h2,h3⟩:=b.shl i y d e; ⟨v,h1,h2.map (fun c _ o e=>same c o e) (fun _ _ r=>r.same same),h3⟩⟩
theorem SQ'.same (b:SQ' P w C σ H β own) (s:Same H H'):SQ' P w C σ H' β own:=b.keep s.kp s.kp fun a z e=>z (s.free e)
theorem wn_set {own:Nat→List Addr} {i:Nat} {a:Addr} (h:Wn (ownSet own i []) a):Wn own a:=let ⟨j,q⟩:=h; ⟨j,(ownSet_sub q).1⟩
theorem os_ne {own:Nat→List Addr} {i j:Nat} {A:List Addr} (h:i≠j):ownSet own i A j=own j:=by unfold ownSet; rw [if_neg (Ne.symm h)]
theorem os_eq {own:Nat→List Addr} {i:Nat} {A:List Addr}:ownSet own i A i=A:=by unfold ownSet; rw [if_pos rfl]
theorem SQ'.setVal {i:Nat} {d:D} {v:V} {y:Bool} (b:SQ' P w C σ H β own) (r:RepD P w (av' C (Wn own) (yk y)) H d v):SQ' P w C (σ.set i (some v)) H (β.set i (some (.val y d))) (ownSet own i []):=by
 have sub:∀ y a,av' C (Wn (ownSet own i [])) (yk y) a→av' C (Wn own) (yk y) a:=fun y=>avp_mono (fun a h=>wn_set h) _
 refine ⟨by simp [b.len],fun j y' d' e=>?_,fun j d' e=>?_,fun j ok e=>?_,fun j a h=>b.dm j a (ownSet_sub h).1,fun j k a h1 h2=>b.dis j k a (ownSet_sub h1).1 (ownSet_sub h2).1,fun j=>?_,b.kp,b.dmn,fun j y' d' e=>?_⟩
 ·by_cases hij:i=j
  ·subst hij
   obtain ⟨e',hl⟩:=set_eq e
   cases e'
   exact ⟨v,get_set (by rw [← b.len]; exact hl),r.anti (sub _)⟩
  ·rw [set_ne hij] at e ⊢
   obtain ⟨u,h1,h2⟩:=b.val j y' d' e
   exact ⟨u,h1,h2.anti (sub _)⟩
 ·by_cases hij:i=j
  ·subst hij
   obtain ⟨e',hl⟩:=set_eq e
   cases e'
  ·rw [set_ne hij] at e ⊢
   rw [os_ne hij]
   exact b.ow j d' e
 ·by_cases hij:i=j
  ·subst hij
   obtain ⟨e',hl⟩:=set_eq e
   cases e'
  ·rw [set_ne hij] at e ⊢
   rw [os_ne hij]
   exact b.hnd j ok e
 ·by_cases hij:i=j
  ·rw [hij,os_eq]; exact List.nodup_nil
  ·rw [os_ne hij]; exact b.nod j
 ·by_cases hij:i=j
  ·subst hij
   obtain ⟨e',hl⟩:=set_eq e
   cases e'
  ·rw [set_ne hij] at e ⊢
   rw [os_ne hij]
   obtain ⟨u,h1,h2,h3⟩:=b.shl j y' d' e
   exact ⟨u,h1,h2.map (fun _ _ _ z=>z) (fun _ _ r=>RepDs.anti (sub _) r),h3⟩
theorem SQ'.setOwn {i:Nat} {d:D} {v:V} {A:List Addr} (b:SQ' P w C σ H β own) (r:Own P w H d v A) (nd:A.Nodup) (nw:∀ c ∈ A,C.H0 c=none∧¬ Wn own c∧C.U c) :
  SQ' P w { C with U:=fun _=>False } (σ.set i (some v)) H (β.set i (some (.own d))) (ownSet own i A):=by
 have sub:∀ y a,av' { C with U:=fun _=>False } (Wn (ownSet own i A)) (yk y) a→av' C (Wn own) (yk y) a:=fun y a h=>by
  have q:∀ a,Wn (ownSet own i A) a→Wn own a∨a ∈ A:=fun a hq2=>by
   obtain ⟨j,q⟩:=hq2
   by_cases hij:i=j
   ·rw [hij,os_eq] at q; exact .inr q
   ·rw [os_ne hij] at q; exact .inl ⟨j,q⟩
  have q':∀ a,Wn (ownSet own i A) a→Wn own a∨C.U a:=fun a z=>(q a z).imp id fun z=>(nw a z).2.2
  rcases h with h | h
  ·cases y with
   | true=>exact h.elim (fun z=>(q' a z).imp .inl id) fun z=>.inl (.inr z)
   | false=>exact q' a h
  ·exact h.elim
 have mem:∀ {j c},c ∈ ownSet own i A j→(i=j∧c ∈ A)∨(i≠j∧c ∈ own j):=fun {j c} h=>by
  by_cases hij:i=j
  ·subst hij; rw [os_eq] at h; exact .inl ⟨rfl,h⟩
  ·rw [os_ne hij] at h; exact .inr ⟨hij,h⟩
 refine ⟨by simp [b.len],fun j y' d' e=>?_,fun j d' e=>?_,fun j ok e=>?_,fun j a h=>?_,fun j k a h1 h2=>?_,fun j=>?_,b.kp,b.dmn,fun j y' d' e=>?_⟩
 ·by_cases hij:i=j
  ·subst hij
   obtain ⟨e',hl⟩:=set_eq e
   cases e'
  ·rw [set_ne hij] at e ⊢
   obtain ⟨u,h1,h2⟩:=b.val j y' d' e
   exact ⟨u,h1,h2.anti (sub _)⟩
 ·by_cases hij:i=j
  ·subst hij
   obtain ⟨e',hl⟩:=set_eq e
   cases e'
   rw [os_eq]
   exact ⟨v,get_set (by rw [← b.len]; exact hl),r,fun c hc=>(nw c hc).1⟩
  ·rw [set_ne hij] at e ⊢
   rw [os_ne hij]
   exact b.ow j d' e
 ·by_cases hij:i=j
  ·subst hij
   obtain ⟨e',hl⟩:=set_eq e
   cases e'
  ·rw [set_ne hij] at e ⊢
   rw [os_ne hij]
   exact b.hnd j ok e
 ·rcases mem h with ⟨_,h⟩ | ⟨_,h⟩
  ·exact ⟨(r.dom a h).1,(r.dom a h).2,.inl (nw a h).1,fun z=>z⟩
  ·exact ⟨(b.dm j a h).1,(b.dm j a h).2.1,(b.dm j a h).2.2.1,fun z=>z⟩
 ·rcases mem h1 with ⟨e1,h1⟩ | ⟨n1,h1⟩
  ·rcases mem h2 with ⟨e2,h2⟩ | ⟨n2,h2⟩
   ·rw [← e1,← e2]
   ·exact absurd ⟨k,h2⟩ (nw a h1).2.1
  ·rcases mem h2 with ⟨e2,h2⟩ | ⟨n2,h2⟩
   ·exact absurd ⟨j,h1⟩ (nw a h2).2.1
   ·exact b.dis j k a h1 h2
 ·by_cases hij:i=j
  ·rw [← hij,os_eq]; exact nd
  ·rw [os_ne hij]; exact b.nod j
 ·by_cases hij:i=j
  ·subst hij
   obtain ⟨e',hl⟩:=set_eq e
   cases e'
  ·rw [set_ne hij] at e ⊢
   rw [os_ne hij]
   obtain ⟨u,h1,h2,h3⟩:=b.shl j y' d' e
   exact ⟨u,h1,h2.map (fun _ _ _ z=>z) (fun _ _ r=>RepDs.anti (sub _) r),h3⟩
theorem SQ'.freeze {i:Nat} {d:D} (b:SQ' P w C σ H β own) (h:β[i]?=some (some (.own d))):SQ' P w C σ H (β.set i (some (.val true d))) (ownSet own i []):=by
 obtain ⟨v,h1,h2,h3⟩:=b.ow i d h
 have e:σ.set i (some v)=σ:=by
  apply List.ext_getElem?
  intro j
  rw [List.getElem?_set]
  by_cases hij:i=j
  ·subst hij
   rw [if_pos rfl,h1]
   have:i < σ.length:=(List.getElem?_eq_some_iff.mp h1).1
   rw [if_pos this]
  ·rw [if_neg hij]
 have q:=SQ'.setVal (i:=i) (d:=d) (v:=v) (y:=true) (own:=ownSet own i []) (C:=C) (P:=P) (w:=w) (σ:=σ) (H:=H) (β:=β.set i none)
 have b':SQ' P w C σ H (β.set i none) (ownSet own i []):=by
  have sub:∀ y a,av' C (Wn (ownSet own i [])) (yk y) a→av' C (Wn own) (yk y) a:=fun y=>avp_mono (fun a h=>wn_set h) _
  refine ⟨by simp [b.len],fun j y' d' e=>?_,fun j d' e=>?_,fun j ok e=>?_,fun j a h=>b.dm j a (ownSet_sub h).1,fun j k a h1 h2=>b.dis j k a (ownSet_sub h1).1 (ownSet_sub h2).1,fun j=>?_,b.kp,b.dmn,fun j y' d' e=>?_⟩
  ·by_cases hij:i=j
   ·subst hij
    obtain ⟨e',hl⟩:=set_eq e
    cases e'
   ·rw [set_ne hij] at e
    obtain ⟨u,h1,h2⟩:=b.val j y' d' e
    exact ⟨u,h1,h2.anti (sub _)⟩
  ·by_cases hij:i=j
   ·subst hij
    obtain ⟨e',hl⟩:=set_eq e
    cases e'
   ·rw [set_ne hij] at e
    rw [os_ne hij]
    exact b.ow j d' e
  ·by_cases hij:i=j
   ·subst hij
    obtain ⟨e',hl⟩:=set_eq e
    cases e'
   ·rw [set_ne hij] at e
    rw [os_ne hij]
    exact b.hnd j ok e
  ·by_cases hij:i=j
   ·rw [hij,os_eq]; exact List.nodup_nil
   ·rw [os_ne hij]; exact b.nod j
  ·by_cases hij:i=j
   ·subst hij
    obtain ⟨e',hl⟩:=set_eq e
    cases e'
   ·rw [set_ne hij] at e
    rw [os_ne hij]
    obtain ⟨u,h1,h2,h3⟩:=b.shl j y' d' e
    exact ⟨u,h1,h2.map (fun _ _ _ z=>z) (fun _ _ r=>RepDs.anti (sub _) r),h3⟩
 have q:=SQ'.setVal (i:=i) (d:=d) (v:=v) (y:=true) b' (h2.rep fun c hc z=>by
  rcases z with (z | z) | z
  ·obtain ⟨j,hj⟩:=z
   obtain ⟨hj,ne⟩:=ownSet_sub hj
   exact ne (b.dis j i c hj hc)
  ·exact z (h3 c hc)
  ·exact (b.dm i c hc).2.2.2 z)
 rw [e,List.set_set] at q
 have eo:ownSet (ownSet own i []) i []=ownSet own i []:=by
  funext j
  by_cases hij:i=j
  ·rw [← hij,os_eq,os_eq]
  ·rw [os_ne hij,os_ne hij]
 rwa [eo] at q
abbrev Cfg.u (C:Cfg) (U:Addr→Prop):Cfg:={ C with U:=U }
theorem SQ'.withU {U:Addr→Prop} (b:SQ' P w C σ H β own) (hU:∀ a,U a→H a=none):SQ' P w (C.u U) σ H β own :=
 ⟨b.len,fun i y d e=>let ⟨v,h1,h2⟩:=b.val i y d e; ⟨v,h1,RepD.grow (fun a z=>z.elim (fun z=>.inl (.inl z)) fun z=>.inr (hU a z)) h2⟩,b.ow,b.hnd,fun i a h=>let ⟨h1,h2,h3,_⟩:=b.dm i a h; ⟨h1,h2,h3,fun z=>h1 (hU a z)⟩,b.dis,b.nod,b.kp,b.dmn,fun i y d e=>let ⟨v,h1,h2,h3⟩:=b.shl i y d e; ⟨v,h1,h2.map (fun _ _ _ z=>z) (fun _ _ r=>RepDs.grow (fun a z=>z.elim (fun z=>.inl (.inl z)) fun z=>.inr (hU a z)) r),h3⟩⟩
theorem SQ'.noU {U:Addr→Prop} (b:SQ' P w (C.u U) σ H β own):SQ' P w (C.u fun _=>False) σ H β own :=
 ⟨b.len,fun i y d e=>let ⟨v,h1,h2⟩:=b.val i y d e; ⟨v,h1,RepD.anti (fun a z=>z.elim .inl fun z=>z.elim) h2⟩,b.ow,b.hnd,fun i a h=>let ⟨h1,h2,h3,_⟩:=b.dm i a h; ⟨h1,h2,h3,fun z=>z⟩,b.dis,b.nod,b.kp,b.dmn,fun i y d e=>let ⟨v,h1,h2,h3⟩:=b.shl i y d e; ⟨v,h1,h2.map (fun _ _ _ z=>z) (fun _ _ r=>RepDs.anti (fun a z=>z.elim .inl fun z=>z.elim) r),h3⟩⟩
theorem SQ'.valA {i:Nat} {y:Bool} {d:D} (b:SQ' P w C σ H β own) (e:β[i]?=some (some (.val y d))):∃ v,σ[i]?=some (some v)∧RepD P w (av C (Wn own) (yk y)) H d v:=let ⟨v,h1,h2⟩:=b.val i y d e; ⟨v,h1,RepD.anti (fun a z=>.inl z) h2⟩
end
end L2.Q
end

noncomputable section
set_option Elab.async false
set_option linter.all false
set_option maxRecDepth 100000
namespace L2.Q
open PySem PySem.Spec PySem.SeqAt PyProof.Rows
def KV (P:Program) (w:World) (C:Cfg) (Z:Hp × (Addr→Prop)) (own:Nat→List Addr) (H:Hp):Kd→D→V→Prop
 | .own,d,v=>∃ A,Own P w H d v A∧A.Nodup∧∀ c ∈ A,Z.1 c=none∧¬ Wn own c∧C.H0 c=none
 | .yng,d,v=>RepD P w (av C (Wn own) .yng) H d v
 | .old,d,v=>RepD P w (av C (Wn own) .old) H d v
 | .bor,d,v=>RepD P w (av C (Wn own) .bor) H d v
structure Out' (P:Program) (w:World) (C:Cfg) (σ:St) (H:Hp) (own:Nat→List Addr) (p:Bool) (β':Bet) (H':Hp) (own':Nat→List Addr):Prop where
 sq:SQ' P w C σ H' β' own'
 sn:Sn (H,Wn own) H' (Wn own')
 pu:p=true→Same H H'∧own'=own
 le:∀ a,Wn own' a→Wn own a
abbrev Out (X:Cx):=Out' X.prog X.w
section
variable {X:Cx} {C:Cfg} {σ:St} {H H1 H2 H':Hp} {own own1 own2 own':Nat→List Addr} {p p':Bool} {β β1 β2 β':Bet} {Z:Hp × (Addr→Prop)} {d:D} {v:V} {k:Kd} {P:Program} {w:World}
theorem Out.refl (s:SQ X C σ H β own) (p:Bool):Out X C σ H own p β H own:=⟨s,Sn.refl,fun _=>⟨Same.refl _,rfl⟩,fun _ z=>z⟩
theorem Out.trans (a:Out X C σ H own p β1 H1 own1) (b:Out X C σ H1 own1 p' β2 H2 own2):Out X C σ H own (p && p') β2 H2 own2:=⟨b.sq,a.sn.trans b.sn,fun h=>by
 rw [Bool.and_eq_true] at h
 obtain ⟨s1,e1⟩:=a.pu h.1
 obtain ⟨s2,e2⟩:=b.pu h.2
 exact ⟨s1.trans s2,e2.trans e1⟩,fun c z=>a.le c (b.le c z)⟩
theorem Out.same (a:Out X C σ H own p β1 H1 own1) (s:Same H1 H2):Out X C σ H own p β1 H2 own1:=⟨a.sq.same s,a.sn.same s,fun h=>let ⟨s1,e1⟩:=a.pu h; ⟨s1.trans s,e1⟩,a.le⟩
theorem Out.wk (a:Out X C σ H own p β1 H1 own1) (h:p'=true→p=true):Out X C σ H own p' β1 H1 own1:=⟨a.sq,a.sn,fun z=>a.pu (h z),a.le⟩
theorem Out.tr2 {q:Bool} (a:Out X C σ H own p β1 H1 own1) (b:Out X C σ H1 own1 p' β2 H2 own2) (h:q=true→p=true∧p'=true):Out X C σ H own q β2 H2 own2:=(a.trans b).wk fun z=>by rw [(h z).1,(h z).2]; rfl
theorem KV.rep (h:KV P w C Z own H k d v):RepD P w (av C (Wn own) k) H d v:=by
 cases k with
 | own=>obtain ⟨A,h1,h2,h3⟩:=h; exact h1.rep fun c hc z=>z.elim (h3 c hc).2.1 fun z=>z (h3 c hc).2.2
 | _=>exact h
theorem KV.yng (h:KV P w C Z own H .own d v):KV P w C Z own H .yng d v:=KV.rep (k:=.own) h
theorem KV.flat {W:Addr→Prop} (f:d.flat=true) (h:RepD P w W H d v):KV P w C Z own H .own d v:=⟨[],own_flat f h,List.nodup_nil,fun c hc=>(nomatch hc)⟩
abbrev Kd.wk:Kd→Kd
 | .own=>.yng
 | .yng=>.yng
 | .old=>.old
 | .bor=>.bor
abbrev Kd.max:Kd→Kd→Kd
 | .bor,_=>.bor
 | _,.bor=>.bor
 | .old,_=>.old
 | _,.old=>.old
 | _,_=>.yng
theorem av_maxL {W:Addr→Prop} {a b:Kd}:∀ c,av C W (a.max b) c→av C W a c:=fun c h=>by
 cases a <;> cases b <;> first | exact h | exact h.elim | exact .inl h
theorem av_maxR {W:Addr→Prop} {a b:Kd}:∀ c,av C W (a.max b) c→av C W b c:=fun c h=>by
 cases a <;> cases b <;> first | exact h | exact h.elim | exact .inl h
theorem KV.of (h:RepD P w (av C (Wn own) k.wk) H d v):KV P w C Z own H k.wk d v:=by
 cases k <;> exact h
theorem KV.sameH (h:KV P w C Z own H k d v) (s:Same H H'):KV P w C Z own H' k d v:=by
 cases k with
 | own=>obtain ⟨A,h1,h2⟩:=h; exact ⟨A,h1.keep (fun b xs e=>s _ _ e) (fun c _ o e=>s c o e),h2⟩
 | yng=>exact RepD.same s h
 | old=>exact RepD.same s h
 | bor=>exact RepD.same s h
theorem KV.held (hk:k≠.bor) (h:KV P w C Z own H k d v) (n:Sn (H,Wn own) H2 (Wn own2)):KV P w C Z own2 H2 k d v:=by
 cases k with
 | own =>
  obtain ⟨A,h1,h2,h3⟩:=h
  refine ⟨A,h1.keep n.k.tup (fun c hc o e=>n.k.out c o e fun z=>z.elim (h3 c hc).2.1 fun z=>(h1.dom c hc).1 z),h2,fun c hc=>⟨(h3 c hc).1,fun z=>(n.w c z).elim (h3 c hc).2.1 fun z=>(h1.dom c hc).1 z,(h3 c hc).2.2⟩⟩
 | yng =>
  have g:RepD P w (fun a=>av C (Wn own) .yng a∨H a=none) H d v:=RepD.grow (fun b z=>z) h
  exact RepD.anti (fun b z=>z.elim (fun z=>(n.w b z).imp .inl id) fun z=>.inl (.inr z)) (RepD.keep (n.k.mono fun b z=>z.imp .inl id) g)
 | old=>exact held (W:=Wn own) h n
 | bor=>exact absurd rfl hk
theorem KV.heldP (h:KV P w C Z own H k d v) (s:Same H H2) (e:own2=own):KV P w C Z own2 H2 k d v:=by rw [e]; exact h.sameH s
abbrev hold (k:Kd) (p:Bool):Prop:=match k,p with
 | .bor,false=>False
 | _,_=>True
theorem KV.ho (h:KV P w C Z own H k d v) (o:Out X C σ H own p β' H2 own2) (hh:hold k p):KV P w C Z own2 H2 k d v:=by
 cases p with
 | true=>obtain ⟨s,e⟩:=o.pu rfl; exact h.heldP s e
 | false=>exact h.held (by rintro rfl; exact hh) o.sn
theorem KV.later (h:KV P w C (H1,Wn own1) own H k d v) (n:Sn Z H1 (Wn own1)):KV P w C Z own H k d v:=by
 cases k with
 | own=>obtain ⟨A,h1,h2,h3⟩:=h; exact ⟨A,h1,h2,fun c hc=>⟨n.free (h3 c hc).1,(h3 c hc).2⟩⟩
 | _=>exact h
end
abbrev PhiQ:=Bet→(D→Kd→Bet→Prop)→Prop
abbrev PhiQB:=Bet→(Bool→Bet→Prop)→Prop
abbrev PhiQS:=Bet→(List D→List Kd→Bet→Prop)→Prop
def tQ (X:Cx) (C:Cfg) (p:Bool) (φ:PhiQ):TE:=fun σ H Q=>∃ β own,SQ X C σ H β own∧φ β fun d k β'=>∀ v H' own',Out X C σ H own p β' H' own'→KV X.prog X.w C (H,Wn own) own' H' k d v→Q v H'
def tQB (X:Cx) (C:Cfg) (p:Bool) (φ:PhiQB):TT:=fun σ H Q=>∃ β own,SQ X C σ H β own∧φ β fun b β'=>∀ H' own',Out X C σ H own p β' H' own'→Q b H'
def KF (P:Program) (w:World) (C:Cfg) (own:Nat→List Addr) (H:Hp):List Kd→List D→List V→List Addr→Prop
 | [],ds,vs,A=>ds=[]∧vs=[]∧A=[]
 | k::ks,ds,vs,A=>∃ d dr v vr A1 A2,ds=d::dr∧vs=v::vr∧A=A1++A2∧(match k with | .own=>Own P w H d v A1 | k=>A1=[]∧RepD P w (av C (Wn own) k) H d v)∧KF P w C own H ks dr vr A2
def KVs (P:Program) (w:World) (C:Cfg) (Z:Hp × (Addr→Prop)) (own:Nat→List Addr) (H:Hp) (ks:List Kd) (ds:List D) (vs:List V):Prop :=
 ∃ A,KF P w C own H ks ds vs A∧A.Nodup∧∀ c ∈ A,Z.1 c=none∧¬ Wn own c∧C.H0 c=none
def tQS (X:Cx) (C:Cfg) (p:Bool) (φ:PhiQS):TA:=fun σ H Q=>∃ β own,SQ X C σ H β own∧φ β fun ds ks β'=>∀ vs H' own',Out X C σ H own p β' H' own'→KVs X.prog X.w C (H,Wn own) own' H' ks ds vs→Q vs H'
section
variable {X:Cx} {C:Cfg} {σ:St} {H H1 H2 H':Hp} {own own1 own2 own':Nat→List Addr} {p p':Bool} {β β1 β2 β':Bet} {Z:Hp × (Addr→Prop)} {d:D} {v:V} {k:Kd} {P:Program} {w:World} {ks:List Kd} {ds:List D} {vs:List V}
theorem KVs.nil:KVs P w C Z own H [] [] []:=⟨[],⟨rfl,rfl,rfl⟩,List.nodup_nil,fun c hc=>(nomatch hc)⟩
theorem KF.dom:∀ {ks:List Kd} {ds:List D} {vs:List V} {A:List Addr},KF P w C own H ks ds vs A→∀ c ∈ A,H c≠none
 | [],_,_,_,⟨_,_,e⟩,c,hc=>by rw [e] at hc; cases hc
 | k::ks,_,_,_,⟨d,dr,v,vr,A1,A2,rfl,rfl,rfl,h1,h2⟩,c,hc=>by
  rcases List.mem_append.mp hc with hc | hc
  ·cases k with
   | own=>exact (Own.dom h1 c hc).1
   | _=>rw [h1.1] at hc; cases hc
  ·exact KF.dom h2 c hc
theorem KVs.cons (h1:KV P w C Z own1 H1 k d v) (n:Sn (H1,Wn own1) H (Wn own)) (h1':KV P w C Z own H k d v) (h2:KVs P w C (H1,Wn own1) own H ks ds vs) (n0:Sn Z H1 (Wn own1)):KVs P w C Z own H (k::ks) (d::ds) (v::vs):=by
 obtain ⟨A2,f2,nd2,q2⟩:=h2
 have z2:∀ c ∈ A2,Z.1 c=none∧¬ Wn own c∧C.H0 c=none:=fun c hc=>⟨n0.free (q2 c hc).1,(q2 c hc).2⟩
 cases k with
 | own =>
  obtain ⟨A1,o1,nd1,q1⟩:=h1
  obtain ⟨A1',o1',nd1',q1'⟩:=(show KV P w C Z own H .own d v from KV.held (k:=.own) (fun z=>(nomatch z)) (⟨A1,o1,nd1,q1⟩:KV P w C Z own1 H1 .own d v) n)
  have o1'':Own P w H d v A1:=o1.keep n.k.tup (fun c hc o e=>n.k.out c o e fun z=>z.elim (q1 c hc).2.1 fun z=>(o1.dom c hc).1 z)
  refine ⟨A1++A2,⟨d,ds,v,vs,A1,A2,rfl,rfl,rfl,o1'',f2⟩,List.nodup_append.mpr ⟨nd1,nd2,fun a ha b hb e=>?_⟩,fun c hc=>?_⟩
  ·subst e
   exact (o1.dom a ha).1 (q2 a hb).1
  ·rcases List.mem_append.mp hc with hc | hc
   ·exact ⟨(q1 c hc).1,fun z=>(n.w c z).elim (q1 c hc).2.1 fun z=>(o1.dom c hc).1 z,(q1 c hc).2.2⟩
   ·exact z2 c hc
 | yng=>exact ⟨A2,⟨d,ds,v,vs,[],A2,rfl,rfl,rfl,⟨rfl,h1'⟩,f2⟩,nd2,z2⟩
 | old=>exact ⟨A2,⟨d,ds,v,vs,[],A2,rfl,rfl,rfl,⟨rfl,h1'⟩,f2⟩,nd2,z2⟩
 | bor=>exact ⟨A2,⟨d,ds,v,vs,[],A2,rfl,rfl,rfl,⟨rfl,h1'⟩,f2⟩,nd2,z2⟩
abbrev kAll:List Kd→Kd
 | []=>.yng
 | k::ks=>Kd.max k (kAll ks)
theorem KF.reps:∀ {ks:List Kd} {ds:List D} {vs:List V} {A:List Addr},KF P w C own H ks ds vs A→(∀ c ∈ A,¬ Wn own c∧C.H0 c=none)→RepDs P w (av C (Wn own) (kAll ks)) H ds vs
 | [],_,_,_,⟨e1,e2,e⟩,_=>by rw [e1,e2]; rfl
 | k::ks,_,_,_,⟨d,dr,v,vr,A1,A2,rfl,rfl,rfl,h1,h2⟩,hA=>by
  refine ⟨v,vr,rfl,?_,RepDs.anti av_maxR (KF.reps h2 fun c hc=>hA c (List.mem_append_right _ hc))⟩
  cases k with
  | own=>exact RepD.anti av_maxL (Own.rep (W:=av C (Wn own) .own) (fun c hc z=>z.elim (hA c (List.mem_append_left _ hc)).1 fun z=>z (hA c (List.mem_append_left _ hc)).2) h1)
  | yng=>exact RepD.anti (av_maxL (a:=.yng)) h1.2
  | old=>exact RepD.anti (av_maxL (a:=.old)) h1.2
  | bor=>exact RepD.anti (av_maxL (a:=.bor)) h1.2
theorem KVs.reps (h:KVs P w C Z own H ks ds vs):RepDs P w (av C (Wn own) (kAll ks)) H ds vs:=let ⟨A,h1,_,h3⟩:=h; h1.reps fun c hc=>(h3 c hc).2
theorem KVs.bor (h:KVs P w C Z own H ks ds vs):RepDs P w (fun _=>False) H ds vs:=RepDs.anti (fun _ z=>z.elim) h.reps
def Kflat:List Kd→List D→Prop
 | k::ks,d::ds=>(match k with | .own=>True | _=>d.flat=true)∧Kflat ks ds
 | _,_=>True
theorem KF.owns:∀ {ks:List Kd} {ds:List D} {vs:List V} {A:List Addr},KF P w C own H ks ds vs A→Kflat ks ds→Owns P w H ds vs A
 | [],_,_,_,⟨e1,e2,e⟩,_=>by rw [e1,e2,e]; exact ⟨rfl,rfl⟩
 | k::ks,_,_,_,⟨d,dr,v,vr,A1,A2,rfl,rfl,rfl,h1,h2⟩,⟨f1,f2⟩=>by
  refine ⟨v,vr,A1,A2,rfl,rfl,?_,KF.owns h2 f2⟩
  cases k with
  | own=>exact h1
  | yng=>rw [h1.1]; exact own_flat f1 h1.2
  | old=>rw [h1.1]; exact own_flat f1 h1.2
  | bor=>rw [h1.1]; exact own_flat f1 h1.2
theorem kAll_wk:∀ {ks:List Kd},(kAll ks).wk=kAll ks
 | []=>rfl
 | k::ks=>by cases k <;> cases h:kAll ks <;> simp [kAll,Kd.max,h]
def kMk (ks:List Kd) (ds:List D) (K:Kd→Prop):Prop:=match ks.all (fun k=>match k with | .own=>true | _=>false) with
 | true=>K .own
 | false=>(Kflat ks ds∧K .own)∨K (kAll ks)
theorem kMk.mono {ks:List Kd} {ds:List D} {K K':Kd→Prop} (k:∀ x,K x→K' x) (h:kMk ks ds K):kMk ks ds K':=by
 unfold kMk at *
 split
 ·next e=>rw [e] at h; exact k _ h
 ·next e=>rw [e] at h; exact h.imp (fun z=>⟨z.1,k _ z.2⟩) (k _)
theorem kMk.of {ks:List Kd} {ds:List D} {K:Kd→Prop} (h:kMk ks ds K):(Kflat ks ds∧K .own)∨K (kAll ks):=by
 unfold kMk at h
 split at h
 ·next e =>
  refine .inl ⟨?_,h⟩
  clear h
  induction ks generalizing ds with
  | nil=>cases ds <;> trivial
  | cons k ks ih =>
   cases ds with
   | nil=>trivial
   | cons d ds =>
    rw [List.all_cons,Bool.and_eq_true] at e
    refine ⟨?_,ih e.2⟩
    have e1:=e.1
    cases k <;> first | trivial | cases e1
 ·exact h
end
structure PQ (X:Cx) (C:Cfg) (p:Bool) (e:Expr) (φ:PhiQ):Prop where
 mono:∀ β R R',(∀ d k β,R d k β→R' d k β)→φ β R→φ β R'
 pe:PE X e (tQ X C p φ)
structure PQT (X:Cx) (C:Cfg) (p:Bool) (e:Expr) (φ:PhiQB):Prop where
 mono:∀ β R R',(∀ d β,R d β→R' d β)→φ β R→φ β R'
 pt:PT X e (tQB X C p φ)
structure PQW (X:Cx) (C:Cfg) (p:Bool) (e:Expr) (φ:PhiQB):Prop where
 mono:∀ β R R',(∀ d β,R d β→R' d β)→φ β R→φ β R'
 pw:PW X e (tQB X C p φ)
structure PQA (X:Cx) (C:Cfg) (p:Bool) (es:List Expr) (φ:PhiQS):Prop where
 mono:∀ β R R',(∀ d k β,R d k β→R' d k β)→φ β R→φ β R'
 pa:PA X es (tQS X C p φ)
end L2.Q
end

noncomputable section
set_option Elab.async false
set_option linter.all false
set_option maxRecDepth 100000
namespace L2.Q
open PySem PySem.Spec PySem.SeqAt PyProof.Rows
section
variable {X:Cx} {C:Cfg} {a b c e:Expr} {es:List Expr} {φ φa φb:PhiQ} {τ τa τb:PhiQB} {φs:PhiQS} {pos:Pos} {σ:St} {H H':Hp} {β:Bet} {own:Nat→List Addr} {p p':Bool}
theorem tQ.of (h:PQ X C p e φ) (s:SQ X C σ H β own) {R:D→Kd→Bet→Prop} {Q:VK} (hr:φ β R) (k:∀ d kd β' v H' own',R d kd β'→Out X C σ H own p β' H' own'→KV X.prog X.w C (H,Wn own) own' H' kd d v→Q v H'):tQ X C p φ σ H Q :=
 ⟨β,own,s,h.mono β _ _ (fun d kd β' hd v H' own' o r=>k d kd β' v H' own' hd o r) hr⟩
theorem tQB.of (h:PQT X C p e τ) (s:SQ X C σ H β own) {R:Bool→Bet→Prop} {Q:Bool→Hp→Prop} (hr:τ β R) (k:∀ t β' H' own',R t β'→Out X C σ H own p β' H' own'→Q t H'):tQB X C p τ σ H Q :=
 ⟨β,own,s,h.mono β _ _ (fun t β' hd H' own' o=>k t β' H' own' hd o) hr⟩
theorem tQS.of (h:PQA X C p es φs) (s:SQ X C σ H β own) {R:List D→List Kd→Bet→Prop} {Q:List V→Hp→Prop} (hr:φs β R) (k:∀ ds ks β' vs H' own',R ds ks β'→Out X C σ H own p β' H' own'→KVs X.prog X.w C (H,Wn own) own' H' ks ds vs→Q vs H'):tQS X C p φs σ H Q :=
 ⟨β,own,s,h.mono β _ _ (fun d kd β' hd v H' own' o r=>k d kd β' v H' own' hd o r) hr⟩
theorem PQW.t (h:PQW X C p e τ):PQT X C p e τ:=⟨h.mono,h.pw.pt⟩
abbrev vk (y:Bool):D→Kd
 | .int _=>.own
 | .bl _=>.own
 | .non=>.own
 | .str _=>.own
 | _=>yk y
def qB:B→(D→Kd→Prop)→Prop
 | .val y d,K=>K d (vk y d)
 | .own d,K=>K d .bor
 | .hand _,_=>False
 | .shl _ _,_=>False
def qVar (i:Nat):PhiQ:=fun β R=>∃ b,β[i]?=some (some b)∧qB b fun d k=>R d k β
theorem kv_var {P:Program} {w:World} {Z:Hp × (Addr→Prop)} {y:Bool} {d:D} {v:V} (h:RepD P w (av C (Wn own) (yk y)) H d v):KV P w C Z own H (vk y d) d v:=by
 cases d with
 | int i=>exact KV.flat rfl h
 | bl i=>exact KV.flat rfl h
 | non=>exact KV.flat rfl h
 | str i=>exact KV.flat rfl h
 | _=>cases y <;> exact h
theorem pq_var {i:Nat} {x:Str} (hN:X.N[i]?=some x:=by rfl) (hv:Vis X.env.scope x:=by first | exact .inl rfl | exact .inr (.inl rfl) | exact .inr (.inr rfl)) (hd:(x == ("__debug__" : Str))=false:=by decide) (hcd:(x == ("__classdict__" : Str))=false:=by decide) :
  PQ X C true (.Name x pos) (qVar i):=⟨fun β R R' k hq2=>by obtain ⟨b,e,h⟩:=hq2; exact ⟨b,e,by cases b <;> first | exact k _ _ _ h | exact h⟩,(pe_var hN hv hd hcd).pre fun σ H Q hq3=>by
 obtain ⟨β,own,s,b,e,q⟩:=hq3
 cases b with
 | val y d=>obtain ⟨v,h1,h2⟩:=s.valA e; exact ⟨v,h1,q v H own (Out.refl s _) (kv_var h2)⟩
 | own d=>obtain ⟨v,h1,h2,h3⟩:=s.ow i d e; exact ⟨v,h1,q v H own (Out.refl s _) (h2.rep fun _ _ z=>z)⟩
 | hand ok=>exact q.elim
 | shl _ _=>exact q.elim⟩
def qC (d:D):PhiQ:=fun β R=>R d .own β
theorem pq_int {i j}:PQ X C true (.Constant (.int i) j pos) (qC (.int i)):=⟨fun ρ R R' k h=>k _ _ _ h,pe_int.pre fun σ H Q hq6=>by obtain ⟨β,own,s,q⟩:=hq6; exact q _ H own (Out.refl s _) (KV.flat (W:=fun _=>False) rfl rfl)⟩
theorem pq_bl {b j}:PQ X C true (.Constant (.bool b) j pos) (qC (.bl b)):=⟨fun ρ R R' k h=>k _ _ _ h,pe_bl.pre fun σ H Q hq7=>by obtain ⟨β,own,s,q⟩:=hq7; exact q _ H own (Out.refl s _) (KV.flat (W:=fun _=>False) rfl rfl)⟩
theorem pq_non {j}:PQ X C true (.Constant .none j pos) (qC .non):=⟨fun ρ R R' k h=>k _ _ _ h,pe_non.pre fun σ H Q hq8=>by obtain ⟨β,own,s,q⟩:=hq8; exact q _ H own (Out.refl s _) (KV.flat (W:=fun _=>False) rfl rfl)⟩
def rD2M (X:Cx) (f:D→D→Option D) (N:D→Prop):R2:=fun x y H Q=>∃ W d1 d2 d,Dm W H∧Rp X W H d1 x∧Rp X W H d2 y∧f d1 d2=some d∧∀ v H',Same H H'→Rp X W H' d v→(N d→Rp X (fun a=>H a≠none) H' d v)→Q v H'
abbrev OpM (X:Cx) (f:Value→Value→Sem Value) (g:D→D→Option D) (N:D→Prop):Prop:=OpR X f (rD2M X g N)
theorem OpD.m {f:Value→Value→Sem Value} {g:D→D→Option D} (h:OpD X f g):OpM X f g NF:=fun pins s σ H x y v u Q I rx ry ⟨W,d1,d2,d,hd,r1,r2,e,q⟩ =>
 h pins s σ H x y v u Q I rx ry ⟨W,d1,d2,d,hd,r1,r2,e,fun v H' s r=>q v H' s r fun f=>RepD.flat f r⟩
def kN (N:D→Prop) (d:D) (k:Kd) (K:Kd→Prop):Prop:=match d with
 | .int _=>K .own
 | .bl _=>K .own
 | .non=>K .own
 | .str _=>K .own
 | .tup _=>K k
 | _=>(N d∧K .own)∨K k
theorem kN.mono {N:D→Prop} {d:D} {k:Kd} {K K':Kd→Prop} (h:∀ x,K x→K' x) (q:kN N d k K):kN N d k K':=by
 cases d <;> first | exact h _ q | exact q.imp (fun z=>⟨z.1,h _ z.2⟩) (h _)
theorem own_new {P:Program} {w:World} {Z:Hp × (Addr→Prop)} {d:D} {v:V} (hd:Dm (Wn own) H) (h0:∀ a,C.H0 a≠none→H a≠none) (hz:∀ a,Z.1 a≠none→H a≠none) (f:NL d) (r:RepD P w (fun a=>H a≠none) H' d v):KV P w C Z own H' .own d v:=by
 have nn:∀ {a:Addr},¬ (H a≠none)→H a=none:=fun {a} h=>Decidable.by_contra fun z=>h z
 have cl:∀ {a:Addr},H a=none→Z.1 a=none∧¬ Wn own a∧C.H0 a=none:=fun {a} h=>⟨Decidable.by_contra fun z=>hz a z h,fun z=>hd a z h,Decidable.by_contra fun z=>h0 a z h⟩
 cases d with
 | lst ds =>
  obtain ⟨a,vs,rfl,e,n,q⟩:=r
  exact ⟨[a],⟨a,vs,[],rfl,e,rfl,owns_flat f q⟩,by simp,fun c hc=>by rw [List.mem_singleton.mp hc]; exact cl (nn n)⟩
 | _=>exact KV.flat f r
theorem KV.kN {N:D→Prop} {P:Program} {w:World} {Z:Hp × (Addr→Prop)} {d:D} {v:V} {k:Kd} {K:Kd→Prop} (hk:k.wk=k) (r:RepD P w (av C (Wn own) k) H' d v) (ro:N d→KV P w C Z own H' .own d v) (q:kN N d k K):∃ k',K k'∧KV P w C Z own H' k' d v:=by
 have rk:KV P w C Z own H' k d v:=by rw [← hk]; exact KV.of (by rw [hk]; exact r)
 cases d with
 | int i=>exact ⟨_,q,KV.flat rfl r⟩
 | bl i=>exact ⟨_,q,KV.flat rfl r⟩
 | non=>exact ⟨_,q,KV.flat rfl r⟩
 | str i=>exact ⟨_,q,KV.flat rfl r⟩
 | tup ds=>exact ⟨_,q,rk⟩
 | _=>exact q.elim (fun z=>⟨_,z.2,ro z.1⟩) fun z=>⟨_,z,rk⟩
structure NOk (N:D→Prop):Prop where
 nl:∀ d,N d→NL d
theorem nok_NL:NOk NL:=⟨fun _ h=>h⟩
theorem nok_NF:NOk NF:=⟨fun d h=>by cases d <;> first | exact h | cases h⟩
theorem mx_wk {a b:Kd}:(a.max b).wk=a.max b:=by cases a <;> cases b <;> rfl
def qOp (g:D→D→Option D) (N:D→Prop) (pb:Bool) (φa φb:PhiQ):PhiQ:=fun β R=>φa β fun x ka β1=>hold ka pb∧φb β1 fun y kb β2=>∃ d,g x y=some d∧kN N d (ka.max kb) fun k=>R d k β2
variable {g:D→D→Option D} {N:D→Prop}
theorem qOp.mono (ha:PQ X C p a φa) (hb:PQ X C p' b φb):∀ β R R',(∀ d k β,R d k β→R' d k β)→qOp g N p' φa φb β R→qOp g N p' φa φb β R':=fun β R R' k h =>
 ha.mono β _ _ (fun x ka β1 hx=>⟨hx.1,hb.mono β1 _ _ (fun y kb β2 hq11=>by obtain ⟨d,e,q⟩:=hq11; exact ⟨d,e,q.mono fun _ z=>k _ _ _ z⟩) hx.2⟩) h
theorem qOp_of (hn:NOk N) (ha:PQ X C p a φa) (hb:PQ X C p' b φb):∀ σ H Q,tQ X C (p && p') (qOp g N p' φa φb) σ H Q→tOp (rD2M X g N) (tQ X C p φa) (tQ X C p' φb) σ H Q:=fun σ H Q ⟨β,own,s,h⟩ =>
 tQ.of ha s h fun d1 k1 β1 v1 H1 own1 ⟨hh,h1⟩ o1 r1=>tQ.of hb o1.sq h1 fun d2 k2 β2 v2 H2 own2 hq14 o2 r2=>by
  obtain ⟨d,e,q⟩:=hq14
  have r1':=r1.ho o2 hh
  refine ⟨av C (Wn own2) (k1.max k2),d1,d2,d,o2.sq.dmK _,RepD.anti av_maxL r1'.rep,RepD.anti av_maxR r2.rep,e,fun v H' s3 r3 n3=>?_⟩
  have o:=(o1.trans o2).same s3
  obtain ⟨k,q,r⟩:=KV.kN (Z:=(H,Wn own)) mx_wk r3 (fun n=>own_new (H:=H2) o2.sq.dmW o2.sq.dmn (fun a z=>o2.sn.d a (o1.sn.d a z)) (hn.nl _ n) (n3 n)) q
  exact q v H' own2 o r
theorem pq_op {op:Operator} (hn:NOk N) (ho:OpM X (binaryOp op) g N) (ha:PQ X C p a φa) (hb:PQ X C p' b φb):PQ X C (p && p') (.BinOp a op b pos) (qOp g N p' φa φb):=⟨qOp.mono ha hb,(pe_op ho ha.pe hb.pe).pre (qOp_of hn ha hb)⟩
theorem pq_cmp {op:CmpOp} (hn:NOk N) (ho:OpM X (compareOp op) g N) (ha:PQ X C p a φa) (hb:PQ X C p' b φb) (hm:behindInMarks op b=false:=by first | exact nobehind _ (by decide) (by decide) | rfl):PQ X C (p && p') (.Compare a [op] [b] pos) (qOp g N p' φa φb) :=
 ⟨qOp.mono ha hb,(pe_cmpR ho ha.pe hb.pe hm).pre (qOp_of hn ha hb)⟩
theorem pq_ix (hn:NOk N) (ho:IxR X (rD2M X g N)) (ha:PQ X C p a φa) (hb:PQ X C p' b φb) (hs:PlainIx b:=by exact fun _ _=>rfl):PQ X C (p && p') (.Subscript a b pos) (qOp g N p' φa φb):=⟨qOp.mono ha hb,(pe_ix ho ha.pe hb.pe hs).pre (qOp_of hn ha hb)⟩
def qTest (φ:PhiQ):PhiQB:=fun β R=>φ β fun d k β'=>∃ b,d=.bl b∧R b β'
theorem pqt_cmp {op:CmpOp} (hn:NOk N) (ho:OpM X (compareOp op) g N) (ha:PQ X C p a φa) (hb:PQ X C p' b φb) (hm:behindInMarks op b=false:=by first | exact nobehind _ (by decide) (by decide) | rfl):PQT X C (p && p') (.Compare a [op] [b] pos) (qTest (qOp g N p' φa φb)) :=
 ⟨fun β R R' k h=>qOp.mono ha hb β _ _ (fun d kd β hq15=>by obtain ⟨t,e,q⟩:=hq15; exact ⟨t,e,k _ _ q⟩) h,(pt_cmpR ho ha.pe hb.pe hm).pre fun σ H Q ⟨β,own,s,h⟩ =>
  tQ.of ha s h fun d1 k1 β1 v1 H1 own1 ⟨hh,h1⟩ o1 r1=>tQ.of hb o1.sq h1 fun d2 k2 β2 v2 H2 own2 hq18 o2 r2=>by
   obtain ⟨d,e,q⟩:=hq18
   have r1':=r1.ho o2 hh
   refine ⟨av C (Wn own2) (k1.max k2),d1,d2,d,o2.sq.dmK _,RepD.anti av_maxL r1'.rep,RepD.anti av_maxR r2.rep,e,fun v H' s3 r3 n3=>?_⟩
   obtain ⟨k,⟨t,et,q'⟩,r⟩:=KV.kN (Z:=(H,Wn own)) mx_wk r3 (fun n=>own_new (H:=H2) o2.sq.dmW o2.sq.dmn (fun a z=>o2.sn.d a (o1.sn.d a z)) (hn.nl _ n) (n3 n)) q
   subst et
   cases r3
   exact ⟨t,rfl,q' H' own2 ((o1.trans o2).same s3)⟩⟩
theorem pqt_val (ha:PQ X C p a φa) (he:∀ whole,isTrue a X.env whole=(do let v ← whole; standAt a.pos; holding [v] (truthy v)):=by intro _; rfl):PQT X C p a (qTest φa) :=
 ⟨fun β R R' k h=>ha.mono β _ _ (fun d kd β' hq19=>by obtain ⟨b,e,q⟩:=hq19; exact ⟨b,e,k _ _ q⟩) h,(pt_val ha.pe he).pre fun σ H Q ⟨β,own,s,h⟩=>tQ.of ha s h fun d k β' v H1 own1 hq21 o1 r1=>by
  obtain ⟨b,e,q⟩:=hq21
  subst e
  cases r1.rep
  exact ⟨b,rfl,q H1 own1 o1⟩⟩
def qNotT (τ:PhiQB):PhiQB:=fun β R=>τ β fun b β'=>R (!b) β'
theorem pqt_not (ha:PQT X C p a τ):PQT X C p (.UnaryOp .Not a pos) (qNotT τ) :=
 ⟨fun β R R' k h=>ha.mono β _ _ (fun b β' q=>k _ _ q) h,(pt_not ha.pt).pre fun σ H Q hq22=>by obtain ⟨β,own,s,h⟩:=hq22; exact tQB.of ha s h fun b β' H1 own1 q o=>q H1 own1 o⟩
variable {rest:List Expr}
def qAndT (τa τb:PhiQB):PhiQB:=fun β R=>τa β fun t β1=>if t=true then τb β1 R else R false β1
def qOrT (τa τb:PhiQB):PhiQB:=fun β R=>τa β fun t β1=>if t=true then R true β1 else τb β1 R
theorem pqw_and1 (ha:PQT X C p a τ):PQW X C p (.BoolOp .And [a] pos) τ:=⟨ha.mono,pw_and1 ha.pt⟩
theorem pqw_or1 (ha:PQT X C p a τ):PQW X C p (.BoolOp .Or [a] pos) τ:=⟨ha.mono,pw_or1 ha.pt⟩
theorem andL {p q:Bool} (z:(p && q)=true):p=true:=by cases p <;> first | rfl | cases z
theorem andR {p q:Bool} (z:(p && q)=true):q=true:=by cases p <;> first | exact z | cases z
theorem pqw_and (ha:PQT X C p a τa) (hb:PQW X C p' (.BoolOp .And (b::rest) pos) τb):PQW X C (p && p') (.BoolOp .And (a::b::rest) pos) (qAndT τa τb) :=
 ⟨fun β R R' k h=>ha.mono β _ _ (fun t β1 q=>by
   cases t
   ·exact k _ _ q
   ·exact hb.mono β1 _ _ k q) h,(pw_and ha.pt hb.pw).pre fun σ H Q ⟨β,own,s,h⟩=>tQB.of ha s h fun t β1 H1 own1 q o1=>by
  cases t
  ·exact q H1 own1 (o1.wk andL)
  ·exact tQB.of hb.t o1.sq q fun t' β2 H2 own2 q2 o2=>q2 H2 own2 (o1.trans o2)⟩
theorem pqw_or (ha:PQT X C p a τa) (hb:PQW X C p' (.BoolOp .Or (b::rest) pos) τb):PQW X C (p && p') (.BoolOp .Or (a::b::rest) pos) (qOrT τa τb) :=
 ⟨fun β R R' k h=>ha.mono β _ _ (fun t β1 q=>by
   cases t
   ·exact hb.mono β1 _ _ k q
   ·exact k _ _ q) h,(pw_or ha.pt hb.pw).pre fun σ H Q ⟨β,own,s,h⟩=>tQB.of ha s h fun t β1 H1 own1 q o1=>by
  cases t
  ·exact tQB.of hb.t o1.sq q fun t' β2 H2 own2 q2 o2=>q2 H2 own2 (o1.trans o2)
  ·exact q H1 own1 (o1.wk andL)⟩
def qAnd (φa φb:PhiQ):PhiQ:=fun β R=>φa β fun x _ β1=>∃ c,x=.bl c∧if c=true then φb β1 R else R (.bl false) .own β1
def qNot (φa:PhiQ):PhiQ:=fun β R=>φa β fun x _ β1=>∃ c,x=.bl c∧R (.bl (!c)) .own β1
theorem pq_one {op} (h:PQ X C p a φ):PQ X C p (.BoolOp op [a] pos) φ:=⟨h.mono,pe_one h.pe⟩
theorem kv_bl {P:Program} {w:World} {Z:Hp × (Addr→Prop)} {b:Bool}:KV P w C Z own H .own (.bl b) (.bl b):=KV.flat (W:=fun _=>False) rfl rfl
theorem pq_and (ha:PQ X C p a φa) (hb:PQ X C p' (.BoolOp .And (b::rest) pos) φb):PQ X C (p && p') (.BoolOp .And (a::b::rest) pos) (qAnd φa φb) :=
 ⟨fun β R R' k h=>ha.mono β _ _ (fun d kd β1 ⟨c,e,q⟩=>⟨c,e,by
   cases c
   ·exact k _ _ _ q
   ·exact hb.mono β1 _ _ k q⟩) h,(pe_and ha.pe hb.pe).pre fun σ H Q ⟨β,own,s,h⟩=>tQ.of ha s h fun d kd β1 v H1 own1 hq27 o1 r1=>by
  obtain ⟨c,e,q⟩:=hq27
  subst e
  cases r1.rep
  refine ⟨c,rfl,?_⟩
  cases c
  ·exact q _ H1 own1 (o1.wk andL) kv_bl
  ·exact tQ.of hb o1.sq q fun d2 k2 β2 v2 H2 own2 q2 o2 r2=>q2 v2 H2 own2 (o1.trans o2) (r2.later o1.sn)⟩
theorem pq_not (ha:PQ X C p a φa):PQ X C p (.UnaryOp .Not a pos) (qNot φa) :=
 ⟨fun β R R' k h=>ha.mono β _ _ (fun d kd β1 hq31=>by obtain ⟨c,e,q⟩:=hq31; exact ⟨c,e,k _ _ _ q⟩) h,(pe_not ha.pe).pre fun σ H Q ⟨β,own,s,h⟩=>tQ.of ha s h fun d kd β1 v H1 own1 hq33 o1 r1=>by
  obtain ⟨c,e,q⟩:=hq33
  subst e
  cases r1.rep
  exact ⟨c,rfl,q _ H1 own1 o1 kv_bl⟩⟩
def qUn (g:D→Option D) (φa:PhiQ):PhiQ:=fun β R=>φa β fun x _ β1=>∃ d,g x=some d∧d.flat=true∧R d .own β1
theorem pq_un {op:UnaryOp} {g:D→Option D} (ho:UnR X (unaryOp op) (rD1 X g)) (ha:PQ X C p a φa):PQ X C p (.UnaryOp op a pos) (qUn g φa) :=
 ⟨fun β R R' k h=>ha.mono β _ _ (fun x _ β1 hq35=>by obtain ⟨d,e,f,q⟩:=hq35; exact ⟨d,e,f,k _ _ _ q⟩) h,(pe_un ho ha.pe).pre fun σ H Q ⟨β,own,s,h⟩ =>
  tQ.of ha s h fun d1 k1 β1 v1 H1 own1 hq37 o1 r1=>by obtain ⟨d,e,f,q⟩:=hq37; exact ⟨_,d1,d,o1.sq.dmK _,r1.rep,e,fun v H' s2 r2=>q v H' own1 (o1.same s2) (KV.flat f r2)⟩⟩
def qNil:PhiQS:=fun β R=>R [] [] β
def qCons (pr:Bool) (φ:PhiQ) (φs:PhiQS):PhiQS:=fun β R=>φ β fun d k β1=>hold k pr∧φs β1 fun ds ks β2=>R (d::ds) (k::ks) β2
theorem pqa_nil:PQA X C true [] qNil:=⟨fun β R R' k h=>k _ _ _ h,pa_nil.pre fun σ H Q hq38=>by obtain ⟨β,own,s,q⟩:=hq38; exact q [] H own (Out.refl s _) KVs.nil⟩
theorem pqa_cons (ha:PQ X C p a φ) (hr:PQA X C p' es φs) (hs:starEach (a::es) X.env=(false,eval a X.env)::starEach es X.env:=by rfl):PQA X C (p && p') (a::es) (qCons p' φ φs) :=
 ⟨fun β R R' k h=>ha.mono β _ _ (fun d kd β1 q=>⟨q.1,hr.mono β1 _ _ (fun ds ks β2 q2=>k _ _ _ q2) q.2⟩) h,(pa_cons ha.pe hr.pa hs).pre fun σ H Q ⟨β,own,s,h⟩ =>
  tQ.of ha s h fun d1 k1 β1 v1 H1 own1 hq40 o1 r1=>by obtain ⟨hh,h1⟩:=hq40; exact tQS.of hr o1.sq h1 fun ds ks β2 vs H2 own2 q o2 r2=>q (v1::vs) H2 own2 (o1.trans o2) (KVs.cons r1 o2.sn (r1.ho o2 hh) r2 o1.sn)⟩
def qTup (φs:PhiQS):PhiQ:=fun β R=>φs β fun ds ks β1=>ds.length≤sizeLine∧kMk ks ds fun k=>R (.tup ds) k β1
def qLst (φs:PhiQS):PhiQ:=fun β R=>φs β fun ds ks β1=>ds.length≤sizeLine∧kMk ks ds fun k=>R (.lst ds) k β1
theorem Owns.same {P:Program} {w:World} {ds:List D} {vs:List V} {A:List Addr} (s:Same H H') (h:Owns P w H ds vs A):Owns P w H' ds vs A:=h.keep (fun b xs e=>s _ _ e) fun c _ o e=>s c o e
theorem kv_tup {P:Program} {w:World} {Z:Hp × (Addr→Prop)} {ks:List Kd} {ds:List D} {vs:List V} {K:Kd→Prop} {q:Addr} (hq:H q=none) (h:KVs P w C Z own H ks ds vs) (m:kMk ks ds K):∃ k,K k∧KV P w C Z own (upd H q (.tup vs)) k (.tup ds) (.ref q):=by
 rcases m.of with ⟨f,k⟩ | k
 ·obtain ⟨A,h1,h2,h3⟩:=h
  exact ⟨_,k,A,⟨q,vs,rfl,upd_same,(h1.owns f).same (Same.new hq)⟩,h2,h3⟩
 ·refine ⟨_,k,?_⟩
  rw [← kAll_wk]
  exact KV.of (by rw [kAll_wk]; exact ⟨q,vs,rfl,upd_same,h.reps.same (Same.new hq)⟩)
theorem kv_lst {P:Program} {w:World} {Z:Hp × (Addr→Prop)} {ks:List Kd} {ds:List D} {vs:List V} {K:Kd→Prop} {q:Addr} (hq:H q=none) (hd:Dm (Wn own) H) (h0:∀ a,C.H0 a≠none→H a≠none) (hz:∀ a,Z.1 a≠none→H a≠none) (h:KVs P w C Z own H ks ds vs) (m:kMk ks ds K):∃ k,K k∧KV P w C Z own (upd H q (.lst vs)) k (.lst ds) (.ref q):=by
 rcases m.of with ⟨f,k⟩ | k
 ·obtain ⟨A,h1,h2,h3⟩:=h
  refine ⟨_,k,q::A,⟨q,vs,A,rfl,upd_same,rfl,(h1.owns f).same (Same.new hq)⟩,List.nodup_cons.mpr ⟨fun z=>h1.dom q z hq,h2⟩,fun c hc=>?_⟩
  rcases List.mem_cons.mp hc with rfl | hc
  ·exact ⟨Decidable.by_contra fun z=>hz c z hq,fun z=>hd c z hq,Decidable.by_contra fun z=>h0 c z hq⟩
  ·exact h3 c hc
 ·refine ⟨_,k,?_⟩
  have nq:¬ av C (Wn own) (kAll ks) q:=fun z=>by
   cases e:kAll ks <;> rw [e] at z <;> first | exact z.elim (fun z=>hd q z hq) fun z=>h0 q z hq | exact hd q z hq | exact z
  rw [← kAll_wk]
  exact KV.of (by rw [kAll_wk]; exact ⟨q,vs,rfl,upd_same,nq,h.reps.same (Same.new hq)⟩)
theorem KVs.length {P:Program} {w:World} {Z:Hp × (Addr→Prop)} {ks:List Kd} {ds:List D} {vs:List V} (h:KVs P w C Z own H ks ds vs):vs.length=ds.length:=h.reps.length
theorem pq_tup {x1} (h:PQA X C p es φs):PQ X C p (.Tuple es x1 pos) (qTup φs) :=
 ⟨fun β R R' k q=>h.mono β _ _ (fun ds ks β1 hq41=>by obtain ⟨l,q⟩:=hq41; exact ⟨l,q.mono fun _ z=>k _ _ _ z⟩) q,(pe_tup h.pa).pre fun σ H Q ⟨β,own,s,q⟩=>tQS.of h s q fun ds ks β1 vs H1 own1 ⟨l,q1⟩ o1 r1 =>
  ⟨by rw [r1.length]; exact l,fun q hq=>let ⟨k,q1,r⟩:=kv_tup hq r1 q1; q1 _ _ own1 (o1.same (Same.new hq)) r⟩⟩
theorem pq_lst (h:PQA X C p es φs):PQ X C p (.List es pos) (qLst φs) :=
 ⟨fun β R R' k q=>h.mono β _ _ (fun ds ks β1 hq44=>by obtain ⟨l,q⟩:=hq44; exact ⟨l,q.mono fun _ z=>k _ _ _ z⟩) q,(pe_lst h.pa).pre fun σ H Q ⟨β,own,s,q⟩=>tQS.of h s q fun ds ks β1 vs H1 own1 ⟨l,q1⟩ o1 r1 =>
  ⟨by rw [r1.length]; exact l,fun q hq=>let ⟨k,q1,r⟩:=kv_lst hq o1.sq.dmW o1.sq.dmn (fun a z=>o1.sn.d a z) r1 q1; q1 _ _ own1 (o1.same (Same.new hq)) r⟩⟩
end
end L2.Q
end

noncomputable section
set_option Elab.async false
set_option linter.all false
set_option maxRecDepth 100000
namespace L2.Q
open PySem PySem.Spec PySem.SeqAt PyProof.Rows
section
variable {X:Cx} {C:Cfg} {a b c e:Expr} {es:List Expr} {φ φa φb:PhiQ} {τ τa τb:PhiQB} {φs:PhiQS} {pos:Pos} {σ:St} {H H':Hp} {β:Bet} {own:Nat→List Addr} {p p':Bool} {g:D→D→Option D} {N:D→Prop}
abbrev PhiQC:=D→Kd→PhiQ
structure PQC (X:Cx) (C:Cfg) (ops:List CmpOp) (es:List Expr) (φ:PhiQC):Prop where
 mono:∀ x k β R R',(∀ d k β,R d k β→R' d k β)→φ x k β R→φ x k β R'
 ch:LCh X ops es fun x σ H Q=>∃ β own d k,SQ X C σ H β own∧Rp X (av C (Wn own) k) H d x∧φ d k β fun d' k' β'=>∀ v H',Same H H'→SQ X C σ H' β' own→KV X.prog X.w C (H,Wn own) own H' k' d' v→Q v H'
 cht:LChT X ops es fun x σ H Q=>∃ β own d k,SQ X C σ H β own∧Rp X (av C (Wn own) k) H d x∧φ d k β fun d' k' β'=>∃ b,d'=.bl b∧∀ H',Same H H'→SQ X C σ H' β' own→Q b H'
def qCh1 (g:D→D→Option D) (φb:PhiQ):PhiQC:=fun x _ β R=>φb β fun y _ β1=>∃ b,g x y=some (.bl b)∧R (.bl b) .own β1
def qChN (g:D→D→Option D) (φb:PhiQ) (φr:PhiQC):PhiQC:=fun x _ β R=>φb β fun y ky β1=>∃ k,g x y=some (.bl k)∧if k=true then φr y ky β1 R else R (.bl false) .own β1
variable {op op':CmpOp} {ops:List CmpOp} {rs:List Expr} {φr:PhiQC}
theorem pqc_one (ho:OpD X (compareOp op) g) (hb:PQ X C true b φb):PQC X C [op] [b] (qCh1 g φb) :=
 ⟨fun x k β R R' h q=>hb.mono β _ _ (fun y _ β1 hq1=>by obtain ⟨d,e,q⟩:=hq1; exact ⟨d,e,h _ _ _ q⟩) q,
  (ch_one ho hb.pe).pre fun x σ H Q ⟨β,own,d,k,s,r,h⟩=>tQ.of hb s h fun d2 k2 β2 v2 H2 own2 hq3 o2 r2=>by
    obtain ⟨d',e,q⟩:=hq3
    obtain ⟨s2,rfl⟩:=o2.pu rfl
    exact ⟨av C (Wn own2) (k.max k2),d,d2,.bl d',o2.sq.dmK _,RepD.anti av_maxL (r.same s2),RepD.anti av_maxR r2.rep,e,fun v H' s3 r3=>q v H' (s2.trans s3) (o2.sq.same s3) (KV.flat rfl r3)⟩,
  (cht_one ho hb.pe).pre fun x σ H Q ⟨β,own,d,k,s,r,h⟩=>tQ.of hb s h fun d2 k2 β2 v2 H2 own2 hq5 o2 r2=>by
    obtain ⟨d',e,b,eb,q⟩:=hq5
    obtain ⟨s2,rfl⟩:=o2.pu rfl
    cases eb
    exact ⟨av C (Wn own2) (k.max k2),d,d2,.bl d',o2.sq.dmK _,RepD.anti av_maxL (r.same s2),RepD.anti av_maxR r2.rep,e,fun v H' s3 r3=>by
      cases r3
      exact ⟨_,rfl,q H' (s2.trans s3) (o2.sq.same s3)⟩⟩⟩
theorem pqc_cons (ho:OpD X (compareOp op) g) (hb:PQ X C true b φb) (hc:PQC X C (op'::ops) (c::rs) φr):PQC X C (op::op'::ops) (b::c::rs) (qChN g φb φr) :=
 ⟨fun x k β R R' h q=>hb.mono β _ _ (fun y ky β1 ⟨d,e,q⟩=>⟨d,e,by
   cases d
   ·exact h _ _ _ q
   ·exact hc.mono y ky β1 _ _ h q⟩) q,
  (ch_cons ho hb.pe hc.ch).pre fun x σ H Q ⟨β,own,d,k,s,r,h⟩=>tQ.of hb s h fun d2 k2 β2 v2 H2 own2 hq8 o2 r2=>by
    obtain ⟨t,e,q⟩:=hq8
    obtain ⟨s2,rfl⟩:=o2.pu rfl
    refine ⟨av C (Wn own2) (k.max k2),d,d2,.bl t,o2.sq.dmK _,RepD.anti av_maxL (r.same s2),RepD.anti av_maxR r2.rep,e,fun v H' s3 r3=>?_⟩
    cases r3
    refine ⟨t,rfl,?_⟩
    cases t
    · exact q _ H' (s2.trans s3) (o2.sq.same s3) kv_bl
    · exact ⟨β2,own2,d2,k2,o2.sq.same s3,r2.rep.same s3,hc.mono d2 k2 β2 _ _ (fun d' k' β' q' v H'' s4 sq r4=>q' v H'' ((s2.trans s3).trans s4) sq (r4.later ((o2.same s3).sn))) q⟩,
  (cht_cons ho hb.pe hc.cht).pre fun x σ H Q ⟨β,own,d,k,s,r,h⟩=>tQ.of hb s h fun d2 k2 β2 v2 H2 own2 hq10 o2 r2=>by
    obtain ⟨t,e,q⟩:=hq10
    obtain ⟨s2,rfl⟩:=o2.pu rfl
    refine ⟨av C (Wn own2) (k.max k2),d,d2,.bl t,o2.sq.dmK _,RepD.anti av_maxL (r.same s2),RepD.anti av_maxR r2.rep,e,fun v H' s3 r3=>?_⟩
    cases r3
    refine ⟨t,rfl,?_⟩
    cases t
    · obtain ⟨b,eb,q⟩:=q
      cases eb
      exact q H' (s2.trans s3) (o2.sq.same s3)
    · exact ⟨β2,own2,d2,k2,o2.sq.same s3,r2.rep.same s3,hc.mono d2 k2 β2 _ _ (fun d' k' β' hq11=>by obtain ⟨b,eb,q'⟩:=hq11; exact ⟨b,eb,fun H'' s4 sq=>q' H'' ((s2.trans s3).trans s4) sq⟩) q⟩⟩
def qChain (φa:PhiQ) (φr:PhiQC):PhiQ:=fun β R=>φa β fun x k β1=>φr x k β1 R
theorem pqt_chain {op₁ op₂:CmpOp} (ha:PQ X C true a φa) (hc:PQC X C (op₁::op₂::ops) (b::c::rs) φr) (hm:lastMarks (op₁::op₂::ops) (b::c::rs)=false:=by with_unfolding_all rfl) :
  PQT X C true (.Compare a (op₁::op₂::ops) (b::c::rs) pos) (qTest (qChain φa φr)) :=
 ⟨fun β R R' k h=>ha.mono β _ _ (fun x kx β1 q=>hc.mono x kx β1 _ _ (fun d kd β' hq13=>by obtain ⟨b,e,q⟩:=hq13; exact ⟨b,e,k _ _ q⟩) q) h,(pt_chainN ha.pe hc.cht hm).pre fun σ H Q ⟨β,own,s,h⟩=>tQ.of ha s h fun d k β1 v H1 own1 q o1 r1=>by
  obtain ⟨s1,rfl⟩:=o1.pu rfl
  exact ⟨β1,own1,d,k,o1.sq,r1.rep,hc.mono d k β1 _ _ (fun d' k' β' hq15=>by obtain ⟨b,e,q'⟩:=hq15; exact ⟨b,e,fun H'' s4 sq=>q' H'' own1 ⟨sq,o1.sn.same s4,fun _=>⟨s1.trans s4,rfl⟩,o1.le⟩⟩) q⟩⟩
theorem wk_wk {k:Kd}:k.wk.wk=k.wk:=by cases k <;> rfl
theorem av_wk {W:Addr→Prop} {k:Kd}:∀ c,av C W k.wk c→av C W k c:=fun c h=>by cases k <;> exact h
def rDsM (X:Cx) (f:List D→Option D) (N:D→Prop):List V→Hp→VK→Prop:=fun xs H Q=>∃ W ds d,Dm W H∧Rps X W H ds xs∧f ds=some d∧∀ v H',Same H H'→Rp X W H' d v→(N d→Rp X (fun a=>H a≠none) H' d v)→Q v H'
abbrev CallM (X:Cx) (f:Value) (g:List D→Option D) (N:D→Prop):Prop:=CallR X f (rDsM X g N)
theorem CallD.m {f:Value} {g:List D→Option D} (h:CallD X f g):CallM X f g NF:=fun pins s σ H xs us Q I r ⟨W,ds,d,hd,r1,e,q⟩ =>
 h pins s σ H xs us Q I r ⟨W,ds,d,hd,r1,e,fun v H' s r=>q v H' s r fun f=>RepD.flat f r⟩
def qCall (g:List D→Option D) (N:D→Prop) (φs:PhiQS):PhiQ:=fun β R=>φs β fun ds ks β1=>∃ d,g ds=some d∧kN N d (kAll ks) fun k=>R d k β1
variable {x:Str} {pp:Pos} {id T:String} {gs:List D→Option D}
theorem qCall.mono (h:PQA X C p es φs):∀ β R R',(∀ d k β,R d k β→R' d k β)→qCall gs N φs β R→qCall gs N φs β R':=fun β R R' k q=>h.mono β _ _ (fun ds ks β1 hq24=>by obtain ⟨d,e,q⟩:=hq24; exact ⟨d,e,q.mono fun _ z=>k _ _ _ z⟩) q
theorem qCall_of (hn:NOk N) (h:PQA X C p es φs):∀ σ H Q,tQ X C p (qCall gs N φs) σ H Q→tCB (rDsM X gs N) (tQS X C p φs) σ H Q:=fun σ H Q ⟨β,own,s,q⟩=>tQS.of h s q fun ds ks β1 vs H1 own1 hq26 o1 r1=>by
 obtain ⟨d,e,q1⟩:=hq26
 refine ⟨av C (Wn own1) (kAll ks),ds,d,o1.sq.dmK _,r1.reps,e,fun v H' s2 r2 n2=>?_⟩
 obtain ⟨k',q,r⟩:=KV.kN (Z:=(H,Wn own)) kAll_wk r2 (fun n=>own_new (H:=H1) o1.sq.dmW o1.sq.dmn (fun a z=>o1.sn.d a z) (hn.nl _ n) (n2 n)) q1
 exact q v H' own1 (o1.same s2) r
theorem pq_callB (hn':NOk N) (hc:CallM X (.builtin id) gs N) (hm:X.mg x=none) (hv:bootBuiltins x=some (.builtin id)) (ha:PQA X C p (e::es) φs) (hg:Gl X x:=by rfl) (hn:x≠"__name__" := by decide) (hdb:(x == ("__debug__" : Str))=false:=by decide)
  (hsp:starEach (e::es) X.env=(false,eval e X.env)::starEach es X.env:=by rfl) (hpl:(backTo pos (starEach es X.env)).any (·.1)=false:=by rfl) :
  PQ X C p (.Call (.Name x pp) (e::es) [] pos) (qCall gs N φs):=⟨qCall.mono ha,(pe_callB hc hg hm hv ha.pa hn hdb (he:=hsp) (hpl:=hpl)).pre (qCall_of hn' ha)⟩
theorem pq_callTy (hn':NOk N) (hc:CallM X (.type T) gs N) (hm:X.mg x=none) (hv:bootBuiltins x=some (.type T)) (ha:PQA X C p (e::es) φs) (hg:Gl X x:=by rfl) (hn:x≠"__name__" := by decide) (hdb:(x == ("__debug__" : Str))=false:=by decide)
  (hsp:starEach (e::es) X.env=(false,eval e X.env)::starEach es X.env:=by rfl) (hpl:(backTo pos (starEach es X.env)).any (·.1)=false:=by rfl) :
  PQ X C p (.Call (.Name x pp) (e::es) [] pos) (qCall gs N φs):=⟨qCall.mono ha,(pe_callTy hc hg hm hv ha.pa hn hdb (he:=hsp) (hpl:=hpl)).pre (qCall_of hn' ha)⟩
end
def NewV (P:Program) (w:World) (ro:Bool) (H H':Hp) (d:D) (v:V):Prop:=match ro with
 | true=>∃ A,Own P w H' d v A∧A.Nodup∧∀ c ∈ A,H c=none
 | false=>RepD P w (fun a=>H a≠none) H' d v
abbrev rk (ro:Bool):Kd:=match ro with | true=>.own | false=>.yng
def spQ (P:Program) (w:World) (ro:Bool) (F:FD):Sp:=fun vs H Q _=>∃ ds,RepDs P w (fun _=>False) H ds vs∧F ds fun d=>∀ v H',Same H H'→NewV P w ro H H' d v→Q v H'
def spQH (P:Program) (w:World) (ok:List Int→Prop) (ro:Bool) (F:FD):Sp:=fun vs H Q _=>∃ h vs' ds ns,vs=.ref h::vs'∧H h=some (.lst (ns.map V.int))∧ok ns∧RepDs P w (fun a=>a=h) H ds vs' ∧
 F ds fun d=>∀ v H' ns',Kp (·=h) H H'→(∀ c,H c≠none→H' c≠none)→H' h=some (.lst (ns'.map V.int))→ok ns'→NewV P w ro H H' d v→Q v H'
section
variable {X:Cx} {C:Cfg} {k ih:Nat} {f:Addr} {fd:FuncData} {ps:List Str} {F:FD} {ro p:Bool} {x hx:Str} {pp pos px:Pos} {e:Expr} {es:List Expr} {φs:PhiQS} {ok:List Int→Prop} {σ:St} {H H':Hp} {β:Bet} {own:Nat→List Addr} {P:Program} {w:World}
theorem NewV.kv {Z:Hp × (Addr→Prop)} {d:D} {v:V} (hd:Dm (Wn own) H) (h0:∀ a,C.H0 a≠none→H a≠none) (hz:∀ a,Z.1 a≠none→H a≠none) (h:NewV P w ro H H' d v):KV P w C Z own H' (rk ro) d v:=by
 cases ro with
 | true =>
  obtain ⟨A,h1,h2,h3⟩:=h
  exact ⟨A,h1,h2,fun c hc=>⟨Decidable.by_contra fun z=>hz c z (h3 c hc),fun z=>hd c z (h3 c hc),Decidable.by_contra fun z=>h0 c z (h3 c hc)⟩⟩
 | false=>exact RepD.anti (fun a z=>z.elim (hd a) (h0 a)) h
def qOwn (ro:Bool) (F:FD) (φs:PhiQS):PhiQ:=fun β R=>φs β fun ds _ β1=>F ds fun d=>R d (rk ro) β1
theorem pq_call (mF:Mono F) (G:FnOk X.prog X.w X.K X.mg X.base CX0 k f fd ps (spQ X.prog X.w ro F)) (hr:Room k X.A) (hm:X.mg x=some (.ref f)) (hk:PySem.W.keepIn X.K (.ref f)=true) (hb:Binds X.K fd ps []) (ha:PQA X C p (e::es) φs) (hg:Gl X x:=by rfl)
  (hdb:(x == ("__debug__" : Str))=false:=by decide)
  (hsp:starEach (e::es) X.env=(false,eval e X.env)::starEach es X.env:=by rfl) (hpl:(backTo pos (starEach es X.env)).any (·.1)=false:=by rfl) :
  PQ X C p (.Call (.Name x pp) (e::es) [] pos) (qOwn ro F φs) :=
 ⟨fun β R R' k h=>ha.mono β _ _ (fun ds ks β1 q=>mF ds _ _ (fun d q=>k _ _ _ q) q) h,(pe_call G hr hg hm hk hb .nil pass0 ha.pa (hdb:=hdb) (he:=hsp) (hpl:=hpl)).pre fun σ H Q ⟨β,own,s,h⟩=>tQS.of ha s h fun ds ks β1 vs H1 own1 q o1 r1=>by
  rw [List.append_nil]
  exact ⟨ds,r1.bor,mF ds _ _ (fun d q2 v H' s2 r2=>q2 v H' own1 (o1.same s2) (r2.kv o1.sq.dmW o1.sq.dmn fun a z=>o1.sn.d a z)) q⟩⟩
theorem SQ'.drawn {i:Nat} {h:Addr} {ns':List Int} (b:SQ' P w C σ H β own) (e:β[i]?=some (some (.hand ok))) (hσ:σ[i]?=some (some (.ref h))) (k:Kp (·=h) H H') (e':H' h=some (.lst (ns'.map V.int))) (o':ok ns') (dn:∀ c,H c≠none→H' c≠none):SQ' P w C σ H' β own:=by
 obtain ⟨a,ns,h1,h2,h3,h4,h5⟩:=b.hnd i ok e
 rw [hσ] at h1
 cases h1
 have wh:Wn own h:=⟨i,by rw [h4]; simp⟩
 have kW:∀ y,Kp (av' C (Wn own) (yk y)) H H':=fun y=>k.mono fun c z=>by rw [z]; cases y <;> first | exact .inl wh | exact .inl (.inl wh)
 have ne:∀ j,j≠i→∀ c ∈ own j,c≠h:=fun j hj c hc z=>hj (b.dis j i c hc (by rw [h4,z]; simp))
 refine ⟨b.len,fun j y d e=>let ⟨v,g1,g2⟩:=b.val j y d e; ⟨v,g1,g2.keep (kW y)⟩,fun j d ej=>?_,fun j ok' ej=>?_,fun j c hc=>?_,b.dis,b.nod,⟨fun c o z n=>?_,fun c xs z=>k.tup c xs (b.kp.tup c xs z)⟩,fun c z=>dn c (b.dmn c z),fun j y d ej=>by
  obtain ⟨v,g1,g2,g3⟩:=b.shl j y d ej
  have hj:j≠i:=fun z=>by rw [z,e] at ej; cases ej
  exact ⟨v,g1,g2.map (fun c hc o eo=>k.out c o eo (ne j hj c hc)) (fun _ _ r=>r.keep (kW y)),g3⟩⟩
 ·obtain ⟨v,g1,g2,g3⟩:=b.ow j d ej
  have hj:j≠i:=fun z=>by rw [z,e] at ej; cases ej
  exact ⟨v,g1,g2.keep k.tup (fun c hc o eo=>k.out c o eo (ne j hj c hc)),g3⟩
 ·by_cases hj:j=i
  ·subst hj
   rw [e] at ej
   cases ej
   exact ⟨h,ns',hσ,e',o',h4,h5⟩
  ·obtain ⟨a,ms,g1,g2,g3,g4,g5⟩:=b.hnd j ok' ej
   exact ⟨a,ms,g1,k.out a _ g2 (ne j hj a (by rw [g4]; simp)),g3,g4,g5⟩
 ·obtain ⟨g1,g2,g3⟩:=b.dm j c hc
  by_cases hch:c=h
  ·rw [hch,e']
   rw [hch] at g3
   exact ⟨fun z=>(nomatch z),fun xs z=>(by cases z),g3⟩
  ·cases q:H c with
   | none=>exact absurd q g1
   | some o=>rw [k.out c o q hch]; exact ⟨fun z=>(nomatch z),fun xs z=>g2 xs (by rw [q]; exact z),g3⟩
 ·refine k.out c o (b.kp.out c o z n) fun q=>?_
  subst q
  rcases (b.dm i c (by rw [h4]; simp)).2.2.1 with z0 | z0
  ·rw [z0] at z; cases z
  ·exact n z0
def qDraw (ih:Nat) (ok:List Int→Prop) (ro:Bool) (F:FD) (φs:PhiQS):PhiQ:=fun β R=>β[ih]?=some (some (.hand ok))∧φs β fun ds ks β1=>β1[ih]?=some (some (.hand ok))∧hold (kAll ks) false∧F ds fun d=>R d (rk ro) β1
theorem pq_draw (mF:Mono F) (G:FnOk X.prog X.w X.K X.mg X.base CX0 k f fd ps (spQH X.prog X.w ok ro F)) (hr:Room k X.A) (hm:X.mg x=some (.ref f)) (hk:PySem.W.keepIn X.K (.ref f)=true) (hb:Binds X.K fd ps []) (ha:PQA X C p es φs) (hN:X.N[ih]?=some hx:=by rfl)
  (hv:Vis X.env.scope hx:=by first | exact .inl rfl | exact .inr (.inl rfl) | exact .inr (.inr rfl)) (hd:(hx == ("__debug__" : Str))=false:=by decide) (hcd:(hx == ("__classdict__" : Str))=false:=by decide) (hg:Gl X x:=by rfl) (hdb:(x == ("__debug__" : Str))=false:=by decide)
  (hsp:starEach (.Name hx px::es) X.env=(false,eval (.Name hx px) X.env)::starEach es X.env:=by rfl) (hpl:(backTo pos (starEach es X.env)).any (·.1)=false:=by rfl) :
  PQ X C false (.Call (.Name x pp) (.Name hx px::es) [] pos) (qDraw ih ok ro F φs) :=
 ⟨fun β R R' k hq28=>by obtain ⟨e,h⟩:=hq28; exact ⟨e,ha.mono β _ _ (fun ds ks β1 hq29=>by obtain ⟨e,hh,q⟩:=hq29; exact ⟨e,hh,mF ds _ _ (fun d q=>k _ _ _ q) q⟩) h⟩,
  (pe_call G hr hg hm hk hb .nil pass0 (pa_cons (pe_var (pos:=px) hN hv hd hcd) ha.pa hsp) (hdb:=hdb) (he:=hsp) (hpl:=hpl)).pre fun σ H Q hq30=>by
  obtain ⟨β,own,s,e,h⟩:=hq30
  obtain ⟨hh,ns,h1,h2,h3,h4⟩:=s.hnd ih ok e
  refine ⟨.ref hh,h1,tQS.of ha s h fun ds ks β1 vs H1 own1 ⟨e1,ho,q⟩ o1 r1=>?_⟩
  obtain ⟨hh',ns1,g1,g2,g3,g4,g5⟩:=o1.sq.hnd ih ok e1
  rw [h1] at g1
  cases g1
  have wh:Wn own1 hh:=⟨ih,by rw [g4]; simp⟩
  rw [List.append_nil]
  refine ⟨hh,vs,ds,ns1,rfl,g2,g3,RepDs.anti (fun a z=>?_) r1.reps,mF ds _ _ (fun d q v H' ns' kp dn e' ok' r=>?_) q⟩
  ·subst z
   cases hk:kAll ks with
   | own=>exact .inl wh
   | yng=>exact .inl wh
   | old=>exact wh
   | bor=>rw [hk] at ho; exact ho.elim
  ·exact q v H' own1 ⟨o1.sq.drawn e1 h1 kp e' ok' dn,o1.sn.kp (kp.mono fun b z=>by rw [z]; exact wh) dn,fun z=>(nomatch z),o1.le⟩ (r.kv o1.sq.dmW o1.sq.dmn fun a z=>o1.sn.d a z)⟩
end
end L2.Q
end

noncomputable section
set_option Elab.async false
set_option linter.all false
set_option maxRecDepth 100000
namespace L2.Q
open PySem PySem.Spec PySem.SeqAt PyProof.Rows
abbrev Cfg.z (C:Cfg):Cfg:=C.u fun _=>False
def SB (X:Cx) (C:Cfg) (Z:Hp × (Addr→Prop)) (σ:St) (H:Hp) (β:Bet):Prop:=∃ own,SQ X C.z σ H β own∧Sn Z H (Wn own)
structure EndsB where
 nx:Bet→Prop
 rt:D→Bet→Prop
 bk:Bet→Prop:=fun _=>False
 ct:Bet→Prop:=fun _=>False
def EndsB.up (E:EndsB) (n:Bet→Prop):EndsB:=⟨n,E.rt,E.bk,E.ct⟩
def EndsB.lp (E:EndsB) (n:Bet→Prop):EndsB:=⟨n,E.rt,E.nx,n⟩
structure EOk (X:Cx) (C:Cfg) (Z:Hp × (Addr→Prop)) (E:EndsB) (D:Ends):Prop where
 nx:∀ σ H β,SB X C Z σ H β→E.nx β→D.nx σ H
 rt:∀ σ H β d v,SB X C Z σ H β→NewV X.prog X.w C.ro C.H0 H d v→E.rt d β→D.rt v H
 bk:∀ σ H β,SB X C Z σ H β→E.bk β→D.bk σ H
 ct:∀ σ H β,SB X C Z σ H β→E.ct β→D.ct σ H
structure Le (E E':EndsB):Prop where
 nx:∀ β,E.nx β→E'.nx β
 rt:∀ d β,E.rt d β→E'.rt d β
 bk:∀ β,E.bk β→E'.bk β
 ct:∀ β,E.ct β→E'.ct β
abbrev Psi:=EndsB→Bet→Prop
def tSQ (X:Cx) (C:Cfg) (ψ:Psi):TS:=fun D σ H=>∃ Z E β,SB X C Z σ H β∧ψ E β∧EOk X C Z E D
structure PB (X:Cx) (C:Cfg) (st:Stmt) (ψ:Psi):Prop where
 mono:∀ E E' β,Le E E'→ψ E β→ψ E' β
 ps:PS X st (tSQ X C ψ)
structure PBs (X:Cx) (C:Cfg) (st:List Stmt) (ψ:Psi):Prop where
 mono:∀ E E' β,Le E E'→ψ E β→ψ E' β
 ps:PSs X st (tSQ X C ψ)
section
variable {X:Cx} {C:Cfg} {st:Stmt} {rest a b:List Stmt} {ψ ψ1 ψ2:Psi} {Z:Hp × (Addr→Prop)} {σ:St} {H H':Hp} {β β':Bet} {pos pos':Pos} {e c:Expr} {φ:PhiQ} {τ:PhiQB} {p:Bool} {own own':Nat→List Addr} {i:Nat} {x:Str}
theorem Out.sb (n:Sn Z H (Wn own)) (o:Out X C.z σ H own p β' H' own'):SB X C Z σ H' β':=⟨own',o.sq,n.trans o.sn⟩
theorem pbs_nil:PBs X C [] (fun E β=>E.nx β):=⟨fun E E' β l h=>l.nx β h,pss_nil.pre fun D σ H hq1=>by obtain ⟨Z,E,β,sb,h,ok⟩:=hq1; exact ok.nx σ H β sb h⟩
theorem pbs_cons (h1:PB X C st ψ1) (h2:PBs X C rest ψ2):PBs X C (st::rest) (fun E β=>ψ1 (E.up (ψ2 E)) β) :=
 ⟨fun E E' β l h=>h1.mono { E with nx:=ψ2 E } { E' with nx:=ψ2 E' } β ⟨fun β' q=>h2.mono E E' β' l q,l.rt,l.bk,l.ct⟩ h,(pss_cons h1.ps h2.ps).pre fun D σ H ⟨Z,E,β,sb,h,ok⟩ =>
  ⟨Z,{ E with nx:=ψ2 E },β,sb,h,⟨fun σ' H' β' sb' h'=>⟨Z,E,β',sb',h',ok⟩,ok.rt,ok.bk,ok.ct⟩⟩⟩
theorem pbs_one (h1:PB X C st ψ):PBs X C [st] ψ:=⟨h1.mono,pss_one h1.ps⟩
theorem pbs_mid (h1:PB X C st ψ1) (h2:PBs X C rest ψ2):PBs X C (st::rest) (fun E β=>∃ J:Bet→Prop,ψ1 (E.up J) β∧∀ β',J β'→ψ2 E β') :=
 ⟨fun E E' β l hq3=>by obtain ⟨J,h,k⟩:=hq3; exact ⟨J,h1.mono { E with nx:=J } { E' with nx:=J } β ⟨fun _ q=>q,l.rt,l.bk,l.ct⟩ h,fun β' q=>h2.mono E E' β' l (k β' q)⟩,(pss_cons h1.ps h2.ps).pre fun D σ H ⟨Z,E,β,sb,⟨J,h,k⟩,ok⟩ =>
  ⟨Z,{ E with nx:=J },β,sb,h,⟨fun σ' H' β' sb' h'=>⟨Z,E,β',sb',k β' h',ok⟩,ok.rt,ok.bk,ok.ct⟩⟩⟩
theorem pbs_never:PBs X C a (fun _ _=>False):=⟨fun _ _ _ _ h=>h.elim,pss_never.pre fun D σ H hq8=>by obtain ⟨Z,E,β,sb,h,ok⟩:=hq8; exact h.elim⟩
theorem pb_if (hc:PQT X C.z p c τ) (ha:PBs X C a ψ1) (hb:PBs X C b ψ2):PB X C (.If c a b pos) (fun E β=>τ β fun t β'=>if t=true then ψ1 E β' else ψ2 E β') :=
 ⟨fun E E' β l h=>hc.mono _ _ _ (fun t β' q=>by
   cases t
   ·exact hb.mono E E' β' l q
   ·exact ha.mono E E' β' l q) h,(ps_if hc.pt ha.ps hb.ps).pre fun D σ H hq9=>by
  obtain ⟨Z,E,β,⟨own,s,n⟩,h,ok⟩:=hq9
  refine tQB.of hc s h fun t β' H1 own1 q o1=>?_
  cases t
  ·exact ⟨Z,E,β',o1.sb n,q,ok⟩
  ·exact ⟨Z,E,β',o1.sb n,q,ok⟩⟩
abbrev kSt (d:D) (k:Kd) (K:B→Prop):Prop:=match k with
 | .own=>K (.val true d)
 | .yng=>K (.val true d)
 | .old=>K (.val false d)
 | .bor=>d.flat=true∧K (.val true d)
theorem kSt.mono {d:D} {k:Kd} {K K':B→Prop} (h:∀ b,K b→K' b) (q:kSt d k K):kSt d k K':=by
 cases k <;> first | exact h _ q | exact ⟨q.1,h _ q.2⟩
theorem kSt.of {P:Program} {w:World} {d:D} {v:V} {k:Kd} {K:B→Prop} (r:KV P w C Z own H k d v) (q:kSt d k K):∃ y,K (.val y d)∧RepD P w (av C (Wn own) (yk y)) H d v:=by
 cases k with
 | own=>exact ⟨true,q,r.yng⟩
 | yng=>exact ⟨true,q,r⟩
 | old=>exact ⟨false,q,r⟩
 | bor=>exact ⟨true,q.2,RepD.flat q.1 r⟩
theorem sn_frz {own:Nat→List Addr} {i:Nat} (n:Sn Z H (Wn own)):Sn Z H (Wn (ownSet own i [])):=⟨fun b z=>n.w b (wn_set z),n.k,n.d⟩
theorem pb_set (he:PQ X C.z p e φ) (hN:X.N.Nodup) (hi:X.N[i]?=some x:=by rfl) (hx:Loc X.env.scope x:=by first | exact .inl rfl | exact .inr rfl)
  (hs:swapsWith e (some (.Name x pos')) pos.line X.env=pure false:=by rfl) (hf:X.fn x=true∨X.env.scope.names.lookup x=some .local:=by first | exact .inl rfl | exact .inr rfl | assumption) :
  PB X C (.Assign [.Name x pos'] e pos) (fun E β=>φ β fun d k β'=>kSt d k fun b=>E.nx (β'.set i (some b))) :=
 ⟨fun E E' β l q=>he.mono _ _ _ (fun d k β' q=>q.mono fun _=>l.nx _) q,(ps_set hN hi hx he.pe hs hf).pre fun D σ H ⟨Z,E,β,⟨own,s,n⟩,q,ok⟩=>tQ.of he s q fun d k β' v H' own' q o r=>by
  obtain ⟨y,q,r⟩:=q.of r
  exact ok.nx _ _ _ ⟨_,o.sq.setVal (RepD.anti (fun a z=>z.elim id fun z=>z.elim) r),sn_frz (n.trans o.sn)⟩ q⟩
abbrev kFl (k:Kd) (d:D):Prop:=match k with
 | .own=>True
 | _=>d.flat=true
theorem KV.fl {P:Program} {w:World} {d:D} {v:V} {k:Kd} (f:kFl k d) (r:KV P w C Z own H k d v):KV P w C Z own H .own d v:=by
 cases k with
 | own=>exact r
 | yng=>exact KV.flat f r.rep
 | old=>exact KV.flat f r.rep
 | bor=>exact KV.flat f r.rep
theorem pb_setO (he:∀ U,PQ X (C.u U) p e φ) (hN:X.N.Nodup) (hi:X.N[i]?=some x:=by rfl) (hx:Loc X.env.scope x:=by first | exact .inl rfl | exact .inr rfl)
  (hs:swapsWith e (some (.Name x pos')) pos.line X.env=pure false:=by rfl) (hf:X.fn x=true∨X.env.scope.names.lookup x=some .local:=by first | exact .inl rfl | exact .inr rfl | assumption) :
  PB X C (.Assign [.Name x pos'] e pos) (fun E β=>φ β fun d k β'=>kFl k d∧E.nx (β'.set i (some (.own d)))) :=
 ⟨fun E E' β l q=>(he fun _=>False).mono _ _ _ (fun d k β' q=>⟨q.1,l.nx _ q.2⟩) q,fun pins s σ H D I ⟨Z,E,β,⟨own,sq,n⟩,q,ok⟩ =>
  ps_set hN hi hx (he fun a=>H a=none).pe hs hf pins s σ H D I (tQ.of (he fun a=>H a=none) (sq.withU (C:=C.z) (U:=fun a=>H a=none) fun a z=>z) q fun d k β' v H' own' hq12 o r=>by
   obtain ⟨f,q⟩:=hq12
   obtain ⟨A,h1,h2,h3⟩:=r.fl f
   refine ok.nx _ _ _ ⟨_,o.sq.setOwn h1 h2 fun c hc=>⟨(h3 c hc).2.2,(h3 c hc).2.1,(h3 c hc).1⟩,?_⟩ q
   have m:=n.trans o.sn
   exact ⟨fun b hq13=>by
    obtain ⟨j,hj⟩:=hq13
    by_cases hij:i=j
    ·rw [← hij,os_eq] at hj
     exact .inr (n.free (h3 b hj).1)
    ·rw [os_ne hij] at hj
     exact m.w b ⟨j,hj⟩,m.k,m.d⟩)⟩
theorem SQ'.putU {P:Program} {w:World} {U U2:Addr→Prop} {d d':D} {v:V} {A':List Addr} {c:Addr} {o:HO} (b:SQ' P w (C.u U) σ H β own) (e:β[i]?=some (some (.own d))) (hσ:σ[i]?=some (some v)) (hc:c ∈ own i)
  (r:Own P w (upd H c o) d' v A') (nd:A'.Nodup) (hA:∀ a ∈ A',a ∈ own i∨(C.H0 a=none∧¬ Wn own a∧U a)) (hU:∀ a,U2 a→U a) (hA2:∀ a ∈ A',¬ U2 a):SQ' P w (C.u U2) σ (upd H c o) (β.set i (some (.own d'))) (ownSet own i A'):=by
 obtain ⟨g1,g2,g3,g4⟩:=b.dm i c hc
 obtain ⟨oc,hoc⟩:∃ oc,H c=some oc:=by
  cases q:H c with
  | none=>exact absurd q g1
  | some oc=>exact ⟨oc,rfl⟩
 have ht:∀ xs,oc≠.tup xs:=fun xs z=>g2 xs (by rw [hoc,z])
 have k:Kp (·=c) H (upd H c o):=kp_upd hoc ht
 have h0:∀ a ∈ own i,C.H0 a=none:=by obtain ⟨_,_,_,h⟩:=b.ow i d e; exact h
 have wc:Wn own c:=⟨i,hc⟩
 have sub:∀ y a,av' (C.u U2) (Wn (ownSet own i A')) (yk y) a→av' (C.u U) (Wn own) (yk y) a:=fun y a h=>by
  have q:∀ a,Wn (ownSet own i A') a→Wn own a∨U a:=fun a hq14=>by
   obtain ⟨j,q⟩:=hq14
   by_cases hij:i=j
   ·rw [hij,os_eq] at q
    rcases hA a q with z | z
    ·exact .inl ⟨i,z⟩
    ·exact .inr z.2.2
   ·rw [os_ne hij] at q; exact .inl ⟨j,q⟩
  rcases h with h | h
  ·cases y with
   | true=>exact h.elim (fun z=>(q a z).imp .inl id) fun z=>.inl (.inr z)
   | false=>exact q a h
  ·exact .inr (hU a h)
 have mem:∀ {j c},c ∈ ownSet own i A' j→(i=j∧c ∈ A')∨(i≠j∧c ∈ own j):=fun {j c} h=>by
  by_cases hij:i=j
  ·subst hij; rw [os_eq] at h; exact .inl ⟨rfl,h⟩
  ·rw [os_ne hij] at h; exact .inr ⟨hij,h⟩
 have nec:∀ j,i≠j→∀ a ∈ own j,a≠c:=fun j hij a ha z=>hij (b.dis i j c hc (by rw [← z]; exact ha))
 refine ⟨by simp [b.len],fun j y' d2 e2=>?_,fun j d2 e2=>?_,fun j ok e2=>?_,fun j a h=>?_,fun j k2 a h1 h2=>?_,fun j=>?_,⟨fun a oa z n=>?_,fun a xs z=>k.tup a xs (b.kp.tup a xs z)⟩,fun a z=>?_,fun j y' d2 e2=>by
  by_cases hij:i=j
  ·subst hij
   obtain ⟨e',hl⟩:=set_eq e2
   cases e'
  ·rw [set_ne hij] at e2
   rw [os_ne hij]
   obtain ⟨u,h1,h2,h3⟩:=b.shl j y' d2 e2
   exact ⟨u,h1,h2.map (fun a ha oa ea=>k.out a oa ea (nec j hij a ha)) (fun _ _ r=>RepDs.anti (sub _) (r.keep (k.mono fun a z=>by rw [z]; cases y' <;> first | exact .inl wc | exact .inl (.inl wc)))),h3⟩⟩
 ·by_cases hij:i=j
  ·subst hij
   obtain ⟨e',hl⟩:=set_eq e2
   cases e'
  ·rw [set_ne hij] at e2
   obtain ⟨u,h1,h2⟩:=b.val j y' d2 e2
   exact ⟨u,h1,(h2.keep (k.mono fun a z=>by rw [z]; cases y' <;> first | exact .inl wc | exact .inl (.inl wc))).anti (sub _)⟩
 ·by_cases hij:i=j
  ·subst hij
   obtain ⟨e',hl⟩:=set_eq e2
   cases e'
   rw [os_eq]
   exact ⟨v,hσ,r,fun a ha=>(hA a ha).elim (h0 a) fun z=>z.1⟩
  ·rw [set_ne hij] at e2
   rw [os_ne hij]
   obtain ⟨u,h1,h2,h3⟩:=b.ow j d2 e2
   exact ⟨u,h1,h2.keep k.tup (fun a ha oa ea=>k.out a oa ea (nec j hij a ha)),h3⟩
 ·by_cases hij:i=j
  ·subst hij
   obtain ⟨e',hl⟩:=set_eq e2
   cases e'
  ·rw [set_ne hij] at e2
   rw [os_ne hij]
   obtain ⟨a,ns,h1,h2,h3,h4,h5⟩:=b.hnd j ok e2
   exact ⟨a,ns,h1,k.out a _ h2 (nec j hij a (by rw [h4]; simp)),h3,h4,h5⟩
 ·rcases mem h with ⟨_,h⟩ | ⟨hij,h⟩
  ·exact ⟨(r.dom a h).1,(r.dom a h).2,.inl ((hA a h).elim (h0 a) fun z=>z.1),hA2 a h⟩
  ·obtain ⟨q1,q2,q3,q4⟩:=b.dm j a h
   rw [upd_ne (nec j hij a h)]
   exact ⟨q1,q2,q3,fun z=>q4 (hU a z)⟩
 ·rcases mem h1 with ⟨e1,h1⟩ | ⟨n1,h1⟩
  ·rcases mem h2 with ⟨e2,h2⟩ | ⟨n2,h2⟩
   ·rw [← e1,← e2]
   ·rcases hA a h1 with z | z
    ·exact absurd (b.dis i k2 a z h2) n2
    ·exact absurd ⟨k2,h2⟩ z.2.1
  ·rcases mem h2 with ⟨e2,h2⟩ | ⟨n2,h2⟩
   ·rcases hA a h2 with z | z
    ·exact absurd (b.dis i j a z h1) n1
    ·exact absurd ⟨j,h1⟩ z.2.1
   ·exact b.dis j k2 a h1 h2
 ·by_cases hij:i=j
  ·rw [← hij,os_eq]; exact nd
  ·rw [os_ne hij]; exact b.nod j
 ·refine k.out a oa (b.kp.out a oa z n) fun q=>?_
  subst q
  rw [h0 a hc] at z
  cases z
 ·by_cases hac:a=c
  ·rw [hac,upd_same]; exact fun z=>(nomatch z)
  ·rw [upd_ne hac]; exact b.dmn a z
theorem SQ'.putIn {P:Program} {w:World} {U:Addr→Prop} {d d':D} {v:V} {A':List Addr} {c:Addr} {o:HO} (b:SQ' P w (C.u U) σ H β own) (e:β[i]?=some (some (.own d))) (hσ:σ[i]?=some (some v)) (hc:c ∈ own i)
  (r:Own P w (upd H c o) d' v A') (nd:A'.Nodup) (hA:∀ a ∈ A',a ∈ own i∨(C.H0 a=none∧¬ Wn own a∧U a)):SQ' P w C.z σ (upd H c o) (β.set i (some (.own d'))) (ownSet own i A') :=
 b.putU (U2:=fun _=>False) e hσ hc r nd hA (fun _ z=>z.elim) fun _ _ z=>z
theorem sn_put {A':List Addr} {c:Addr} {o:HO} {U:Addr→Prop} (n:Sn Z H (Wn own)) (m:∀ a,U a→Z.1 a=none) (hc:Wn own c) (hoc:∃ oc,H c=some oc∧∀ xs,oc≠.tup xs) (hA:∀ a ∈ A',a ∈ own i∨(C.H0 a=none∧¬ Wn own a∧U a)):Sn Z (upd H c o) (Wn (ownSet own i A')):=by
 obtain ⟨oc,h1,h2⟩:=hoc
 have u:=Sn.upd (o':=o) n h1 h2 hc
 exact ⟨fun b hq15=>by
  obtain ⟨j,hj⟩:=hq15
  by_cases hij:i=j
  ·rw [← hij,os_eq] at hj
   rcases hA b hj with z | z
   ·exact n.w b ⟨i,z⟩
   ·exact .inr (m b z.2.2)
  ·rw [os_ne hij] at hj; exact n.w b ⟨j,hj⟩,u.k,u.d⟩
theorem SQ'.lstAt {P:Program} {w:World} {ds:List D} (b:SQ' P w C σ H β own) (e:β[i]?=some (some (.own (.lst ds)))):∃ a vs A',σ[i]?=some (some (.ref a))∧H a=some (.lst vs)∧own i=a::A'∧Owns P w H ds vs A':=by
 obtain ⟨v,h1,⟨a,vs,A',rfl,h2,h3,h4⟩,_⟩:=b.ow i _ e
 exact ⟨a,vs,A',h1,h2,h3,h4⟩
variable {px ap cp:Pos}
theorem pb_append (he:∀ U,PQ X (C.u U) p e φ) (hN:X.N[i]?=some x:=by rfl) (hv:Vis X.env.scope x:=by first | exact .inl rfl | exact .inr (.inl rfl) | exact .inr (.inr rfl)) (hd:(x == ("__debug__" : Str))=false:=by decide) (hcd:(x == ("__classdict__" : Str))=false:=by decide)
  (hbase:attributeBase (.Name x px) "append" X.env (eval (.Name x px) X.env)=eval (.Name x px) X.env:=by rfl)
  (hfew:((backTo cp (starEach [e] X.env)).all (fun x=>!x.1) && (backToKw cp (keywordEach [] X.env)).all (fun x=>x.1.isSome) && decide ([e].length+([]:List Keyword).length+(if ([]:List Keyword).isEmpty then 0 else 1) < 30))=true:=by rfl)
  (hline:(ap.endLine == cp.line)=true:=by rfl) (hs:starEach [e] X.env=(false,eval e X.env)::starEach [] X.env:=by rfl) (hplain:(backTo cp (starEach [] X.env)).any (·.1)=false:=by rfl)
  (hsw:swapsWith (.Call (.Attribute (.Name x px) "append" ap) [e] [] cp) none pos.line X.env=pure false:=by rfl) :
  PB X C (.Expr (.Call (.Attribute (.Name x px) "append" ap) [e] [] cp) pos) (fun E β=>(∃ ds,β[i]?=some (some (.own (.lst ds))))∧φ β fun d k β'=>kFl k d∧∃ ds,β'[i]?=some (some (.own (.lst ds)))∧ds.length < sizeLine∧E.nx (β'.set i (some (.own (.lst (ds++[d])))))):=by
 refine ⟨fun E E' β l hq16=>by obtain ⟨h1,q⟩:=hq16; exact ⟨h1,(he fun _=>False).mono _ _ _ (fun d k β' hq17=>by obtain ⟨f,ds,h1,h2,q⟩:=hq17; exact ⟨f,ds,h1,h2,l.nx _ q⟩) q⟩,fun pins s σ H D I ⟨Z,E,β,⟨own,sq,n⟩,⟨⟨ds0,hb⟩,q⟩,ok⟩=>?_⟩
 refine ps_expr (pos:=pos) (pe_bm (apos:=ap) (cpos:=cp) PySem.F.plainAttrs_list PySem.F.slot_list_append PySem.F.type_list_append mt_append (pe_var (pos:=px) hN hv hd hcd) (pa_cons (he fun a=>H a=none).pe pa_nil hs) hbase hfew hline hs hplain) hsw pins s σ H D I ?_
 obtain ⟨a,vs,A',h1,h2,h3,h4⟩:=sq.lstAt hb
 refine ⟨.ref a,h1,.inl ⟨rfl,vs,SqL.of h2⟩,tQ.of (he fun a=>H a=none) (sq.withU (C:=C.z) (U:=fun a=>H a=none) fun a z=>z) q fun d k β' v H1 own1 ⟨f,ds,hb',hl,q⟩ o r=>?_⟩
 obtain ⟨a',vs',A1,g1,g2,g3,g4⟩:=o.sq.lstAt hb'
 rw [h1] at g1
 cases g1
 obtain ⟨A,r1,r2,r3⟩:=r.fl f
 have ha:a ∈ own1 i:=by rw [g3]; simp
 have nd:(a::(A1++A)).Nodup:=by
  have q:=o.sq.nod i
  rw [g3] at q
  refine List.nodup_cons.mpr ⟨fun z=>?_,List.nodup_append.mpr ⟨(List.nodup_cons.mp q).2,r2,fun x hx y hy e=>?_⟩⟩
  ·rcases List.mem_append.mp z with z | z
   ·exact (List.nodup_cons.mp q).1 z
   ·exact (r3 a z).2.1 ⟨i,ha⟩
  ·subst e
   exact (r3 x hy).2.1 ⟨i,by rw [g3]; simp [hx]⟩
 have hA:∀ b ∈ a::(A1++A),b ∈ own1 i∨(C.H0 b=none∧¬ Wn own1 b∧H b=none):=fun b hb=>by
  rcases List.mem_cons.mp hb with rfl | hb
  ·exact .inl ha
  ·rcases List.mem_append.mp hb with hb | hb
   ·exact .inl (by rw [g3]; simp [hb])
   ·exact .inr ⟨(r3 b hb).2.2,(r3 b hb).2.1,(r3 b hb).1⟩
 have kt:∀ b xs,H1 b=some (.tup xs)→upd H1 a (.lst (vs'++[v])) b=some (.tup xs):=fun b xs z=>by
  rw [upd_ne (fun z'=>by rw [z',g2] at z; cases z)]; exact z
 have ne1:∀ c ∈ A1,c≠a:=fun c hc z=>by
  have q:=o.sq.nod i
  rw [g3] at q
  exact (List.nodup_cons.mp q).1 (by rw [← z]; exact hc)
 have ne2:∀ c ∈ A,c≠a:=fun c hc z=>(r3 c hc).2.1 ⟨i,by rw [z]; exact ha⟩
 have r':Own X.prog X.w (upd H1 a (.lst (vs'++[v]))) (.lst (ds++[d])) (.ref a) (a::(A1++A)) :=
  ⟨a,vs'++[v],A1++A,rfl,upd_same,rfl,(g4.keep kt fun c hc oc ec=>by rw [upd_ne (ne1 c hc)]; exact ec).append (Owns.one (r1.keep kt fun c hc oc ec=>by rw [upd_ne (ne2 c hc)]; exact ec))⟩
 exact ⟨a,vs',v,rfl,rfl,g2,by rw [g4.length]; exact hl,ok.nx _ _ _ ⟨_,o.sq.putIn hb' h1 ha r' nd hA,sn_put (n.trans o.sn) (fun b z=>n.free z) ⟨i,ha⟩ ⟨_,g2,fun xs z=>by cases z⟩ hA⟩ q⟩
end
end L2.Q
end

noncomputable section
set_option Elab.async false
set_option linter.all false
set_option maxRecDepth 100000
namespace L2.Q
open PySem PySem.Spec PySem.SeqAt PyProof.Rows
abbrev GamQ:=D→Kd→Bet→(Bet→Prop)→Prop
abbrev GamQs:=List D→Kd→Bet→(Bet→Prop)→Prop
structure PBG (X:Cx) (C:Cfg) (tg:Expr) (T:List Nat) (γ:GamQ):Prop where
 mono:∀ d k β R R',(∀ r,R r→R' r)→γ d k β R→γ d k β R'
 pg:PG X tg fun v σ H Q=>∃ own β d k,SQ X C σ H β own∧Rp X (av' C (Wn own) k) H d v∧γ d k β fun β'=>∀ σ' own',SQ X C σ' H β' own'→(∀ a,Wn own' a→Wn own a)→(∀ j,j ∉ T→σ'[j]?=σ[j]?)→Q σ' H
structure PBGs (X:Cx) (C:Cfg) (tgs:List Expr) (T:List Nat) (γ:GamQs):Prop where
 mono:∀ d k β R R',(∀ r,R r→R' r)→γ d k β R→γ d k β R'
 pgs:PGs X tgs fun vs σ H Q=>∃ own β ds k,SQ X C σ H β own∧Rps X (av' C (Wn own) k) H ds vs∧γ ds k β fun β'=>∀ σ' own',SQ X C σ' H β' own'→(∀ a,Wn own' a→Wn own a)→(∀ j,j ∉ T→σ'[j]?=σ[j]?)→Q σ' H
section
variable {X:Cx} {C:Cfg} {tg:Expr} {tgs:List Expr} {γ:GamQ} {γs:GamQs} {T T':List Nat} {pos:Pos} {e:Expr} {φ:PhiQ} {p:Bool}
def gNm (i:Nat):GamQ:=fun d k β R=>kSt d k fun b=>R (β.set i (some b))
theorem pbg_name {i:Nat} {x:Str} (hN:X.N.Nodup) (hi:X.N[i]?=some x:=by rfl) (hx:Loc X.env.scope x:=by first | exact .inl rfl | exact .inr rfl)
  (hf:X.fn x=true∨X.env.scope.names.lookup x=some .local:=by first | exact .inl rfl | exact .inr rfl | assumption):PBG X C (.Name x pos) [i] (gNm i) :=
 ⟨fun d k β R R' h q=>kSt.mono (d:=d) (k:=k) (K:=fun b=>R (β.set i (some b))) (K':=fun b=>R' (β.set i (some b))) (fun _=>h _) q,(pg_name hN hi hx hf).pre fun v σ H Q hq1=>by
  obtain ⟨own,β,d,k,s,r,q⟩:=hq1
  have sne:∀ (v:V) (j:Nat),j ∉ [i]→(σ.set i (some v))[j]?=σ[j]?:=fun v j hj=>set_ne (Ne.symm (by simpa using hj))
  cases k with
  | own=>exact q _ _ (s.setVal (y:=true) r) (fun a h=>wn_set h) (sne v)
  | yng=>exact q _ _ (s.setVal (y:=true) r) (fun a h=>wn_set h) (sne v)
  | old=>exact q _ _ (s.setVal (y:=false) r) (fun a h=>wn_set h) (sne v)
  | bor=>exact q.2 _ _ (s.setVal (y:=true) (RepD.flat q.1 r)) (fun a h=>wn_set h) (sne v)⟩
abbrev sk (k:Kd):D→Kd
 | .int _=>.own
 | .bl _=>.own
 | .non=>.own
 | .str _=>.own
 | _=>k.wk
theorem sk_rep {P:Program} {w:World} {W:Addr→Prop} {H:Hp} {k:Kd} {d:D} {v:V} (r:RepD P w (av' C W k) H d v):RepD P w (av' C W (sk k d)) H d v:=by
 cases d with
 | int i=>exact RepD.flat rfl r
 | bl i=>exact RepD.flat rfl r
 | non=>exact RepD.flat rfl r
 | str i=>exact RepD.flat rfl r
 | _=>exact RepD.anti (fun a z=>z.imp (av_wk a) id) r
def gNil:GamQs:=fun ds _ β R=>ds=[]∧R β
def gCons (γ:GamQ) (γs:GamQs):GamQs:=fun ds k β R=>∃ d r,ds=d::r∧γ d (sk k d) β fun β'=>γs r k β' R
theorem pbgs_nil:PBGs X C [] [] gNil:=⟨fun d k β R R' h q=>⟨q.1,h _ q.2⟩,pgs_nil.pre fun vs σ H Q hq2=>by
 obtain ⟨own,β,ds,k,s,r,e,q⟩:=hq2
 subst e
 exact ⟨r,q σ own s (fun _ z=>z) fun _ _=>rfl⟩⟩
theorem pbgs_cons (h1:PBG X C tg T γ) (h2:PBGs X C tgs T' γs) (hs:(assignEach (tg::tgs) X.env).map (·.2)=assign tg X.env::(assignEach tgs X.env).map (·.2):=by rfl):PBGs X C (tg::tgs) (T++T') (gCons γ γs) :=
 ⟨fun ds k β R R' h hq3=>by obtain ⟨d,r,e,q⟩:=hq3; exact ⟨d,r,e,h1.mono _ _ β _ _ (fun β' q=>h2.mono r k β' _ _ h q) q⟩,
  (pgs_cons h1.pg h2.pgs hs).pre fun vs σ H Q hq4=>by
    obtain ⟨own,β,ds,k,s,rr,d,r,e,q⟩:=hq4
    subst e
    obtain ⟨v,vr,rfl,rv,rvr⟩:=rr
    exact ⟨v,vr,rfl,own,β,d,_,s,sk_rep rv,h1.mono _ _ β _ _ (fun β' q σ' own' s' w' t'=>⟨own',β',r,k,s',RepDs.anti (avp_mono w' k) rvr,h2.mono r k β' _ _ (fun β2 q2 σ2 own2 s2 w2 t2=>q2 σ2 own2 s2 (fun a z=>w' a (w2 a z)) fun j hj=>(t2 j fun z=>hj (List.mem_append_right _ z)).trans (t' j fun z=>hj (List.mem_append_left _ z))) q⟩) q⟩⟩
def gTp (n:Nat) (γs:GamQs):GamQ:=fun d k β R=>∃ ds,d=.tup ds∧ds.length=n∧γs ds k β R
theorem pbg_tup {k:Nat} {n:Nat} (hc:X.calm=true) (h:PBGs X C tgs T γs) (hn:(assignEach tgs X.env).length=n:=by rfl) (hst:(assignEach tgs X.env).findIdx? (·.1)=none:=by rfl):PBG X C (.Tuple tgs k pos) T (gTp n γs) :=
 ⟨fun d k β R R' hh hq5=>by obtain ⟨ds,e,l,q⟩:=hq5; exact ⟨ds,e,l,h.mono ds k β _ _ hh q⟩,(pg_tup hc h.pgs hn hst).pre fun v σ H Q hq6=>by
  obtain ⟨own,β,d,k,s,r,ds,e,l,q⟩:=hq6
  subst e
  obtain ⟨a,vs,rfl,ha,rs⟩:=r
  exact ⟨a,vs,rfl,SqT.of ha,by rw [rs.length]; exact l,own,β,ds,k,s,rs,q⟩⟩
theorem sn_less {Z:Hp × (Addr→Prop)} {H:Hp} {own own':Nat→List Addr} (n:Sn Z H (Wn own)) (h:∀ a,Wn own' a→Wn own a):Sn Z H (Wn own'):=⟨fun b z=>n.w b (h b z),n.k,n.d⟩
theorem pb_asg (he:PQ X C.z p e φ) (hg:PBG X C.z tg T γ) (hs:swapsWithSole [tg] e pos.line X.env=pure false:=by rfl) (hw:swappedStores [tg] e X.env=pure none:=by rfl)
  (h1:(assignEach [tg] X.env).map (·.2)=[assign tg X.env]:=by rfl):PB X C (.Assign [tg] e pos) (fun E β=>φ β fun d k β'=>γ d k β' E.nx) :=
 ⟨fun E E' β l q=>he.mono _ _ _ (fun d k β' q=>hg.mono _ _ _ _ _ l.nx q) q,(ps_asg he.pe hg.pg hs hw h1).pre fun D σ H ⟨Z,E,β,⟨own,s,n⟩,q,ok⟩=>tQ.of he s q fun d k β' v H' own' q o r =>
  ⟨own',β',d,k,o.sq,RepD.anti (fun a z=>z.elim id fun z=>z.elim) r.rep,hg.mono _ _ _ _ _ (fun β2 q σ2 own2 s2 w2 _=>ok.nx _ _ _ ⟨own2,s2,sn_less (n.trans o.sn) w2⟩ q) q⟩⟩
theorem pb_expr (he:PQ X C.z p e φ) (hsw:swapsWith e none pos.line X.env=pure false:=by rfl):PB X C (.Expr e pos) (fun E β=>φ β fun _ _ β'=>E.nx β') :=
 ⟨fun E E' β l q=>he.mono _ _ _ (fun d k β' q=>l.nx _ q) q,(ps_expr he.pe hsw).pre fun D σ H hq8=>by obtain ⟨Z,E,β,⟨own,s,n⟩,q,ok⟩:=hq8; exact tQ.of he s q fun d k β' v H' own' q o r=>ok.nx _ _ _ (o.sb n) q⟩
abbrev kRt (ro:Bool) (k:Kd) (d:D):Prop:=match k,ro with
 | .own,_=>True
 | .yng,false=>True
 | _,_=>d.flat=true
theorem newV_flat {P:Program} {w:World} {W:Addr→Prop} {ro:Bool} {H H':Hp} {d:D} {v:V} (f:d.flat=true) (r:RepD P w W H' d v):NewV P w ro H H' d v:=by
 cases ro with
 | true=>exact ⟨[],own_flat f r,List.nodup_nil,fun c hc=>(nomatch hc)⟩
 | false=>exact RepD.flat f r
theorem newV_of {P:Program} {w:World} {Z:Hp × (Addr→Prop)} {own:Nat→List Addr} {ro:Bool} {H':Hp} {k:Kd} {d:D} {v:V} (f:kRt ro k d) (r:KV P w C Z own H' k d v):NewV P w ro C.H0 H' d v:=by
 cases k with
 | own =>
  cases ro with
  | true=>obtain ⟨A,h1,h2,h3⟩:=r; exact ⟨A,h1,h2,fun c hc=>(h3 c hc).2.2⟩
  | false=>exact RepD.anti (fun a z=>.inr z) r.rep
 | yng =>
  cases ro with
  | true=>exact newV_flat f r.rep
  | false=>exact RepD.anti (fun a z=>.inr z) r.rep
 | old=>cases ro <;> exact newV_flat f r.rep
 | bor=>cases ro <;> exact newV_flat f r.rep
theorem pb_ret (he:PQ X C.z p e φ):PB X C (.Return (some e) pos) (fun E β=>φ β fun d k β'=>kRt C.ro k d∧E.rt d β') :=
 ⟨fun E E' β l q=>he.mono _ _ _ (fun d k β' q=>⟨q.1,l.rt _ _ q.2⟩) q,(ps_ret he.pe).pre fun D σ H hq9=>by obtain ⟨Z,E,β,⟨own,s,n⟩,q,ok⟩:=hq9; exact tQ.of he s q fun d k β' v H' own' q o r=>ok.rt _ _ _ _ _ (o.sb n) (newV_of (C:=C.z) q.1 r) q.2⟩
theorem pb_retV {i:Nat} {x:Str} {px:Pos} (hN:X.N[i]?=some x:=by rfl) (hv:Vis X.env.scope x:=by first | exact .inl rfl | exact .inr (.inl rfl) | exact .inr (.inr rfl)) (hd:(x == ("__debug__" : Str))=false:=by decide) (hcd:(x == ("__classdict__" : Str))=false:=by decide) :
  PB X C (.Return (some (.Name x px)) pos) (fun E β=>∃ d,β[i]?=some (some (.own d))∧E.rt d β) :=
 ⟨fun E E' β l hq10=>by obtain ⟨d,h1,q⟩:=hq10; exact ⟨d,h1,l.rt _ _ q⟩,(ps_ret (pe_var (pos:=px) hN hv hd hcd)).pre fun D σ H hq11=>by
  obtain ⟨Z,E,β,⟨own,s,n⟩,⟨d,h1,q⟩,ok⟩:=hq11
  obtain ⟨v,e1,r,h0⟩:=s.ow i d h1
  refine ⟨_,e1,ok.rt _ _ _ _ _ ⟨own,s,n⟩ ?_ q⟩
  cases hr:C.ro with
  | true=>exact ⟨_,r,s.nod i,h0⟩
  | false=>exact r.rep fun c hc z=>z (h0 c hc)⟩
end
abbrev PhiQI:=Bet→(List D→Kd→Bet→Prop)→Prop
structure PQI (X:Cx) (C:Cfg) (p:Bool) (tg iter:Expr) (ι:PhiQI):Prop where
 mono:∀ β R R',(∀ d k β,R d k β→R' d k β)→ι β R→ι β R'
 pi:PI X tg iter fun σ H R=>∃ β own,SQ X C σ H β own∧ι β fun ds k β'=>∀ J H' own',Out X C σ H own p β' H' own'→ItD X (av C (Wn own') k) J ds H'→R J H'
section
variable {X:Cx} {C:Cfg} {tg e a b:Expr} {φ:PhiQ} {φs:PhiQS} {p:Bool} {pp pos:Pos}
def iLst (φ:PhiQ):PhiQI:=fun β R=>φ β fun d k β'=>∃ ds,d=.lst ds∧R ds k β'
theorem pqi_list (h:PQ X C p e φ):PQI X C p tg e (iLst φ) :=
 ⟨fun β R R' k q=>h.mono β _ _ (fun d kd β' hq12=>by obtain ⟨ds,e,q⟩:=hq12; exact ⟨ds,e,k _ _ _ q⟩) q,(pi_list h.pe).pre fun σ H R ⟨β,own,s,q⟩=>tQ.of h s q fun d k β' v H1 own1 hq14 o1 r1=>by
  obtain ⟨ds,e,q1⟩:=hq14
  subst e
  obtain ⟨a,vs,rfl,h1,n1,q2⟩:=r1.rep
  exact ⟨a,rfl,⟨vs,SqL.of h1⟩,q1 _ _ own1 o1 (itd_list h1 n1 q2)⟩⟩
def iRange1 (φs:PhiQS):PhiQI:=fun β R=>φs β fun ds _ β'=>∃ j:Int,ds=[.int j]∧-(2 ^ 62)≤j∧j < 2 ^ 62∧R (rngD 0 j.toNat) .yng β'
def iRange2 (φs:PhiQS):PhiQI:=fun β R=>φs β fun ds _ β'=>∃ i j:Int,ds=[.int i,.int j]∧(-(2 ^ 62)≤i∧i < 2 ^ 62∧-(2 ^ 62)≤j∧j < 2 ^ 62)∧R (rngD i (j - i).toNat) .yng β'
theorem pqi_range1 (hm:X.mg "range" = none) (ha:PQA X C p [a] φs) (hg:Gl X "range" := by rfl) (hs:starEach [a] X.env=[(false,eval a X.env)]:=by rfl):PQI X C p tg (.Call (.Name "range" pp) [a] [] pos) (iRange1 φs) :=
 ⟨fun β R R' k q=>ha.mono β _ _ (fun d kd β' hq18=>by obtain ⟨j,e,h1,h2,q⟩:=hq18; exact ⟨j,e,h1,h2,k _ _ _ q⟩) q,(pi_range1 hg hm ha.pa hs).pre fun σ H R ⟨β,own,s,q⟩=>tQS.of ha s q fun ds ks β' vs H1 own1 hq20 o1 r1=>by
  obtain ⟨j,e,h1,h2,q1⟩:=hq20
  subst e
  obtain ⟨x,rfl,hx⟩:=args1 r1.reps
  cases hx
  exact ⟨j,rfl,h1,h2,q1 _ _ own1 o1 itd_range⟩⟩
theorem pqi_range2 (hm:X.mg "range" = none) (ha:PQA X C p [a,b] φs) (hg:Gl X "range" := by rfl) (hs:starEach [a,b] X.env=[(false,eval a X.env),(false,eval b X.env)]:=by rfl) (hs2:starEach [b] X.env=[(false,eval b X.env)]:=by rfl) :
  PQI X C p tg (.Call (.Name "range" pp) [a,b] [] pos) (iRange2 φs) :=
 ⟨fun β R R' k q=>ha.mono β _ _ (fun d kd β' hq21=>by obtain ⟨i,j,e,h1,q⟩:=hq21; exact ⟨i,j,e,h1,k _ _ _ q⟩) q,(pi_range2 hg hm ha.pa hs hs2).pre fun σ H R ⟨β,own,s,q⟩=>tQS.of ha s q fun ds ks β' vs H1 own1 hq23 o1 r1=>by
  obtain ⟨i,j,e,h1,q1⟩:=hq23
  subst e
  obtain ⟨x,y,rfl,hx,hy⟩:=args2 r1.reps
  cases hx; cases hy
  exact ⟨i,j,rfl,h1,q1 _ _ own1 o1 itd_range⟩⟩
end
def forI (γ:GamQ) (ψ:Psi) (E:EndsB) (ds:List D) (k:Kd) (β:Bet):Prop:=∃ I:Nat→Bet→Prop,I 0 β∧(∀ i d β,ds[i]?=some d→I i β→γ d (sk k d) β fun β1=>ψ (E.lp (I (i+1))) β1)∧∀ β,I ds.length β→E.nx β
section
variable {X:Cx} {C:Cfg} {tg iter c:Expr} {γ:GamQ} {T:List Nat} {ψ:Psi} {ι:PhiQI} {τ:PhiQB} {body:List Stmt} {pos:Pos} {p:Bool}
theorem forI.mono {E E':EndsB} {ds:List D} {k:Kd} {β:Bet} (hγ:∀ d k β R R',(∀ r,R r→R' r)→γ d k β R→γ d k β R') (hψ:∀ E E' β,Le E E'→ψ E β→ψ E' β) (l:Le E E'):forI γ ψ E ds k β→forI γ ψ E' ds k β:=fun ⟨I,h0,h1,h2⟩ =>
 ⟨I,h0,fun i d β e q=>hγ d _ β _ _ (fun β1 q=>hψ { nx:=I (i+1),rt:=E.rt,bk:=E.nx,ct:=I (i+1) } { nx:=I (i+1),rt:=E'.rt,bk:=E'.nx,ct:=I (i+1) } β1 ⟨fun _ q=>q,l.rt,l.nx,fun _ q=>q⟩ q) (h1 i d β e q),fun β q=>l.nx _ (h2 β q)⟩
theorem av_grow {own own2:Nat→List Addr} {H H2:Hp} {k:Kd} (n:Sn (H,Wn own) H2 (Wn own2)):∀ b,av C (Wn own2) k b→av C (Wn own) k b∨H b=none:=fun b z=>by
 cases k with
 | own=>exact z.elim (fun z=>(n.w b z).imp .inl id) fun z=>.inl (.inr z)
 | yng=>exact z.elim (fun z=>(n.w b z).imp .inl id) fun z=>.inl (.inr z)
 | old=>exact n.w b z
 | bor=>exact z.elim
theorem pb_for (hp:PassesOwn (model X.prog X.w) X.A X.env X.xe) (hc:X.calm=true) (hi:PQI X C.z p tg iter ι) (hg:PBG X C.z tg T γ) (hb:PBs X C body ψ) (hs:∀ x,foldedSetIterable iter X.env x=pure x:=by intro _; rfl) :
  PB X C (.For tg iter body [] pos) (fun E β=>ι β fun ds k β1=>hold k false∧forI γ ψ E ds k β1) :=
 ⟨fun E E' β l q=>hi.mono _ _ _ (fun ds k β1 q=>⟨q.1,q.2.mono hg.mono hb.mono l⟩) q,(ps_for hp hc hi.pi hg.pg hb.ps hs).pre fun D σ H hq25=>by
  obtain ⟨Z,E,β,⟨own,s,n⟩,q,ok⟩:=hq25
  refine ⟨β,own,s,hi.mono _ _ _ (fun ds k β1 ⟨hk,I,i0,i1,i2⟩ J H1 own1 o1 it=>?_) q⟩
  have n':=n.trans o1.sn
  have ig:∀ b,Wn own1 b∨H1 b=none→av C.z (Wn own1) k b∨H1 b=none:=fun b z=>by
   cases k with
   | own=>exact z.imp .inl id
   | yng=>exact z.imp .inl id
   | old=>exact z
   | bor=>exact hk.elim
  have itw:=it (fun b=>av C.z (Wn own1) k b∨H1 b=none) fun b z=>z
  refine ⟨fun i m σ H=>i≤ds.length∧m=ds.length - i∧∃ β,SB X C (H1,Wn own1) σ H β∧I i β,⟨_,Nat.zero_le _,rfl,β1,⟨own1,o1.sq,Sn.refl⟩,i0⟩,?_⟩
  rintro i m σ2 H2 ⟨hi,rfl,β2,⟨own2,s2,n2⟩,hl⟩
  obtain ⟨it1,it2⟩:=itw i H2 (n2.k.mono ig)
  by_cases hlt:i < ds.length
  ·right
   have hd:ds[i]?=some ds[i]:=List.getElem?_eq_getElem hlt
   obtain ⟨go,yl⟩:=it1 _ hd
   refine ⟨go,fun σ' H'=>∃ β,SB X C (H1,Wn own1) σ' H' β∧I (i+1) β,fun σ' H' hq27=>by obtain ⟨β',sb',hl'⟩:=hq27; exact ⟨_,by omega,hlt,rfl,β',sb',hl'⟩,fun x H3 y=>?_⟩
   obtain ⟨s3,r3⟩:=yl x H3 y
   refine ⟨own2,β2,_,_,s2.same s3,sk_rep (C:=C.z) (RepD.anti (fun b z=>av_grow (C:=C) n2 b (z.elim id fun z=>z.elim)) r3),hg.mono _ _ _ _ _ (fun β4 q σ4 own4 s4 w4 _=>?_) (i1 i _ β2 hd hl)⟩
   refine ⟨(H1,Wn own1),_,β4,⟨own4,s4,sn_less (n2.same s3) w4⟩,q,⟨fun σ5 H5 β5 sb5 q5=>⟨β5,sb5,q5⟩,fun σ5 H5 β5 d5 v5 sb5 r5 q5=>?_,fun σ5 H5 β5 sb5 q5=>?_,fun σ5 H5 β5 sb5 q5=>⟨β5,sb5,q5⟩⟩⟩
   ·obtain ⟨own5,s5,n5⟩:=sb5
    exact ok.rt _ _ _ _ _ ⟨own5,s5,n'.trans n5⟩ r5 q5
   ·obtain ⟨own5,s5,n5⟩:=sb5
    exact ok.nx _ _ _ ⟨own5,s5,n'.trans n5⟩ q5
  ·left
   have e:i=ds.length:=by omega
   subst e
   exact ⟨it2 (Nat.le_refl _),ok.nx _ _ _ ⟨own2,s2,n'.trans n2⟩ (i2 β2 hl)⟩⟩
def whileB (τ:PhiQB) (ψ:Psi):Psi:=fun E β=>∃ V:Nat→Bet→Prop,(∃ m,V m β)∧∀ m β,V m β→τ β fun t β1=>if t=true then ψ { nx:=fun β'=>∃ m',m' < m∧V m' β',rt:=E.rt,bk:=E.nx,ct:=fun β'=>∃ m',m' < m∧V m' β' } β1 else E.nx β1
theorem pb_while (hp:PassesOwn (model X.prog X.w) X.A X.env X.xe) (hc:PQT X C.z p c τ) (hb:PBs X C body ψ):PB X C (.While c body [] pos) (whileB τ ψ) :=
 ⟨fun E E' β l ⟨V,h0,h⟩=>⟨V,h0,fun m β v=>hc.mono _ _ _ (fun t β1 q=>by
   cases t
   ·exact l.nx _ q
   ·exact hb.mono { nx:=fun β'=>∃ m',m' < m∧V m' β',rt:=E.rt,bk:=E.nx,ct:=fun β'=>∃ m',m' < m∧V m' β' } { nx:=fun β'=>∃ m',m' < m∧V m' β',rt:=E'.rt,bk:=E'.nx,ct:=fun β'=>∃ m',m' < m∧V m' β' } β1 ⟨fun _ q=>q,l.rt,l.nx,fun _ q=>q⟩ q) (h m β v)⟩,(ps_while hp hc.pt hb.ps).pre fun D σ H hq29=>by
  obtain ⟨Z,E,β,sb,⟨V,⟨m0,v0⟩,h⟩,ok⟩:=hq29
  refine ⟨fun m σ H=>∃ β,SB X C Z σ H β∧V m β,⟨m0,β,sb,v0⟩,fun m σ H ⟨β,⟨own,s,n⟩,v⟩=>?_⟩
  refine tQB.of hc s (h m β v) fun t β1 H1 own1 q o1=>?_
  cases t
  ·exact ok.nx _ _ _ (o1.sb n) q
  ·exact ⟨fun σ' H'=>∃ β',SB X C Z σ' H' β'∧∃ m',m' < m∧V m' β',fun σ' H' hq31=>by obtain ⟨β',sb',m',hm,v'⟩:=hq31; exact ⟨m',hm,β',sb',v'⟩,Z,_,β1,o1.sb n,q,fun σ' H' β' sb' q'=>⟨β',sb',q'⟩,ok.rt,ok.nx,fun σ' H' β' sb' q'=>⟨β',sb',q'⟩⟩⟩
end
def startB (N:List Str) (ds:List D):Bet:=ds.map (fun d=>some (.val false d))++List.replicate (N.length - ds.length) none
def startH (N:List Str) (ok:List Int→Prop) (ds:List D):Bet:=some (.hand ok)::(ds.map (fun d=>some (.val false d))++List.replicate (N.length - (ds.length+1)) none)
section
variable {P:Program} {w:World} {K:PySem.W.Frag} {mg:Str→Option Value} {base:Heap}
theorem rep_none {i n:Nat} {b:B} (h:(List.replicate n (none:Option B))[i]?=some (some b)):False:=by
 rw [List.getElem?_replicate] at h
 split at h <;> cases h
theorem start_get {ds:List D} {n i:Nat} {b:B} (h:(ds.map (fun d=>some (B.val false d))++List.replicate n none)[i]?=some (some b)):∃ d,ds[i]?=some d∧b=.val false d:=by
 by_cases hi:i < ds.length
 ·rw [List.getElem?_append_left (by simpa using hi),List.getElem?_map] at h
  cases q:ds[i]? with
  | none=>rw [q] at h; cases h
  | some d=>rw [q] at h; cases h; exact ⟨d,rfl,rfl⟩
 ·rw [List.getElem?_append_right (by simpa using hi)] at h
  exact (rep_none h).elim
theorem start_val {N:List Str} {vs:List V} {i:Nat} {v:V} (h:vs[i]?=some v):(start N vs)[i]?=some (some v):=by
 unfold start
 rw [List.getElem?_append_left (by simpa using (List.getElem?_eq_some_iff.mp h).1),List.getElem?_map,h]
 rfl
theorem sq_start {N:List Str} {vs:List V} {ds:List D} {H:Hp} {ro:Bool} (r:RepDs P w (fun _=>False) H ds vs):SQ' P w ⟨H,fun _=>False,ro,fun _=>False⟩ (start N vs) H (startB N ds) (fun _=>[]):=by
 refine ⟨?_,fun i y d h=>?_,fun i d h=>?_,fun i ok h=>?_,fun i a h=>(nomatch h),fun i j a h=>(nomatch h),fun i=>List.nodup_nil,Kp.refl,fun _ z=>z,fun i y d h=>by obtain ⟨d',e,e'⟩:=start_get h; cases e'⟩
 ·unfold startB start
  simp [r.length]
 ·obtain ⟨d',e,e'⟩:=start_get h
  cases e'
  obtain ⟨v,e1,e2⟩:=RepDs.get r e
  exact ⟨v,start_val e1,RepD.anti (fun a z=>z.elim (fun hq32=>by obtain ⟨_,q⟩:=hq32; exact (nomatch q)) fun z=>z) e2⟩
 ·obtain ⟨d',e,e'⟩:=start_get h; cases e'
 ·obtain ⟨d',e,e'⟩:=start_get h; cases e'
theorem okQ {x qual:Str} {st:Stmt} {f:Addr} {fd:FuncData} {N ps:List Str} {k:Nat} {F:FD} {ro:Bool} (G:Fun K x qual st f fd) (S:FnScope N ps (defScope st)) (len:∀ ds R,F ds R→ds.length=ps.length)
  (hbody:∀ (cdv:Value) (A:Around) (outer:List Env) (s:Shared) (H:Hp) (E:XK),Room k (A.deeper (envOfC qual (defScope st) s.heap.objs.size f cdv)) →
   ∃ ψ,PBs (cxOf CX0 P w K mg base N qual (defScope st) f cdv A outer s H E).nox ⟨H,fun _=>False,ro,fun _=>False⟩ (defBody st) ψ∧∀ ds R,F ds R→ψ { nx:=fun _=>R .non,rt:=fun d _=>R d } (startB N ds)) :
  FnOk P w K mg base CX0 (k+1) f fd ps (spQ P w ro F):=by
 refine G.ok S (fun vs H Q E h=>?_) (fun cdv A outer s H vs Q E hr h=>?_)
 ·obtain ⟨ds,r,h⟩:=h
  rw [r.length]
  exact len ds _ h
 ·obtain ⟨ds,r,h⟩:=h
  obtain ⟨ψ,hb,hF⟩:=hbody cdv A outer s H E hr
  refine ⟨_,hb.ps,(H,Wn fun _=>[]),_,startB N ds,⟨fun _=>[],sq_start r,Sn.refl⟩,hF ds _ h,fun σ H' β sb q=>?_,fun σ H' β d v sb rr q=>?_,fun _ _ _ _ z=>z.elim,fun _ _ _ _ z=>z.elim⟩
  ·obtain ⟨own,s',n'⟩:=sb
   exact q _ H' (fun b o e=>s'.kp.out b o e (fun z=>z)) (newV_flat (W:=fun _=>False) rfl rfl)
  ·obtain ⟨own,s',n'⟩:=sb
   exact q _ H' (fun b o e=>s'.kp.out b o e (fun z=>z)) rr
theorem sq_startH {N:List Str} {ok:List Int→Prop} {h:Addr} {ns:List Int} {vs:List V} {ds:List D} {H:Hp} {ro:Bool} (hh:H h=some (.lst (ns.map V.int))) (ho:ok ns) (r:RepDs P w (fun a=>a=h) H ds vs) :
  SQ' P w ⟨H,(·=h),ro,fun _=>False⟩ (start N (.ref h::vs)) H (startH N ok ds) (fun i=>if i=0 then [h] else []):=by
 have own0:∀ {i:Nat} {a:Addr},a ∈ (if i=0 then [h] else ([]:List Addr))→i=0∧a=h:=fun {i a} q=>by
  by_cases e:i=0
  ·rw [if_pos e] at q; exact ⟨e,by simpa using q⟩
  ·rw [if_neg e] at q; cases q
 have getv:∀ {i:Nat} {b:B},(startH N ok ds)[i]?=some (some b)→(i=0∧b=.hand ok)∨∃ j d,i=j+1∧ds[j]?=some d∧b=.val false d:=fun {i b} q=>by
  unfold startH at q
  cases i with
  | zero=>simp at q; exact .inl ⟨rfl,q.symm⟩
  | succ i =>
   rw [List.getElem?_cons_succ] at q
   obtain ⟨d,e,e'⟩:=start_get q
   exact .inr ⟨i,d,rfl,e,e'⟩
 refine ⟨?_,fun i y d q=>?_,fun i d q=>?_,fun i ok' q=>?_,fun i a q=>?_,fun i j a h1 h2=>?_,fun i=>?_,Kp.refl,fun _ z=>z,fun i y d q=>(getv q).elim (fun ⟨_,e⟩=>by cases e) (fun ⟨j,d',_,_,e'⟩=>by cases e')⟩
 ·unfold startH start
  simp [r.length]
 ·rcases getv q with ⟨_,e⟩ | ⟨j,d',rfl,e,e'⟩
  ·cases e
  ·cases e'
   obtain ⟨v,e1,e2⟩:=RepDs.get r e
   exact ⟨v,start_val (by simpa using e1),RepD.anti (fun a z=>z.elim (fun hq33=>by obtain ⟨j,q⟩:=hq33; exact (own0 q).2) fun z=>z.elim) e2⟩
 ·rcases getv q with ⟨_,e⟩ | ⟨j,d',_,_,e'⟩
  ·cases e
  ·cases e'
 ·rcases getv q with ⟨e0,e⟩ | ⟨j,d',_,_,e'⟩
  ·cases e
   subst e0
   exact ⟨h,ns,start_val rfl,hh,ho,rfl,.inr rfl⟩
  ·cases e'
 ·obtain ⟨_,rfl⟩:=own0 q
  exact ⟨by rw [hh]; exact fun z=>(nomatch z),fun xs z=>(by rw [hh] at z; cases z),.inr rfl,fun z=>z⟩
 ·rw [(own0 h1).1,(own0 h2).1]
 ·by_cases e:i=0
  ·simp [e]
  ·simp [e]
theorem okQH {x qual:Str} {st:Stmt} {f:Addr} {fd:FuncData} {N ps:List Str} {k:Nat} {F:FD} {ok:List Int→Prop} {ro:Bool} (G:Fun K x qual st f fd) (S:FnScope N ps (defScope st)) (len:∀ ds R,F ds R→ds.length+1=ps.length)
  (hbody:∀ (cdv:Value) (A:Around) (outer:List Env) (s:Shared) (H:Hp) (E:XK) (IO:Addr→Prop),Room k (A.deeper (envOfC qual (defScope st) s.heap.objs.size f cdv)) →
   ∃ ψ,PBs (cxOf CX0 P w K mg base N qual (defScope st) f cdv A outer s H E).nox ⟨H,IO,ro,fun _=>False⟩ (defBody st) ψ∧∀ ds R,F ds R→ψ { nx:=fun _=>False,rt:=fun d β=>β[0]?=some (some (.hand ok))∧R d } (startH N ok ds)) :
  FnOk P w K mg base CX0 (k+1) f fd ps (spQH P w ok ro F):=by
 refine G.ok S (fun vs H Q E h=>?_) (fun cdv A outer s H vs Q E hr h=>?_)
 ·obtain ⟨h,vs',ds,ns,rfl,hh,ho,r,q⟩:=h
  rw [List.length_cons,r.length]
  exact len ds _ q
 ·obtain ⟨h,vs',ds,ns,rfl,hh,ho,r,q⟩:=h
  obtain ⟨ψ,hb,hF⟩:=hbody cdv A outer s H E (·=h) hr
  refine ⟨_,hb.ps,(H,_),_,startH N ok ds,⟨_,sq_startH hh ho r,Sn.refl⟩,hF ds _ q,fun σ H' β sb z=>z.elim,fun σ H' β d v sb rr ⟨b0,q⟩=>?_,fun _ _ _ _ z=>z.elim,fun _ _ _ _ z=>z.elim⟩
  obtain ⟨own,s',n'⟩:=sb
  obtain ⟨a,ns',g1,g2,g3,g4,g5⟩:=s'.hnd 0 ok b0
  have ea:a=h:=g5.elim (fun z=>(z h rfl).elim) fun z=>z
  subst ea
  exact q v H' ns' s'.kp s'.dmn g2 g3 rr
end
end L2.Q
end


noncomputable section
set_option Elab.async false
set_option linter.all false
set_option maxRecDepth 100000
namespace L2
open PySem PySem.Spec PySem.SeqAt PyProof.Rows
theorem PTs.pre {X:Cx} {ifs:List Expr} {t t':TT} (h:PTs X ifs t) (k:∀ σ H Q,t' σ H Q→t σ H Q):PTs X ifs t':=fun pins s σ H Q I q=>h pins s σ H Q I (k σ H Q q)
section
variable {P:Program} {w:World} {H0:Hp} {IO W0:Addr→Prop} {σ:St} {H H':Hp} {β:Bet} {W W':Addr→Prop} {own:Nat→List Addr}
end
section
variable {X:Cx} {C:Cfg} {a elt:Expr} {x:Str} {scope:Scope} {N':List Str} {lk:List (Option Nat)} {ih ih' kx:Nat} {νs:PhiNS} {ν:PhiN} {p pos px tp:Pos}
end
end L2
end

noncomputable section
set_option Elab.async false
set_option linter.all false
set_option maxRecDepth 100000
namespace L2
open PySem PySem.Spec PyProof.Rows
section
variable {X:Cx} {e:Expr} {g:Comprehension} {gs:List Comprehension} {scope:Scope} {N':List Str} {lk:List (Option Nat)} {tg:Addr→TG} {tt:Addr→TT} {wi:TI}
theorem comp_block2 {newAcc:Sem Value} {o:HO} {after:Value→Env→Sem Fin→Sem Fin} {ta:Addr→TAft} (L:Links X scope N' lk) (hc:X.calm=true) (hA:NewAcc X newAcc o)
  (F:∀ acc env,CForm e 0 g acc env (after acc env))
  (hin:∀ a cl C s H ex,PG (compCx X scope N' cl C s H ex) g.target (tg a)∧PTs (compCx X scope N' cl C s H ex) g.ifs (tt a)∧PAft (compCx X scope N' cl C s H ex) (after (.ref a) (compCx X scope N' cl C s H ex).env) (ta a))
  {cl:List (Str × Addr)} (hc1:∀ x,(x,NameKind.free) ∈ scope.names→∃ c,cl.lookup x=some c) (hc2:∀ x c,cl.lookup x=some c→X.env.cells.lookup x=some c)
  {pins:List (Addr × Obj)} {σ:St} {s:Shared} {Q:V→Hp→Prop} {itv:Value} {E:Value→Shared→Prop} {RR:Value→Addr→Result→Shared→Prop}
  (h:PIE X pins σ g.target (fun J H1=>∀ a,H1 a=none→tLoop J (tg a) (tt a) (ta a) (fun _ H'=>Q (.ref a) H') (inSt lk σ) (upd H1 a o)) itv s)
  (hR:∀ a H' C s',Inv X pins σ H' s'→FpOk X pins H' C→(∃ m,s'.heap.Ns C m)→Q (.ref a) H'→RR (.ref a) C (.ok .next) s') :
  wpAny (model X.prog X.w) X.A newAcc (fun acc s₃=>wpAny (model X.prog X.w) X.A (newFunctionEnv scope X.env.globals cl [] X.env.qual none .none (some X.env)) (fun cenv s₄ =>
   codeAny (model X.prog X.w) X.A (.compStart e 0 itv acc { cenv with scope:=relabel scope X.env }) (RR acc cenv.locals) s₄) E s₃) E s:=by
 obtain ⟨it,fp,tn,J,H2,e1,I2,T,st2,f2,hl⟩:=h
 subst e1
 refine hA.ok pins s σ H2 _ E I2 fun a s3 ha hn hk I3=>?_
 refine wpAny_newFunctionEnv L.nocell (by intro y hy; simp at hy) (fun h₁ hns₁ hsb₁=>?_) L.kind
 have hob:∀ b ∈ fp,∃ o,s3.heap.get? b=some o:=fun b hb=>by
  obtain ⟨ob,q,_⟩:=T.obj _ _ st2 b hb
  exact ⟨ob,hk b ob q⟩
 have hba:∀ b ∈ fp,b≠a:=fun b hb=>by
  obtain ⟨ob,q,_⟩:=T.obj _ _ st2 b hb
  exact Nat.ne_of_lt (Nat.lt_of_lt_of_le (Heap.lt_size q) ha)
 have f3:∀ b ∈ fp,FpOk X pins (upd H2 a o) b:=fun b hb=>⟨by rw [upd_ne (hba b hb)]; exact (f2 b hb).1,(f2 b hb).2⟩
 have hk1:∀ b ob,s3.heap.get? b=some ob→h₁.get? b=some ob:=fun b ob q=>hsb₁.extBut b ob (Nat.ne_of_lt (Heap.lt_size q)) (Heap.get?_push_of_some _ q)
 have hns:h₁.Ns s3.heap.objs.size (fun _=>none):=hns₁
 have I4:=inv_comp (t':=s3.toks+([]:List (Str × Value)).length) I3 L f3 hob hc1 hc2 hns hk1
 obtain ⟨g1,g2,g3⟩:=hin a cl s3.heap.objs.size s3 (upd H2 a o) fp
 have f4:∀ b ∈ fp,FpOk (compCx X scope N' cl s3.heap.objs.size s3 (upd H2 a o) fp) [] (upd H2 a o) b:=fun b hb =>
  ⟨(f3 b hb).1,(I4.ok.exf b hb).1,I4.ok.exfs b hb,.inl hb,(I4.ok.exf b hb).2,fun p hp=>absurd (show p ∈ ([]:List (Addr × Obj)) from hp) (by simp)⟩
 have st4:tn 0 h₁:=T.keep 0 _ _ st2 fun b hb ob q=>hk1 b ob (hk b ob q)
 refine codeAny_mono (comp_start (X:=compCx X scope N' cl s3.heap.objs.size s3 (upd H2 a o) fp) rfl hc (F (.ref a) _) g1 g2 g3 T I4 st4 f4 (hl a hn)) fun r s' hr=>?_
 obtain ⟨rfl,σ',H',J',q⟩:=hr
 have I5:Inv X pins σ H' s':=inv_back (C:=s3.heap.objs.size) (h'':=s'.heap) I3 f3 J' (.refl ..)
 refine hR a H' s3.heap.objs.size s' I5 (I3.fpOk (Nat.le_refl _) J'.free) ?_ q
 obtain ⟨m,hm,_⟩:=J'.loc
 exact ⟨m,hm⟩
theorem pe_comp2 {newAcc:Sem Value} {o:HO} {after:Value→Env→Sem Fin→Sem Fin} {ta:Addr→TAft} {pos:Pos} (L:Links X scope N' lk) (hc:X.calm=true) (hA:NewAcc X newAcc o)
  (hev:eval e X.env=comprehension e scope X.env pos newAcc false (eval g.iter X.env)) (hcl:clausesOf e=g::gs)
  (F:∀ acc env,CForm e 0 g acc env (after acc env)) (hi:PI X g.target g.iter wi)
  (hin:∀ a cl C s H ex,PG (compCx X scope N' cl C s H ex) g.target (tg a)∧PTs (compCx X scope N' cl C s H ex) g.ifs (tt a)∧PAft (compCx X scope N' cl C s H ex) (after (.ref a) (compCx X scope N' cl C s H ex).env) (ta a))
  (hs:∀ x,foldedSetIterable g.iter X.env x=pure x) :
  PE X e (fun σ H Q=>wi σ H fun J H1=>∀ a,H1 a=none→tLoop J (tg a) (tt a) (ta a) (fun _ H'=>Q (.ref a) H') (inSt lk σ) (upd H1 a o)):=by
 intro pins s σ H Q I h
 rw [hev]
 obtain ⟨cl,hclos,hc1,hc2⟩:=closureFor_of (env:=X.env) (scope:=scope) fun x hx=>I.ok.has x (L.free x hx)
 refine wpAny_comprehension_free (use:=none) hcl hs hclos L.kind L.names (thn (hi pins s σ H _ I h) fun v s1 h1=>thn h1 fun itv s2 h2=>?_)
 refine comp_block2 (RR:=fun acc C=>compPost (model X.prog X.w) X.A X.xe none (EP X pins σ Q) acc C) L hc hA F hin hc1 hc2 h2 fun a H' C s' I' f ⟨m,hm⟩ q=>?_
 exact ⟨m,hm,fun h' hsb=>⟨.ref a,H',I'.sameBut f hsb,rfl,q⟩⟩
theorem ps_comp2 {newAcc:Sem Value} {o:HO} {after:Value→Env→Sem Fin→Sem Fin} {ta:Addr→TAft} {pos pos' spos:Pos} {y:Str} {i:Nat} (L:Links X scope N' lk) (hc:X.calm=true) (hA:NewAcc X newAcc o)
  (hsw:swapsWith e (some (.Name y pos')) spos.line X.env=pure true)
  (hev:evalThenUse e X.env (assign (.Name y pos') X.env)=(do let _ ← comprehension e scope X.env pos newAcc false (eval g.iter X.env) (some (assign (.Name y pos') X.env)); pure ())) (hcl:clausesOf e=g::gs)
  (hN:X.N.Nodup) (hy:X.N[i]?=some y) (hx:Loc X.env.scope y) (hf:X.fn y=true∨X.env.scope.names.lookup y=some .local)
  (F:∀ acc env,CForm e 0 g acc env (after acc env)) (hi:PI X g.target g.iter wi)
  (hin:∀ a cl C s H ex,PG (compCx X scope N' cl C s H ex) g.target (tg a)∧PTs (compCx X scope N' cl C s H ex) g.ifs (tt a)∧PAft (compCx X scope N' cl C s H ex) (after (.ref a) (compCx X scope N' cl C s H ex).env) (ta a))
  (hs:∀ x,foldedSetIterable g.iter X.env x=pure x) :
  PS X (.Assign [.Name y pos'] e spos) (fun D σ H=>wi σ H fun J H1=>∀ a,H1 a=none→tLoop J (tg a) (tt a) (ta a) (fun _ H'=>D.nx (σ.set i (some (.ref a))) H') (inSt lk σ) (upd H1 a o)):=by
 intro pins s σ H D I h
 rw [exec_Assign_Name_used _ _ _ _ hsw,hev]
 refine wpAny_bind (wpAny_standAt (wpAny_bind (wpAny_bind ?_)))
 obtain ⟨cl,hclos,hc1,hc2⟩:=closureFor_of (env:=X.env) (scope:=scope) fun x hx=>I.ok.has x (L.free x hx)
 refine thn (wpAny_comprehension_free (use:=some (assign (.Name y pos') X.env)) (Q:=fun _ s'=>SP X pins D .next s') hcl hs hclos L.kind L.names (thn (hi pins s σ H _ I h) fun v s1 h1=>thn h1 fun itv s2 h2=>?_)) fun _ s' q=>wpAny_pure (wpAny_pure q)
 refine comp_block2 (Q:=fun v H'=>D.nx (σ.set i (some v)) H') (RR:=fun acc C=>compPost (model X.prog X.w) X.A X.xe (some (assign (.Name y pos') X.env)) (fun _ s'=>SP X pins D .next s') acc C) L hc hA F hin hc1 hc2 h2 fun a H' C s' I' f ⟨m,hm⟩ q=>?_
 show wpAny _ _ (assign (.Name y pos') X.env (.ref a)) _ _ s'
 have hCL:∃ o,s'.heap.get? C=some o:=by obtain ⟨o,_,_,ho,_⟩:=hm; exact ⟨o,ho⟩
 refine wpAny_assign_Name (store_ok2 I' hN hy hx (v:=.ref a) (u:=.ref a) rfl (fun s4 I4 k4=>?_) hf)
 obtain ⟨a4,sb4,ha4⟩:=k4
 have hne:C≠a4:=by
  rcases ha4 with z | z
  ·rw [z]; exact f.2.1
  ·exact (f.2.2.2.2.1 y a4 z).symm
 exact ⟨m,hm.at' (fun o e=>(sb4.2 C hne).trans e),fun h' hsb=>⟨_,H',I4.sameBut f hsb,q⟩⟩
end
end L2
end

noncomputable section
set_option Elab.async false
set_option linter.all false
set_option maxRecDepth 100000
namespace L2.Q
open PySem PySem.Spec PySem.SeqAt PyProof.Rows
def inB:Option B→Option B
 | some (.own d)=>some (.val false d)
 | some (.shl _ _)=>none
 | b=>b
def inBet (lk:List (Option Nat)) (β:Bet):Bet:=lk.map fun l=>match l with | some j=>(match β[j]? with | some b=>inB b | none=>none) | none=>none
def isH:Option (Option B)→Bool
 | some (some (.hand _))=>true
 | _=>false
def inOwn (lk:List (Option Nat)) (β:Bet) (own:Nat→List Addr) (i:Nat):List Addr:=match lk[i]? with
 | some (some j)=>if isH β[j]?=true then own j else []
 | _=>[]
def hndOk:Bet→Bet→Prop
 | [],_=>True
 | some (.hand ok)::a,c=>c.head?=some (some (.hand ok))∧hndOk a c.tail
 | _::a,c=>hndOk a c.tail
theorem hndOk.get:∀ {a c:Bet} {i:Nat} {ok:List Int→Prop},hndOk a c→a[i]?=some (some (.hand ok))→c[i]?=some (some (.hand ok))
 | [],_,_,_,_,e=>by simp at e
 | x::a,c,0,ok,h,e=>by
  simp at e
  subst e
  rw [← List.head?_eq_getElem?]
  exact h.1
 | x::a,c,i+1,ok,h,e=>by
  have h':hndOk a c.tail:=by
   cases x with
   | none=>exact h
   | some x=>cases x <;> first | exact h | exact h.2
  have:=hndOk.get (i:=i) h' (by simpa using e)
  rwa [List.getElem?_tail] at this
section
variable {P:Program} {w:World} {C:Cfg} {σ σ':St} {H H' H1:Hp} {β βi:Bet} {own owni:Nat→List Addr} {lk:List (Option Nat)} {a:Addr}
theorem inOwn_sub {i:Nat} {c:Addr} (h:c ∈ inOwn lk β own i):∃ j,lk[i]?=some (some j)∧isH β[j]?=true∧c ∈ own j:=by
 unfold inOwn at h
 split at h
 ·next j e =>
  by_cases q:isH β[j]?=true
  ·rw [if_pos q] at h; exact ⟨j,e,q,h⟩
  ·rw [if_neg q] at h; cases h
 ·cases h
theorem inOwn_le:∀ c,Wn (inOwn lk β own) c→Wn own c:=fun c ⟨i,h⟩=>let ⟨j,_,_,h⟩:=inOwn_sub h; ⟨j,h⟩
theorem inSt_get {i j:Nat} {v:V} (h:lk[i]?=some (some j)) (e:σ[j]?=some (some v)):(inSt lk σ)[i]?=some (some v):=by
 unfold inSt
 rw [List.getElem?_map,h]
 simp only [Option.map_some]
 rw [e]
theorem inBet_get {i:Nat} {b:B} (h:(inBet lk β)[i]?=some (some b)):∃ j b',lk[i]?=some (some j)∧β[j]?=some (some b')∧inB (some b')=some b:=by
 unfold inBet at h
 rw [List.getElem?_map] at h
 cases q:lk[i]? with
 | none=>rw [q] at h; cases h
 | some l =>
  rw [q] at h
  cases l with
  | none=>cases h
  | some j =>
   simp only [Option.map_some] at h
   cases q2:β[j]? with
   | none=>rw [q2] at h; cases h
   | some b2 =>
    rw [q2] at h
    simp only [Option.some.injEq] at h
    cases b2 with
    | none=>cases h
    | some b'=>exact ⟨j,b',rfl,q2,h⟩
theorem SQ'.enter (s:SQ' P w C σ H β own) (ha:H a=none) (inj:∀ (i i' j:Nat),lk[i]?=some (some j)→lk[i']?=some (some j)→i=i') :
  SQ' P w (C.u fun c=>c=a) (inSt lk σ) (upd H a (.lst [])) (inBet lk β) (inOwn lk β own):=by
 have sm:Same H (upd H a (.lst [])):=Same.new ha
 have na:∀ {i c},c ∈ own i→c≠a:=fun {i c} hc z=>(s.dm i c hc).1 (by rw [z]; exact ha)
 have gr:∀ k,∀ c,av' (C.u fun c=>c=a) (Wn (inOwn lk β own)) k c→av' C (Wn own) k c∨H c=none:=fun k c z=>by
  rcases z with z | z
  ·exact .inl (.inl (av_mono inOwn_le k c z))
  ·exact .inr (by rw [z]; exact ha)
 refine ⟨by unfold inBet inSt; simp,fun i y d e=>?_,fun i d e=>?_,fun i ok e=>?_,fun i c h=>?_,fun i i' c h1 h2=>?_,fun i=>?_,s.kp.trans sm.kp,fun c z e=>s.dmn c z (sm.free e),fun i y d e=>by
  obtain ⟨j,b',e1,e2,e3⟩:=inBet_get e
  cases b' <;> cases e3⟩
 ·obtain ⟨j,b',e1,e2,e3⟩:=inBet_get e
  cases b' with
  | val y' d' =>
   cases e3
   obtain ⟨v,h1,h2⟩:=s.val j y d e2
   exact ⟨v,inSt_get e1 h1,(RepD.grow (gr _) h2).same sm⟩
  | own d' =>
   cases e3
   obtain ⟨v,h1,h2,h3⟩:=s.ow j d e2
   refine ⟨v,inSt_get e1 h1,RepD.same sm (h2.rep fun c hc z=>?_)⟩
   rcases z with z | z
   ·obtain ⟨i',hi'⟩:=z
    obtain ⟨j',q1,q2,q3⟩:=inOwn_sub hi'
    have:=s.dis j j' c hc q3
    subst this
    rw [e2] at q2
    cases q2
   ·exact na hc z
  | hand ok=>cases e3
  | shl y d=>cases e3
 ·obtain ⟨j,b',e1,e2,e3⟩:=inBet_get e
  cases b' <;> cases e3
 ·obtain ⟨j,b',e1,e2,e3⟩:=inBet_get e
  cases b' with
  | val y' d'=>cases e3
  | own d'=>cases e3
  | shl y d=>cases e3
  | hand ok' =>
   cases e3
   obtain ⟨h,ns,h1,h2,h3,h4,h5⟩:=s.hnd j ok e2
   refine ⟨h,ns,inSt_get e1 h1,sm _ _ h2,h3,?_,h5⟩
   unfold inOwn
   rw [e1]
   simp only
   rw [e2]
   exact (if_pos rfl).trans h4
 ·obtain ⟨j,q1,q2,q3⟩:=inOwn_sub h
  obtain ⟨g1,g2,g3,g4⟩:=s.dm j c q3
  rw [upd_ne (na q3)]
  exact ⟨g1,g2,g3,na q3⟩
 ·obtain ⟨j,q1,q2,q3⟩:=inOwn_sub h1
  obtain ⟨j',q1',q2',q3'⟩:=inOwn_sub h2
  have:=s.dis j j' c q3 q3'
  subst this
  exact inj _ _ _ q1 q1'
 ·unfold inOwn
  split
  ·next j e =>
   split
   ·exact s.nod j
   ·exact List.nodup_nil
  ·exact List.nodup_nil
theorem SQ'.setU {o:HO} (s:SQ' P w (C.u fun c=>c=a) σ H β own) {oa:HO} (ha:H a=some oa) (ht:∀ xs,oa≠.tup xs) (h0:C.H0 a=none):SQ' P w (C.u fun c=>c=a) σ (upd H a o) β own:=by
 have k:Kp (·=a) H (upd H a o):=kp_upd ha ht
 have na:∀ {i c},c ∈ own i→c≠a:=fun {i c} hc=>(s.dm i c hc).2.2.2
 refine ⟨s.len,fun i y d e=>let ⟨v,h1,h2⟩:=s.val i y d e; ⟨v,h1,h2.keep (k.mono fun c z=>.inr z)⟩,fun i d e=>let ⟨v,h1,h2,h3⟩:=s.ow i d e; ⟨v,h1,h2.keep k.tup (fun c hc oc ec=>k.out c oc ec (na hc)),h3⟩,
  fun i ok e=>?_,fun i c h=>?_,s.dis,s.nod,⟨fun c oc z n=>k.out c oc (s.kp.out c oc z n) fun q=>?_,fun c xs z=>k.tup c xs (s.kp.tup c xs z)⟩,fun c z=>?_,fun i y d e=>let ⟨v,h1,h2,h3⟩:=s.shl i y d e; ⟨v,h1,h2.map (fun c hc oc ec=>k.out c oc ec (na hc)) (fun _ _ r=>r.keep (k.mono fun c z=>.inr z)),h3⟩⟩
 ·obtain ⟨h,ns,h1,h2,h3,h4,h5⟩:=s.hnd i ok e
  exact ⟨h,ns,h1,k.out h _ h2 (na (by rw [h4]; simp)),h3,h4,h5⟩
 ·rw [upd_ne (na h)]
  exact s.dm i c h
 ·rw [q,h0] at z; cases z
 ·by_cases q:c=a
  ·rw [q,upd_same]; exact fun z=>(nomatch z)
  ·rw [upd_ne q]; exact s.dmn c z
theorem SQ'.leave (s:SQ' P w C σ H1 β own) (i:SQ' P w (C.u fun c=>c=a) σ' H' βi owni) (n:Sn (H1,Wn (inOwn lk β own)) H' (Wn owni)) (le:∀ c,Wn owni c→Wn (inOwn lk β own) c)
  (hh:hndOk (inBet lk β) βi) (hσ:∀ (j:Nat) (ok:List Int→Prop) (i:Nat),β[j]?=some (some (B.hand ok))→lk[i]?=some (some j)→σ'[i]?=(inSt lk σ)[i]?):SQ' P w C σ H' β own:=by
 have off:∀ {j c},c ∈ own j→¬ Wn (inOwn lk β own) c→∀ o,H1 c=some o→H' c=some o:=fun {j c} hc nw o e=>n.k.out c o e fun z=>z.elim nw fun z=>(s.dm j c hc).1 z
 have hsep:∀ {j c},c ∈ own j→isH β[j]?=false→¬ Wn (inOwn lk β own) c:=fun {j c} hc q hq2=>by
  obtain ⟨i',hi'⟩:=hq2
  obtain ⟨j',q1,q2,q3⟩:=inOwn_sub hi'
  have:=s.dis j j' c hc q3
  subst this
  rw [q] at q2
  cases q2
 have hN:∀ (j:Nat) (ok:List Int→Prop),β[j]?=some (some (B.hand ok))→∃ a ns,σ[j]?=some (some (V.ref a))∧H' a=some (.lst (ns.map V.int))∧ok ns∧own j=[a]∧((∀ b,¬ C.IO b)∨C.IO a):=fun j ok e=>by
  obtain ⟨h,ns,h1,h2,h3,h4,h5⟩:=s.hnd j ok e
  by_cases q:Wn (inOwn lk β own) h
  ·obtain ⟨i',hi'⟩:=q
   obtain ⟨j',q1,q2,q3⟩:=inOwn_sub hi'
   have:=s.dis j j' h (by rw [h4]; simp) q3
   subst this
   have eB:(inBet lk β)[i']?=some (some (.hand ok)):=by
    unfold inBet
    rw [List.getElem?_map,q1]
    simp only [Option.map_some]
    rw [e]
    rfl
   obtain ⟨h',ns',g1,g2,g3,g4,g5⟩:=i.hnd i' ok (hh.get eB)
   rw [hσ j ok i' e q1,inSt_get q1 h1] at g1
   cases g1
   exact ⟨h,ns',h1,g2,g3,h4,h5⟩
  ·exact ⟨h,ns,h1,off (by rw [h4]; simp) q _ h2,h3,h4,h5⟩
 refine ⟨s.len,fun j y d e=>?_,fun j d e=>?_,hN,fun j c hc=>?_,s.dis,s.nod,i.kp,i.dmn,fun j y d e=>by
  obtain ⟨v,h1,h2,h3⟩:=s.shl j y d e
  refine ⟨v,h1,h2.map (fun c hc o eo=>off hc (hsep hc (by rw [e]; rfl)) o eo) (fun ds vs r=>?_),h3⟩
  have g:RepDs P w (fun c=>av' C (Wn own) (yk y) c∨H1 c=none) H1 ds vs:=RepDs.grow (fun c z=>z) r
  refine RepDs.anti (fun c z=>.inl z) (g.keep (n.k.mono fun c z=>z.imp (fun z=>?_) id))
  cases y with
  | true=>exact .inl (.inl (inOwn_le c z))
  | false=>exact .inl (inOwn_le c z)⟩
 ·obtain ⟨v,h1,h2⟩:=s.val j y d e
  have g:RepD P w (fun c=>av' C (Wn own) (yk y) c∨H1 c=none) H1 d v:=RepD.grow (fun c z=>z) h2
  refine ⟨v,h1,RepD.anti (fun c z=>.inl z) (g.keep (n.k.mono fun c z=>z.imp (fun z=>?_) id))⟩
  cases y with
  | true=>exact .inl (.inl (inOwn_le c z))
  | false=>exact .inl (inOwn_le c z)
 ·obtain ⟨v,h1,h2,h3⟩:=s.ow j d e
  exact ⟨v,h1,h2.keep n.k.tup (fun c hc o eo=>off hc (hsep hc (by rw [e]; rfl)) o eo),h3⟩
 ·obtain ⟨g1,g2,g3,g4⟩:=s.dm j c hc
  by_cases q:Wn (inOwn lk β own) c
  ·obtain ⟨i',hi'⟩:=q
   obtain ⟨j',q1,q2,q3⟩:=inOwn_sub hi'
   have:=s.dis j j' c hc q3
   subst this
   cases e:β[j]? with
   | none=>rw [e] at q2; cases q2
   | some b =>
    rw [e] at q2
    cases b with
    | none=>cases q2
    | some b =>
     cases b with
     | val y d=>cases q2
     | own d=>cases q2
     | shl y d=>cases q2
     | hand ok =>
      obtain ⟨h,ns,k1,k2,k3,k4,k5⟩:=hN j ok e
      rw [k4] at hc
      rw [List.mem_singleton.mp hc] at g3 g4 ⊢
      rw [k2]
      exact ⟨fun z=>(nomatch z),fun xs z=>(by cases z),g3,g4⟩
  ·cases e:H1 c with
   | none=>exact absurd e g1
   | some o=>rw [off hc q o e]; exact ⟨fun z=>(nomatch z),fun xs z=>g2 xs (by rw [e]; exact z),g3,g4⟩
end
def tauT:PhiQB:=fun β R=>R true β
theorem pqts_nil {X:Cx} {C:Cfg}:PTs X [] (tQB X C true tauT):=pts_nil.pre fun σ H Q ⟨β,own,s,q⟩=>q H own (Out.refl s _)
theorem pqts_one {X:Cx} {C:Cfg} {p:Bool} {c:Expr} {τ:PhiQB} (h:PQT X C p c τ):PTs X [c] (tQB X C p τ):=pts_one h.pt
def loopQ (γ:GamQ) (τ:PhiQB) (φ:PhiQ) (ds:List D) (k:Kd) (β0:Bet) (K:List D→Prop):Prop:=∃ I:Nat→Bet→List D→Prop,I 0 β0 [] ∧
 (∀ i d β o,ds[i]?=some d→I i β o→γ d (sk k d) β fun β1=>τ β1 fun t β2=>if t=true then φ β2 fun x kx β3=>kFl kx x∧o.length < sizeLine∧I (i+1) β3 (o++[x]) else I (i+1) β2 o)∧∀ β o,I ds.length β o→hndOk β0 β∧K o
theorem loopQ.mono {γ:GamQ} {τ:PhiQB} {φ:PhiQ} {ds:List D} {k:Kd} {β0:Bet} {K K':List D→Prop} (h:∀ o,K o→K' o) (q:loopQ γ τ φ ds k β0 K):loopQ γ τ φ ds k β0 K':=let ⟨I,h0,h1,h2⟩:=q; ⟨I,h0,h1,fun β o z=>⟨(h2 β o z).1,h _ (h2 β o z).2⟩⟩
section
variable {X:Cx} {C:Cfg} {lk:List (Option Nat)} {γ:GamQ} {τ:PhiQB} {φ:PhiQ} {T:List Nat} {pc pe:Bool}
theorem comp_core {σ:St} {H1:Hp} {β:Bet} {own:Nat→List Addr} {a:Addr} {J:It} {ds:List D} {k:Kd} {K:List D→Prop} {End:Hp→Prop}
  (γm:∀ d k β R R',(∀ r,R r→R' r)→γ d k β R→γ d k β R') (τm:∀ β R R',(∀ d β,R d β→R' d β)→τ β R→τ β R') (φm:∀ β R R',(∀ d k β,R d k β→R' d k β)→φ β R→φ β R')
  (inj:∀ (i i' j:Nat),lk[i]?=some (some j)→lk[i']?=some (some j)→i=i') (hT:∀ i ∈ T,∀ j,lk[i]?≠some (some j))
  (s1:SQ X C σ H1 β own) (ha:H1 a=none) {hp:Bool} (hpp:hp=true→(pc && pe)=true) (hk:hold k hp) (it:ItD X (av C (Wn own) k) J ds H1) (q:loopQ γ τ φ ds k (inBet lk β) K)
  (fin:∀ o H',K o→Out X C σ H1 own (pc && pe) β H' own→KV X.prog X.w C (H1,Wn own) own H' .own (.lst o) (.ref a)→End H') :
  tLoop J (fun v σ H Q=>∃ own β d k,SQ X (C.u fun c=>c=a) σ H β own∧Rp X (av' (C.u fun c=>c=a) (Wn own) k) H d v∧γ d k β fun β'=>∀ σ' own',SQ X (C.u fun c=>c=a) σ' H β' own'→(∀ a,Wn own' a→Wn own a)→(∀ j,j ∉ T→σ'[j]?=σ[j]?)→Q σ' H)
   (tQB X (C.u fun c=>c=a) pc τ) (fun N σ H=>tQ X (C.u fun c=>c=a) pe φ σ H fun v H1=>∃ xs,H1 a=some (.lst xs)∧xs.length < sizeLine∧N σ (upd H1 a (.lst (xs++[v]))))
   (fun _ H'=>End H') (inSt lk σ) (upd H1 a (.lst [])):=by
 obtain ⟨I,i0,i1,i2⟩:=q
 have h0:C.H0 a=none:=Decidable.by_contra fun z=>s1.dmn a z ha
 have sm:Same H1 (upd H1 a (.lst [])):=Same.new ha
 have nWa:∀ c,Wn (inOwn lk β own) c→c≠a:=fun c z e=>by
  obtain ⟨j,hj⟩:=inOwn_le c z
  exact (s1.dm j c hj).1 (by rw [e]; exact ha)
 let S:Nat→St→Hp→Prop:=fun i σ' H'=>∃ βi owni vs o A,SQ X (C.u fun c=>c=a) σ' H' βi owni∧Sn (H1,Wn (inOwn lk β own)) H' (Wn owni)∧(∀ c,Wn owni c→Wn (inOwn lk β own) c)∧H' a=some (.lst vs)∧Owns X.prog X.w H' o vs A∧A.Nodup∧(∀ c ∈ A,H1 c=none∧c≠a) ∧
  ((pc && pe)=true→Same H1 H')∧(∀ j,j ∉ T→σ'[j]?=(inSt lk σ)[j]?)∧I i βi o
 have W':Addr→Prop:=fun b=>av C (Wn own) k b∨H1 b=none
 have itw:=it (fun b=>av C (Wn own) k b∨H1 b=none) fun b z=>z
 have kI:∀ {H':Hp} {owni:Nat→List Addr},Sn (H1,Wn (inOwn lk β own)) H' (Wn owni)→((pc && pe)=true→Same H1 H')→Kp (fun b=>av C (Wn own) k b∨H1 b=none) H1 H':=fun n pu=>by
  cases k with
  | own=>exact n.k.mono fun b z=>z.imp (fun z=>.inl (inOwn_le b z)) id
  | yng=>exact n.k.mono fun b z=>z.imp (fun z=>.inl (inOwn_le b z)) id
  | old=>exact n.k.mono fun b z=>z.imp (inOwn_le b) id
  | bor =>
   cases hp with
   | false=>exact hk.elim
   | true=>exact (pu (hpp rfl)).kp.mono fun b z=>.inr z
 refine ⟨fun i m σ' H'=>i≤ds.length∧m=ds.length - i∧S i σ' H',⟨_,Nat.zero_le _,rfl,inBet lk β,inOwn lk β own,[],[],[],s1.enter ha inj,⟨fun b z=>.inl z,sm.kp,fun b z e=>z (sm.free e)⟩,fun _ z=>z,upd_same,⟨rfl,rfl⟩,List.nodup_nil,fun c hc=>(nomatch hc),fun _=>sm,fun _ _=>rfl,i0⟩,?_⟩
 rintro i m σ2 H2 ⟨hi,rfl,βi,owni,vs,o,A,sq,sn,le,hav,os,nd,nw,pu,st,hl⟩
 obtain ⟨it1,it2⟩:=itw i H2 (kI sn pu)
 by_cases hlt:i < ds.length
 ·right
  have hd:ds[i]?=some ds[i]:=List.getElem?_eq_getElem hlt
  obtain ⟨go,yl⟩:=it1 _ hd
  refine ⟨go,fun σ' H'=>S (i+1) σ' H',fun σ' H' h=>⟨_,by omega,hlt,rfl,h⟩,fun x H3 y=>?_⟩
  obtain ⟨s3,r3⟩:=yl x H3 y
  have avs:∀ {owni:Nat→List Addr},(∀ c,Wn owni c→Wn (inOwn lk β own) c)→∀ c,av' (C.u fun c=>c=a) (Wn owni) k c→av C (Wn own) k c∨H1 c=none:=fun le c z=>z.elim (fun z=>.inl (av_mono (fun c z=>inOwn_le c (le c z)) k c z)) fun z=>.inr (by rw [z]; exact ha)
  refine ⟨owni,βi,_,_,sq.same s3,sk_rep (RepD.anti (avs le) r3),γm _ _ _ _ _ (fun β4 q σ4 own4 s4 w4 t4=>?_) (i1 i _ βi o hd hl)⟩
  have le4:∀ c,Wn own4 c→Wn (inOwn lk β own) c:=fun c z=>le c (w4 c z)
  refine ⟨β4,own4,s4,τm _ _ _ (fun t β5 q H5 own5 o5=>?_) q⟩
  have na5:∀ c,Wn own5 c→Wn (inOwn lk β own) c:=fun c z=>le4 c (o5.le c z)
  have keep5:∀ c,c ∈ a::A→∀ oc,H2 c=some oc→H5 c=some oc:=fun c hc oc e=>by
   refine o5.sn.k.out c oc (s3 c oc e) fun z=>?_
   rcases z with z | z
   ·rcases List.mem_cons.mp hc with rfl | hc
    ·exact nWa _ (le4 _ z) rfl
    ·obtain ⟨j,hj⟩:=inOwn_le c (le4 c z)
     exact (s1.dm j c hj).1 (nw c hc).1
   ·exact absurd ((s3 c oc e).symm.trans z) (fun z=>(nomatch z))
  have kt5:∀ b xs,H2 b=some (.tup xs)→H5 b=some (.tup xs):=fun b xs e=>o5.sn.k.tup b xs (s3 b _ e)
  have os5:Owns X.prog X.w H5 o vs A:=os.keep kt5 fun c hc oc e=>keep5 c (by simp [hc]) oc e
  have sn5:Sn (H1,Wn (inOwn lk β own)) H5 (Wn own5):=(sn_less (sn.same s3) w4).trans o5.sn
  have pu5:(pc && pe)=true→Same H1 H5:=fun z=>((pu z).trans s3).trans (o5.pu (andL z)).1
  have st4:∀ j,j ∉ T→σ4[j]?=(inSt lk σ)[j]?:=fun j hj=>(t4 j hj).trans (st j hj)
  cases t with
  | false=>exact ⟨β5,own5,vs,o,A,o5.sq,sn5,na5,keep5 a (by simp) _ hav,os5,nd,nw,pu5,st4,q⟩
  | true =>
   refine ⟨β5,own5,o5.sq,φm _ _ _ (fun xd kx β6 ⟨f,hz,q⟩ v H6 own6 o6 r6=>?_) q⟩
   obtain ⟨B',r1,r2,r3'⟩:=r6.fl f
   have hav5:H5 a=some (.lst vs):=keep5 a (by simp) _ hav
   have keep6:∀ c,c ∈ a::A→∀ oc,H5 c=some oc→H6 c=some oc:=fun c hc oc e=>by
    refine o6.sn.k.out c oc e fun z=>?_
    rcases z with z | z
    ·rcases List.mem_cons.mp hc with rfl | hc
     ·exact nWa _ (na5 _ z) rfl
     ·obtain ⟨j,hj⟩:=inOwn_le c (na5 c z)
      exact (s1.dm j c hj).1 (nw c hc).1
    ·exact absurd (e.symm.trans z) (fun z=>(nomatch z))
   have hav6:H6 a=some (.lst vs):=keep6 a (by simp) _ hav5
   have os6:Owns X.prog X.w H6 o vs A:=os5.keep o6.sn.k.tup fun c hc oc e=>keep6 c (by simp [hc]) oc e
   have neA:∀ c ∈ A,c≠a:=fun c hc=>(nw c hc).2
   have neB:∀ c ∈ B',c≠a:=fun c hc z=>by rw [z] at hc; exact absurd (hav5.symm.trans (r3' a hc).1) (fun z=>(nomatch z))
   have kt:∀ b xs,H6 b=some (.tup xs)→upd H6 a (.lst (vs++[v])) b=some (.tup xs):=fun b xs z=>by rw [upd_ne (fun z'=>by rw [z',hav6] at z; cases z)]; exact z
   refine ⟨vs,hav6,by rw [os6.length]; exact hz,β6,own6,vs++[v],o++[xd],A++B',o6.sq.setU hav6 (fun xs z=>by cases z) h0,?_,fun c z=>na5 c (o6.le c z),upd_same,?_,?_,fun c hc=>?_,fun z=>?_,st4,q⟩
   ·have m:=sn5.trans o6.sn
    refine ⟨m.w,m.k.trans ((kp_upd hav6 (fun xs z=>by cases z)).mono fun b z=>.inr (by rw [z]; exact ha)),fun b z e=>?_⟩
    by_cases hb:b=a
    ·rw [hb,upd_same] at e; cases e
    ·rw [upd_ne hb] at e; exact m.d b z e
   ·exact (os6.keep kt fun c hc oc e=>by rw [upd_ne (neA c hc)]; exact e).append (Owns.one (r1.keep kt fun c hc oc e=>by rw [upd_ne (neB c hc)]; exact e))
   ·refine List.nodup_append.mpr ⟨nd,r2,fun x hx y hy e=>?_⟩
    subst e
    have:=(r3' x hy).1
    exact (os5.dom x hx).1 this
   ·rcases List.mem_append.mp hc with hc | hc
    ·exact nw c hc
    ·exact ⟨sn5.free (r3' c hc).1,neB c hc⟩
   ·refine fun b ob e=>?_
    rw [upd_ne (fun z'=>by rw [z',ha] at e; cases e)]
    exact (o6.pu (andR z)).1 b ob (pu5 z b ob e)
 ·left
  have e:i=ds.length:=by omega
  subst e
  obtain ⟨hh,q⟩:=i2 βi o hl
  have lv:SQ X C σ H2 β own:=s1.leave sq sn le hh fun j ok i' e1 e2=>st i' fun z=>hT i' z j e2
  refine ⟨it2 (Nat.le_refl _),fin o H2 q ⟨lv,⟨fun b z=>.inl z,sn.k.mono fun b z=>z.imp (inOwn_le b) id,sn.d⟩,fun z=>⟨pu z,rfl⟩,fun _ z=>z⟩ ⟨a::A,⟨a,vs,A,rfl,hav,rfl,os⟩,List.nodup_cons.mpr ⟨fun z=>(nw a z).2 rfl,nd⟩,fun c hc=>?_⟩⟩
  have hc1:H1 c=none:=by
   rcases List.mem_cons.mp hc with rfl | hc
   ·exact ha
   ·exact (nw c hc).1
  exact ⟨hc1,fun hq5=>by obtain ⟨j,hj⟩:=hq5; exact (s1.dm j c hj).1 hc1,Decidable.by_contra fun z=>s1.dmn c z hc1⟩
theorem links_inj {scope:Scope} {N':List Str} (L:Links X scope N' lk) (hN:N'.Nodup):∀ (i i' j:Nat),lk[i]?=some (some j)→lk[i']?=some (some j)→i=i':=fun i i' j h1 h2=>by
 obtain ⟨x,a1,a2,_⟩:=L.link i j h1
 obtain ⟨y,b1,b2,_⟩:=L.link i' j h2
 rw [a2] at b2
 cases b2
 exact (List.getElem?_inj (List.getElem?_eq_some_iff.mp a1).1 hN).mp (a1.trans b1.symm)
def qComp (lk:List (Option Nat)) (ι:PhiQI) (γ:GamQ) (τ:PhiQB) (φ:PhiQ):PhiQ:=fun β R=>ι β fun ds k β1=>hold k false∧loopQ γ τ φ ds k (inBet lk β1) fun o=>R (.lst o) .own β1
variable {scope:Scope} {N':List Str} {tg it1 elt:Expr} {ifs:List Expr} {ι:PhiQI} {pi:Bool} {pos pos' spos:Pos} {y:Str} {i:Nat}
theorem pq_lc (L:Links X scope N' lk) (hN':N'.Nodup) (hT:T.all (fun i=>match lk[i]? with | some (some _)=>false | _=>true)=true) (hc:X.calm=true) (hi:PQI X C pi tg it1 ι)
  (htg:∀ a cl c s H ex,PBG (compCx X scope N' cl c s H ex) (C.u fun c=>c=a) tg T γ) (hts:∀ a cl c s H ex,PTs (compCx X scope N' cl c s H ex) ifs (tQB (compCx X scope N' cl c s H ex) (C.u fun c=>c=a) pc τ)) (τm:∀ β R R',(∀ d β,R d β→R' d β)→τ β R→τ β R')
  (hel:∀ a cl c s H ex,PQ (compCx X scope N' cl c s H ex) (C.u fun c=>c=a) pe elt φ) (γm:∀ d k β R R',(∀ r,R r→R' r)→γ d k β R→γ d k β R') (φm:∀ β R R',(∀ d k β,R d k β→R' d k β)→φ β R→φ β R')
  (hs:∀ x,foldedSetIterable it1 X.env x=pure x:=by intro _; rfl):PQ X C (pi && (pc && pe)) (.ListComp elt [⟨tg,it1,ifs,0⟩] scope pos) (qComp lk ι γ τ φ):=by
 have hT':∀ i ∈ T,∀ j,lk[i]?≠some (some j):=fun i hi j e=>by
  have:=List.all_eq_true.mp hT i hi
  rw [e] at this
  cases this
 refine ⟨fun β R R' k h=>hi.mono β _ _ (fun ds kd β1 q=>⟨q.1,q.2.mono fun o z=>k _ _ _ z⟩) h,?_⟩
 refine (pe_comp2 (g:=⟨tg,it1,ifs,0⟩) (gs:=[]) (tg:=fun a v σ H Q=>∃ own β d k,SQ X (C.u fun c=>c=a) σ H β own∧Rp X (av' (C.u fun c=>c=a) (Wn own) k) H d v∧γ d k β fun β'=>∀ σ' own',SQ X (C.u fun c=>c=a) σ' H β' own'→(∀ a,Wn own' a→Wn own a)→(∀ j,j ∉ T→σ'[j]?=σ[j]?)→Q σ' H)
  (tt:=fun a=>tQB X (C.u fun c=>c=a) pc τ) (ta:=fun a N σ H=>tQ X (C.u fun c=>c=a) pe φ σ H fun v H1=>∃ xs,H1 a=some (.lst xs)∧xs.length < sizeLine∧N σ (upd H1 a (.lst (xs++[v]))))
  L hc new_list rfl rfl (fun _ _=>cf_l1) hi.pi (fun a cl c s H ex=>⟨(htg a cl c s H ex).pg,hts a cl c s H ex,pa_emitL rfl (hel a cl c s H ex).pe⟩) hs).pre fun σ H Q ⟨β,own,s,h⟩=>?_
 refine ⟨β,own,s,hi.mono β _ _ (fun ds k β1 ⟨hk,q⟩ J H1 own1 o1 it a ha=>?_) h⟩
 exact comp_core γm τm φm (links_inj L hN') hT' o1.sq ha (hp:=false) (fun z=>by cases z) hk it q fun o H' q o2 r=>q _ _ own1 (o1.trans o2) (r.later o1.sn)
theorem ps_lc {K:D→Bet→EndsB→Prop} (L:Links X scope N' lk) (hN':N'.Nodup) (hT:T.all (fun i=>match lk[i]? with | some (some _)=>false | _=>true)=true) (hc:X.calm=true) (hi:∀ U,PQI X (C.u U) pi tg it1 ι)
  (htg:∀ U cl c s H ex,PBG (compCx X scope N' cl c s H ex) (C.u U) tg T γ) (hts:∀ U cl c s H ex,PTs (compCx X scope N' cl c s H ex) ifs (tQB (compCx X scope N' cl c s H ex) (C.u U) pc τ)) (τm:∀ β R R',(∀ d β,R d β→R' d β)→τ β R→τ β R')
  (hel:∀ U cl c s H ex,PQ (compCx X scope N' cl c s H ex) (C.u U) pe elt φ) (γm:∀ d k β R R',(∀ r,R r→R' r)→γ d k β R→γ d k β R') (φm:∀ β R R',(∀ d k β,R d k β→R' d k β)→φ β R→φ β R') (o:Bool)
  (hN:X.N.Nodup) (hy:X.N[i]?=some y:=by rfl) (hx:Loc X.env.scope y:=by first | exact .inl rfl | exact .inr rfl) (hf:X.fn y=true∨X.env.scope.names.lookup y=some .local:=by first | exact .inl rfl | exact .inr rfl | assumption)
  (hsw:swapsWith (.ListComp elt [⟨tg,it1,ifs,0⟩] scope pos) (some (.Name y pos')) spos.line X.env=pure true:=by rfl)
  (hev:evalThenUse (.ListComp elt [⟨tg,it1,ifs,0⟩] scope pos) X.env (assign (.Name y pos') X.env)=(do let _ ← comprehension (.ListComp elt [⟨tg,it1,ifs,0⟩] scope pos) scope X.env (firstIterPos [⟨tg,it1,ifs,0⟩] pos) (newList []) false (eval it1 X.env) (some (assign (.Name y pos') X.env)); pure ()):=by first | rfl | exact arm_evalThenUse_ListComp ..)
  (hs:∀ x,foldedSetIterable it1 X.env x=pure x:=by intro _; rfl) :
  PB X C (.Assign [.Name y pos'] (.ListComp elt [⟨tg,it1,ifs,0⟩] scope pos) spos) (fun E β=>qComp lk ι γ τ φ β fun d _ β'=>E.nx (β'.set i (some (match o with | true=>.own d | false=>.val true d)))):=by
 have hT':∀ i ∈ T,∀ j,lk[i]?≠some (some j):=fun i hi j e=>by
  have:=List.all_eq_true.mp hT i hi
  rw [e] at this
  cases this
 refine ⟨fun E E' β l h=>(hi fun _=>False).mono β _ _ (fun ds kd β1 q=>⟨q.1,q.2.mono fun o z=>l.nx _ z⟩) h,fun pins s σ H D I0 ⟨Z,E,β,⟨own,sq,n⟩,h,ok⟩=>?_⟩
 refine ps_comp2 (g:=⟨tg,it1,ifs,0⟩) (gs:=[]) (tg:=fun a v σ H Q=>∃ own β d k,SQ X (C.u fun c=>c=a) σ H β own∧Rp X (av' (C.u fun c=>c=a) (Wn own) k) H d v∧γ d k β fun β'=>∀ σ' own',SQ X (C.u fun c=>c=a) σ' H β' own'→(∀ a,Wn own' a→Wn own a)→(∀ j,j ∉ T→σ'[j]?=σ[j]?)→Q σ' H)
  (tt:=fun a=>tQB X (C.u fun c=>c=a) pc τ) (ta:=fun a N σ H=>tQ X (C.u fun c=>c=a) pe φ σ H fun v H1=>∃ xs,H1 a=some (.lst xs)∧xs.length < sizeLine∧N σ (upd H1 a (.lst (xs++[v]))))
  L hc new_list hsw hev rfl hN hy hx hf (fun _ _=>cf_l1) (hi fun a=>H a=none).pi (fun a cl c s H ex=>⟨(htg _ cl c s H ex).pg,hts _ cl c s H ex,pa_emitL rfl (hel _ cl c s H ex).pe⟩) hs pins s σ H D I0 ?_
 refine ⟨β,own,sq.withU (C:=C.z) (U:=fun a=>H a=none) fun a z=>z,(hi fun _=>False).mono β _ _ (fun ds k β1 ⟨hk,q⟩ J H1 own1 o1 it a ha=>?_) h⟩
 refine comp_core (C:=C.u fun a=>H a=none) γm τm φm (links_inj L hN') hT' o1.sq ha (hp:=false) (fun z=>by cases z) hk it q fun ol H' q o2 r=>?_
 have r':=r.later o1.sn
 have oo:=o1.trans o2
 have m:=n.trans oo.sn
 cases o with
 | false=>exact ok.nx _ _ _ ⟨_,(SQ'.noU oo.sq).setVal (RepD.anti (fun a z=>z.elim id fun z=>z.elim) (KV.rep r')),sn_frz m⟩ q
 | true =>
  obtain ⟨A,h1,h2,h3⟩:=r'
  refine ok.nx _ _ _ ⟨_,oo.sq.setOwn h1 h2 fun c hc=>⟨(h3 c hc).2.2,(h3 c hc).2.1,(h3 c hc).1⟩,?_⟩ q
  exact ⟨fun b hq10=>by
   obtain ⟨j,hj⟩:=hq10
   by_cases hij:i=j
   ·rw [← hij,os_eq] at hj
    exact .inr (n.free (h3 b hj).1)
   ·rw [os_ne hij] at hj
    exact m.w b ⟨j,hj⟩,m.k,m.d⟩
end
end L2.Q
end


noncomputable section
set_option Elab.async false
set_option linter.all false
set_option maxRecDepth 100000
set_option maxHeartbeats 1000000
namespace Zp
open PySem PySem.Spec PyProof.Rows
structure Drw (prog:Program) (w:World) (i l:Addr) (vs:List Value) (St:Nat→Heap→Prop) (Ct:Heap→Prop):Prop where
 obj:∀ k h,St k h→∃ o,h.get? i=some o∧∀ v,o.data≠.cell v
 keep:∀ k h h',St k h→(∀ o,h.get? i=some o→h'.get? i=some o)→St k h'
 kept:∀ h h',Ct h→(∀ o,h.get? l=some o→h'.get? l=some o)→Ct h'
 item:∀ (A:Around) (E:Value→Shared→Prop) (s:Shared) (k:Nat) (x:Value) (Q:Value→Shared→Prop),St k s.heap→Ct s.heap→vs[k]?=some x →
  (∀ h',St (k+1) h'→Heap.SameBut i s.heap h'→Q x { s with heap:=h' })→wpAny (model prog w) A (Builtin.SmallTypes.nextOf (.ref i)) Q E s
 done:∀ (A:Around) (E:Value→Shared→Prop) (s:Shared) (k:Nat) (Q:Value→Shared→Prop),A.handled=none→St k s.heap→Ct s.heap→vs[k]?=none →
  (∀ h' e,Heap.ExtBut i s.heap h'→(∃ o,h'.get? e=some o∧o.cls=.type "StopIteration")→E (.ref e) { s with heap:=h' })→wpAny (model prog w) A (Builtin.SmallTypes.nextOf (.ref i)) Q E s
variable {prog:Program} {w:World}
theorem drw_list {i l:Addr} {vs:List Value}:Drw prog w i l vs (fun k h=>h.IsListIter i l k) (fun h=>h.IsList l vs.toArray) where
 obj:=fun k h ⟨o,a,_,d⟩=>⟨o,a,fun v z=>by rw [d] at z; cases z⟩
 keep:=fun k h h' a k1=>a.at k1
 kept:=fun h h' b k2=>b.at k2
 item:=fun A E s k x Q a b hx q=>wpAny_nextOf_list_item a b (by simpa using hx) fun h' a' sb=>q h' a' sb
 done:=fun A E s k Q hh a b hx q=>wpAny_nextOf_list_end hh a b (by simpa using hx) q
theorem next_tup {A:Around} {E:Value→Shared→Prop} {s:Shared} {i l:Addr} {k:Nat} {its:Array Value} {x:Value} {Q:Value→Shared→Prop} (a:s.heap.IsTupleIter i l k) (b:s.heap.IsTuple l its) (hx:its[k]?=some x)
  (q:∀ h',h'.IsTupleIter i l (k+1)→Heap.SameBut i s.heap h'→Q x { s with heap:=h' }):wpAny (model prog w) A (Builtin.SmallTypes.nextOf (.ref i)) Q E s:=by
 have hT:=a.typeIs
 obtain ⟨oi,gi,ci,di⟩:=a
 obtain ⟨ol,gl,cl,nl,dl⟩:=b
 unfold Builtin.SmallTypes.nextOf
 apply wpAny_bind
 apply wpAny_callSpecial?_slot (name:=Str.ofString "__next__") hT F.slot_tuple_iterator_next
 apply wpAny_call_entry F.slot_tuple_iterator_next hT F.entry_tuple_iterator_next _ (F.args_tuple_iterator_next_1 _)
 change wpAny (model prog w) _ (field (.ref i) 0 >>= _) _ _ s
 apply wpAny_bind; apply wpAny_field gi di (x:=.ref l) rfl
 rw [if_neg (by intro z; cases z)]
 change wpAny (model prog w) _ (field (.ref i) 1 >>= _) _ _ s
 apply wpAny_bind; apply wpAny_field gi di (x:=.int k 0) rfl
 change wpAny (model prog w) _ (seqItems? (.ref l) >>= _) _ _ s
 apply wpAny_bind; apply wpAny_seqItems gl dl
 simp only [Int.toNat_natCast,hx]
 apply wpAny_bind; apply wpAny_setField gi di (by simp)
 refine wpAny_pure ⟨x,rfl,?_⟩
 refine wpAny_pure (q _ ⟨_,Heap.get?_update_self _ gi (Obj.isFreed_of_fields (Obj.data_mapFields di _)),?_,?_⟩ (Heap.SameBut.update ..))
 ·rw [Obj.cls_mapFields]; exact ci
 ·rw [Obj.data_mapFields di]; simp [rawInt]
theorem end_tup {A:Around} {E:Value→Shared→Prop} {s:Shared} {i l:Addr} {k:Nat} {its:Array Value} {Q:Value→Shared→Prop} (hh:A.handled=none) (a:s.heap.IsTupleIter i l k) (b:s.heap.IsTuple l its) (hx:its[k]?=none)
  (q:∀ h' e,Heap.ExtBut i s.heap h'→(∃ o,h'.get? e=some o∧o.cls=.type "StopIteration")→E (.ref e) { s with heap:=h' }):wpAny (model prog w) A (Builtin.SmallTypes.nextOf (.ref i)) Q E s:=by
 have hT:=a.typeIs
 obtain ⟨oi,gi,ci,di⟩:=a
 obtain ⟨ol,gl,cl,nl,dl⟩:=b
 unfold Builtin.SmallTypes.nextOf
 apply wpAny_bind
 apply wpAny_callSpecial?_slot (name:=Str.ofString "__next__") hT F.slot_tuple_iterator_next
 apply wpAny_call_entry F.slot_tuple_iterator_next hT F.entry_tuple_iterator_next _ (F.args_tuple_iterator_next_1 _)
 change wpAny (model prog w) _ (field (.ref i) 0 >>= _) _ _ s
 apply wpAny_bind; apply wpAny_field gi di (x:=.ref l) rfl
 rw [if_neg (by intro z; cases z)]
 change wpAny (model prog w) _ (field (.ref i) 1 >>= _) _ _ s
 apply wpAny_bind; apply wpAny_field gi di (x:=.int k 0) rfl
 change wpAny (model prog w) _ (seqItems? (.ref l) >>= _) _ _ s
 apply wpAny_bind; apply wpAny_seqItems gl dl
 simp only [Int.toNat_natCast,hx]
 apply wpAny_bind; apply wpAny_rule; apply wpAny_bind; apply wpAny_setField gi di (by simp)
 change wpAny (model prog w) _ (newExc (.type "StopIteration") [] >>= _) _ _ _
 apply wpAny_bind; simp only [newExc,newTuple]
 apply wpAny_bind; refine wpAny_newObj_type ?_ (by size_fits)
 apply wpAny_bind (m:=firstArgMember _ _); apply wpAny_of_eq (a:=Value.none)
 ·first | rfl | (simp only [firstArgMember]; rfl)
 refine wpAny_newObj_type ?_ (by size_fits); simp only [raiseNew]
 apply wpAny_bind; apply wpAny_handled
 have hh1:A.in1.handled=none:=hh
 first | rw [hh1] | rw [hh]
 refine wpAny_bind (wpAny_pure (wpAny_throw (q _ _ (((Heap.SameBut.update ..).extBut.push _).push _) ⟨_,Heap.get?_push_size _ rfl,rfl⟩)))
theorem drw_tup {i l:Addr} {vs:List Value}:Drw prog w i l vs (fun k h=>h.IsTupleIter i l k) (fun h=>h.IsTuple l vs.toArray) where
 obj:=fun k h ⟨o,a,_,d⟩=>⟨o,a,fun v z=>by rw [d] at z; cases z⟩
 keep:=fun k h h' ⟨o,a1,a2⟩ k1=>⟨o,k1 o a1,a2⟩
 kept:=fun h h' ⟨o',b1,b2⟩ k2=>⟨o',k2 o' b1,b2⟩
 item:=fun A E s k x Q a b hx q=>next_tup a b (by simpa using hx) fun h' a' sb=>q h' a' sb
 done:=fun A E s k Q hh a b hx q=>end_tup hh a b (by simpa using hx) q
structure Apart (z TI TO i1 i2 l1 l2:Addr):Prop where
 nd:[z,TI,TO,i1,i2].Nodup
 o1:∀ c ∈ [z,TO,i1,i2],l1≠c
 o2:∀ c ∈ [z,TO,i1,i2],l2≠c
section
variable {A:Around} {E:Value→Shared→Prop} {s:Shared} {z TI TO i1 i2 l1 l2:Addr} {vs us:List Value} {S1 S2:Nat→Heap→Prop} {C1 C2:Heap→Prop}
theorem zip_item (P:Apart z TI TO i1 i2 l1 l2) (D1:Drw prog w i1 l1 vs S1 C1) (D2:Drw prog w i2 l2 us S2 C2) {k:Nat} {x y a b:Value} {Q:Option Value→Shared→Prop} (hz:IsZip s.heap z TI TO .none) (hTI:IsPair s.heap TI (.ref i1) (.ref i2)) (hTO:IsPair s.heap TO a b)
  (h1:S1 k s.heap) (h2:S2 k s.heap) (c1:C1 s.heap) (c2:C2 s.heap) (hx:vs[k]?=some x) (hy:us[k]?=some y)
  (q:∀ h',IsZip h' z TI TO (rawInt s.heap.objs.size)→IsPair h' TO x y→S1 (k+1) h'→S2 (k+1) h'→IsPair h' s.heap.objs.size x y→(∀ c o,c ∉ [z,TO,i1,i2]→s.heap.get? c=some o→h'.get? c=some o)→Q (some (.ref s.heap.objs.size)) { s with heap:=h' }) :
  wpAny (model prog w) A (pyNext (.ref z)) Q E s:=by
 have hT:s.TypeIs (.ref z) "zip" := ⟨_,hz,rfl⟩
 obtain ⟨nd,o1,o2⟩:=P
 simp only [List.nodup_cons,List.mem_cons,List.not_mem_nil,or_false,not_or,List.nodup_nil,not_false_eq_true,and_true] at nd
 obtain ⟨⟨zTI,zTO,zi1,zi2⟩,⟨TITO,TIi1,TIi2⟩,⟨TOi1,TOi2⟩,i12⟩:=nd
 have a1:=o1 z (by simp); have a2:=o1 TO (by simp); have a3:=o1 i1 (by simp); have a4:=o1 i2 (by simp)
 have b1:=o2 z (by simp); have b2:=o2 TO (by simp); have b3:=o2 i1 (by simp); have b4:=o2 i2 (by simp)
 unfold pyNext
 apply wpAny_bind; apply wpAny_attempt; apply wpAny_callSpecial?_slot (name:=Str.ofString "__next__") hT F.slot_zip_next
 refine wpAny_call_entry F.slot_zip_next hT F.entry_zip_next ?_ (F.args_zip_next_1 _)
 change wpAny (model prog w) _ (field (.ref z) 2 >>= _) _ _ _
 apply wpAny_bind; apply wpAny_field hz rfl (x:=.bool false) rfl
 change wpAny (model prog w) _ (field (.ref z) 3 >>= _) _ _ _
 apply wpAny_bind; apply wpAny_field hz rfl (x:=.ref TI) rfl
 apply wpAny_bind; apply wpAny_seqItems hTI rfl
 change wpAny (model prog w) _ (Builtin.SmallTypes.ownedTupleIsFree (.ref z) >>= _) _ _ _
 apply wpAny_bind; unfold Builtin.SmallTypes.ownedTupleIsFree
 apply wpAny_bind; apply wpAny_field hz rfl (x:=.none) rfl; apply wpAny_pure
 simp only [if_true]
 apply wpAny_bind; apply wpAny_rule
 apply wpAny_bind; apply wpAny_field hz rfl (x:=.ref TO) rfl
 apply wpAny_bind; refine wpAny_setField_rec hz (by simp) fun g1 y1 e1=>?_
 have z1:IsZip g1 z TI TO .ellipsis:=y1
 apply wpAny_bind
 simp only [List.zipIdx_cons,List.zipIdx_nil,List.forIn_cons,List.forIn_nil]
 apply wpAny_bind; apply wpAny_bind; apply wpAny_onRaise
 change wpAny (model prog w) _ (Builtin.SmallTypes.nextOf (.ref i1) >>= _) _ _ _
 apply wpAny_bind
 refine D1.item _ _ _ k x _ (D1.keep k _ _ h1 (fun o e=>e1.extBut _ _ (Ne.symm zi1) e)) (D1.kept _ _ c1 fun o e=>e1.extBut _ _ a1 e) hx fun g2 s2 e2=>wpAny_pure ?_
 have t2:IsPair g2 TO a b:=e2.extBut _ _ TOi1 (e1.extBut _ _ (Ne.symm zTO) hTO)
 apply wpAny_bind; apply wpAny_seqItems t2 rfl
 apply wpAny_bind; refine wpAny_updateSeq_pair t2 fun g3 y3 e3=>?_
 have t3:IsPair g3 TO x b:=y3
 apply wpAny_bind; refine wpAny_letGo (wpAny_pure ?_)
 apply wpAny_bind; apply wpAny_bind; apply wpAny_onRaise
 change wpAny (model prog w) _ (Builtin.SmallTypes.nextOf (.ref i2) >>= _) _ _ _
 apply wpAny_bind
 have k2:S2 k g3:=D2.keep k _ _ h2 fun o e=>e3.extBut _ _ (Ne.symm TOi2) (e2.extBut _ _ (Ne.symm i12) (e1.extBut _ _ (Ne.symm zi2) e))
 have k3:C2 g3:=D2.kept _ _ c2 fun o e=>e3.extBut _ _ b2 (e2.extBut _ _ b3 (e1.extBut _ _ b1 e))
 refine D2.item _ _ _ k y _ k2 k3 hy fun g4 s4 e4=>wpAny_pure ?_
 have t4:IsPair g4 TO x b:=e4.extBut _ _ TOi2 t3
 apply wpAny_bind; apply wpAny_seqItems t4 rfl
 apply wpAny_bind; refine wpAny_updateSeq_pair t4 fun g5 y5 e5=>?_
 have t5:IsPair g5 TO x y:=y5
 apply wpAny_bind; refine wpAny_letGo (wpAny_pure (wpAny_pure ?_))
 apply wpAny_bind; apply wpAny_seqItems t5 rfl
 apply wpAny_bind; refine wpAny_newTuple ?_
 have hsz:g5.objs.size=s.heap.objs.size:=by rw [e5.1,e4.1,e3.1,e2.1,e1.1]
 have z5:IsZip g5 z TI TO .ellipsis:=e5.extBut _ _ zTO (e4.extBut _ _ zi2 (e3.extBut _ _ zTO (e2.extBut _ _ zi1 z1)))
 have old:∀ c o,c ∉ [z,TO,i1,i2]→s.heap.get? c=some o→g5.get? c=some o:=fun c o hc e=>by
  simp only [List.mem_cons,List.not_mem_nil,or_false,not_or] at hc
  obtain ⟨c1,c2,c3,c4⟩:=hc
  exact e5.extBut _ _ c2 (e4.extBut _ _ c4 (e3.extBut _ _ c2 (e2.extBut _ _ c3 (e1.extBut _ _ c1 e))))
 have n1:S1 (k+1) g5:=D1.keep _ _ _ s2 fun o e=>e5.extBut _ _ (Ne.symm TOi1) (e4.extBut _ _ i12 (e3.extBut _ _ (Ne.symm TOi1) e))
 have n2:S2 (k+1) g5:=D2.keep _ _ _ s4 fun o e=>e5.extBut _ _ (Ne.symm TOi2) e
 have zlt:=Heap.lt_size z5
 change wpAny (model prog w) _ (Builtin.SmallTypes.ownedTupleHandOut (.ref z) (.ref g5.objs.size) >>= _) _ _ _
 apply wpAny_bind; unfold Builtin.SmallTypes.ownedTupleHandOut
 have z6:IsZip (g5.push { cls:=.type "tuple",data:=.seq #[x,y] }) z TI TO .ellipsis:=Heap.get?_push_of_some _ z5
 apply wpAny_bind; refine wpAny_setField_rec z6 (by simp) fun g7 y7 e7=>?_
 have z7:IsZip g7 z TI TO (rawInt g5.objs.size):=y7
 refine wpAny_setField_rec z7 (by simp) fun g8 y8 e8=>?_
 have z8:IsZip g8 z TI TO (rawInt g5.objs.size):=y8
 have up:∀ c o,c≠z→g5.get? c=some o→g8.get? c=some o:=fun c o c1 e=>e8.extBut _ _ c1 (e7.extBut _ _ c1 (Heap.get?_push_of_some _ e))
 have t8:IsPair g8 g5.objs.size x y:=e8.extBut _ _ (Nat.ne_of_gt zlt) (e7.extBut _ _ (Nat.ne_of_gt zlt) (Heap.get?_push_size _ rfl))
 rw [hsz] at z8 t8
 refine wpAny_pure ⟨_,rfl,wpAny_pure ?_⟩
 show Q (some (.ref g5.objs.size)) _
 rw [hsz]
 exact q g8 z8 (up _ _ (Ne.symm zTO) t5) (D1.keep _ _ _ n1 fun o e=>up _ _ (Ne.symm zi1) e) (D2.keep _ _ _ n2 fun o e=>up _ _ (Ne.symm zi2) e) t8 fun c o hc e=>up c o (fun w=>hc (by simp [w])) (old c o hc e)
theorem zip_end (P:Apart z TI TO i1 i2 l1 l2) (D1:Drw prog w i1 l1 vs S1 C1) (D2:Drw prog w i2 l2 us S2 C2) (hh:A.handled=none) {k:Nat} {a b:Value} {Q:Option Value→Shared→Prop} (hz:IsZip s.heap z TI TO .none) (hTI:IsPair s.heap TI (.ref i1) (.ref i2)) (hTO:IsPair s.heap TO a b)
  (h1:S1 k s.heap) (h2:S2 k s.heap) (c1:C1 s.heap) (c2:C2 s.heap) (hx:vs[k]?=none∨us[k]?=none)
  (q:∀ h',(∀ c o,c ∉ [z,TO,i1,i2]→s.heap.get? c=some o→h'.get? c=some o)→Q none { s with heap:=h' }) :
  wpAny (model prog w) A (pyNext (.ref z)) Q E s:=by
 have hT:s.TypeIs (.ref z) "zip" := ⟨_,hz,rfl⟩
 obtain ⟨nd,o1,o2⟩:=P
 simp only [List.nodup_cons,List.mem_cons,List.not_mem_nil,or_false,not_or,List.nodup_nil,not_false_eq_true,and_true] at nd
 obtain ⟨⟨zTI,zTO,zi1,zi2⟩,⟨TITO,TIi1,TIi2⟩,⟨TOi1,TOi2⟩,i12⟩:=nd
 have a1:=o1 z (by simp); have b1:=o2 z (by simp); have b2:=o2 TO (by simp); have b3:=o2 i1 (by simp)
 have oc:∀ {c:Addr},c ∉ [z,TO,i1,i2]→c≠z∧c≠TO∧c≠i1∧c≠i2:=fun hc=>by simpa [not_or] using hc
 have hh1:A.in1.handled=none:=hh
 unfold pyNext
 apply wpAny_bind; apply wpAny_attempt; apply wpAny_callSpecial?_slot (name:=Str.ofString "__next__") hT F.slot_zip_next
 refine wpAny_call_entry F.slot_zip_next hT F.entry_zip_next ?_ (F.args_zip_next_1 _)
 have fin:∀ (h':Heap) (e:Addr),(∀ c o,c ∉ [z,TO,i1,i2]→s.heap.get? c=some o→h'.get? c=some o)→(∃ o,h'.get? e=some o∧o.cls=.type "StopIteration") →
   wpAny (model prog w) A (do if ← isInstance (.ref e) (.type "StopIteration") then pure none else throw (.ref e)) Q E { s with heap:=h' }:=fun h' e hk ⟨o,ho,hc⟩=>by
  apply wpAny_bind; refine wpAny_isInstance (T:="StopIteration") (b:=true) ⟨o,ho,hc⟩ isSubtype_stop ?_
  exact wpAny_pure (q h' hk)
 change wpAny (model prog w) _ (field (.ref z) 2 >>= _) _ _ _
 apply wpAny_bind; apply wpAny_field hz rfl (x:=.bool false) rfl
 change wpAny (model prog w) _ (field (.ref z) 3 >>= _) _ _ _
 apply wpAny_bind; apply wpAny_field hz rfl (x:=.ref TI) rfl
 apply wpAny_bind; apply wpAny_seqItems hTI rfl
 change wpAny (model prog w) _ (Builtin.SmallTypes.ownedTupleIsFree (.ref z) >>= _) _ _ _
 apply wpAny_bind; unfold Builtin.SmallTypes.ownedTupleIsFree
 apply wpAny_bind; apply wpAny_field hz rfl (x:=.none) rfl; apply wpAny_pure
 simp only [if_true]
 apply wpAny_bind; apply wpAny_rule
 apply wpAny_bind; apply wpAny_field hz rfl (x:=.ref TO) rfl
 apply wpAny_bind; refine wpAny_setField_rec hz (by simp) fun g1 y1 e1=>?_
 have z1:IsZip g1 z TI TO .ellipsis:=y1
 apply wpAny_bind
 simp only [List.zipIdx_cons,List.zipIdx_nil,List.forIn_cons,List.forIn_nil]
 apply wpAny_bind; apply wpAny_bind; apply wpAny_onRaise
 change wpAny (model prog w) _ (Builtin.SmallTypes.nextOf (.ref i1) >>= _) _ _ _
 apply wpAny_bind
 have f1:S1 k g1:=D1.keep k _ _ h1 fun o e=>e1.extBut _ _ (Ne.symm zi1) e
 have f2:C1 g1:=D1.kept _ _ c1 fun o e=>e1.extBut _ _ a1 e
 cases ex:vs[k]? with
 | none =>
  refine D1.done _ _ _ k _ hh1 f1 f2 ex fun g2 e e2 he=>?_
  obtain ⟨oe,ge,ce⟩:=he
  have z2:IsZip g2 z TI TO .ellipsis:=e2 _ _ zi1 z1
  have ez:e≠z:=fun w=>by subst w; rw [z2] at ge; cases ge; simp at ce
  refine wpAny_setField_rec z2 (by simp) fun g3 _ e3=>fin g3 e (fun c o hc x=>?_) ⟨oe,e3.extBut _ _ ez ge,ce⟩
  obtain ⟨q1,q2,q3,q4⟩:=oc hc
  exact e3.extBut _ _ q1 (e2 _ _ q3 (e1.extBut _ _ q1 x))
 | some x =>
  have ey:us[k]?=none:=hx.resolve_left (by rw [ex]; intro z; cases z)
  refine D1.item _ _ _ k x _ f1 f2 ex fun g2 s2 e2=>wpAny_pure ?_
  have t2:IsPair g2 TO a b:=e2.extBut _ _ TOi1 (e1.extBut _ _ (Ne.symm zTO) hTO)
  apply wpAny_bind; apply wpAny_seqItems t2 rfl
  apply wpAny_bind; refine wpAny_updateSeq_pair t2 fun g3 y3 e3=>?_
  apply wpAny_bind; refine wpAny_letGo (wpAny_pure ?_)
  apply wpAny_bind; apply wpAny_bind; apply wpAny_onRaise
  change wpAny (model prog w) _ (Builtin.SmallTypes.nextOf (.ref i2) >>= _) _ _ _
  apply wpAny_bind
  have k2:S2 k g3:=D2.keep k _ _ h2 fun o e=>e3.extBut _ _ (Ne.symm TOi2) (e2.extBut _ _ (Ne.symm i12) (e1.extBut _ _ (Ne.symm zi2) e))
  have k3:C2 g3:=D2.kept _ _ c2 fun o e=>e3.extBut _ _ b2 (e2.extBut _ _ b3 (e1.extBut _ _ b1 e))
  refine D2.done _ _ _ k _ hh1 k2 k3 ey fun g4 e e4 he=>?_
  obtain ⟨oe,ge,ce⟩:=he
  have z4:IsZip g4 z TI TO .ellipsis:=e4 _ _ zi2 (e3.extBut _ _ zTO (e2.extBut _ _ zi1 z1))
  have ez:e≠z:=fun w=>by subst w; rw [z4] at ge; cases ge; simp at ce
  refine wpAny_setField_rec z4 (by simp) fun g5 _ e5=>fin g5 e (fun c o hc x=>?_) ⟨oe,e5.extBut _ _ ez ge,ce⟩
  obtain ⟨q1,q2,q3,q4⟩:=oc hc
  exact e5.extBut _ _ q1 (e4 _ _ q4 (e3.extBut _ _ q2 (e2.extBut _ _ q3 (e1.extBut _ _ q1 x))))
end
end Zp
end

noncomputable section
set_option Elab.async false
set_option linter.all false
set_option maxRecDepth 100000
set_option maxHeartbeats 1000000
namespace Zp
open PySem PySem.Spec PyProof.Rows
section
variable {prog:Program} {w:World} {A:Around} {E:Value→Shared→Prop} {s:Shared}
abbrev tH1 (h:Heap) (l1:Addr):Heap:=h.push { cls:=.type "tuple_iterator",data:=.fields #[.ref l1,.int 0 0] }
abbrev tH2 (h:Heap) (l1 l2:Addr):Heap:=(tH1 h l1).push { cls:=.type "tuple_iterator",data:=.fields #[.ref l2,.int 0 0] }
abbrev tH3 (h:Heap) (l1 l2:Addr):Heap:=(tH2 h l1 l2).push { cls:=.type "tuple",data:=.seq #[.ref h.objs.size,.ref (tH1 h l1).objs.size] }
abbrev tH4 (h:Heap) (l1 l2:Addr):Heap:=(tH3 h l1 l2).push { cls:=.type "tuple",data:=.seq #[.none,.none] }
abbrev tH5 (h:Heap) (l1 l2:Addr):Heap:=(tH4 h l1 l2).push { cls:=.type "zip",data:=.fields #[.none,.bool false,.bool false,.ref (tH2 h l1 l2).objs.size,.ref (tH3 h l1 l2).objs.size] }
theorem zip_new_t (l1 l2:Addr) (xs ys:Array Value) :
  Meets (Builtin.«zip.__new__» ⟨[.type "zip",.ref l1,.ref l2],[]⟩) (fun _ R s=>s.heap.IsTuple l1 xs∧s.heap.IsTuple l2 ys∧R (.ok (.ret (.ref (tH4 s.heap l1 l2).objs.size))) { s with heap:=tH5 s.heap l1 l2 }) :=
 .of_wp fun prog w A R s h=>by
  obtain ⟨hp,g,d,tk,os⟩:=s
  obtain ⟨u1,u2,h⟩:=h
  have sub0:=sub_zip
  have m1:Heap.IsTuple (Shared.heap ⟨hp,g,d,tk,os⟩) l1 xs:=u1
  have m2:Heap.IsTuple (Shared.heap ⟨hp.push { cls:=.type "tuple_iterator",data:=.fields #[.ref l1,.int 0 0] },g,d,tk,os⟩) l2 ys:=Heap.IsTuple.push u2 _
  wp_walk using wpAny_pyIter_tuple m1,wpAny_pyIter_tuple m2
  exact ⟨_,rfl,h⟩
theorem zip_tups {l1 l2:Addr} {xs ys:Array Value} {Q:Value→Shared→Prop} (u1:s.heap.IsTuple l1 xs) (u2:s.heap.IsTuple l2 ys)
  (q:∀ h',IsZip h' (s.heap.objs.size+4) (s.heap.objs.size+2) (s.heap.objs.size+3) .none→IsPair h' (s.heap.objs.size+2) (.ref s.heap.objs.size) (.ref (s.heap.objs.size+1))→IsPair h' (s.heap.objs.size+3) .none .none →
   h'.IsTupleIter s.heap.objs.size l1 0→h'.IsTupleIter (s.heap.objs.size+1) l2 0→(∀ c o,s.heap.get? c=some o→h'.get? c=some o)→Q (.ref (s.heap.objs.size+4)) { s with heap:=h' }) :
  wpAny (model prog w) A (call (.type "zip") [.ref l1,.ref l2]) Q E s:=by
 refine callType_new F.called_zip (by decide) (F.typeCall_zip_2 _ _) (F.newCall_zip_2 _ _) (fun obj=>F.args_object_init_3 obj _ _) F.entry_zip_new (zip_new_t l1 l2 xs ys) ⟨u1,u2,?_⟩
 have n1:(tH1 s.heap l1).objs.size=s.heap.objs.size+1:=Heap.size_push ..
 have n2:(tH2 s.heap l1 l2).objs.size=s.heap.objs.size+2:=by rw [Heap.size_push,n1]
 have n3:(tH3 s.heap l1 l2).objs.size=s.heap.objs.size+3:=by rw [Heap.size_push,n2]
 have n4:(tH4 s.heap l1 l2).objs.size=s.heap.objs.size+4:=by rw [Heap.size_push,n3]
 have up:∀ {h:Heap} {o:Obj} {c:Addr} {u:Obj},h.get? c=some u→(h.push o).get? c=some u:=fun e=>Heap.get?_push_of_some _ e
 have w5:(tH5 s.heap l1 l2).get? (tH4 s.heap l1 l2).objs.size=some _:=Heap.get?_push_size _ rfl
 have w4:(tH5 s.heap l1 l2).get? (tH3 s.heap l1 l2).objs.size=some _:=up (Heap.get?_push_size _ rfl)
 have w3:(tH5 s.heap l1 l2).get? (tH2 s.heap l1 l2).objs.size=some _:=up (up (Heap.get?_push_size _ rfl))
 have w2:(tH5 s.heap l1 l2).get? (tH1 s.heap l1).objs.size=some _:=up (up (up (Heap.get?_push_size _ rfl)))
 have w1:(tH5 s.heap l1 l2).get? s.heap.objs.size=some _:=up (up (up (up (Heap.get?_push_size _ rfl))))
 show _∧_
 rw [n2,n3,n4] at w5; rw [n1,n2] at w3; rw [n3] at w4; rw [n1] at w2; rw [n4]
 exact ⟨⟨_,w5,rfl⟩,q _ w5 w3 w4 ⟨_,w1,rfl,rfl⟩ ⟨_,w2,rfl,rfl⟩ fun c o e=>up (up (up (up (up e))))⟩
end
end Zp
namespace L2
open PySem PySem.Spec PySem.SeqAt PyProof.Rows Zp
abbrev Sq2:=Hp→List V→Prop
def Itz (c1 c2:Sq2):It :=
 ⟨fun i H=>∃ xs ys x y,c1 H xs∧c2 H ys∧xs[i]?=some x∧ys[i]?=some y,
  fun i H x H'=>∃ T,H T=none∧x=.ref T∧∀ xs ys,c1 H xs→c2 H ys→∃ a b,xs[i]?=some a∧ys[i]?=some b∧H'=upd H T (.tup [a,b]),
  fun i H=>∃ xs ys,c1 H xs∧c2 H ys∧(xs[i]?=none∨ys[i]?=none)⟩
structure Src (P:Program) (w:World) (K:PySem.W.Frag) (i l:Addr) (c:Sq2) (S:Nat→Heap→Prop):Prop where
 «at»:∀ (X:Cx) (pins:List (Addr × Obj)) (σ:St) (H:Hp) (s:Shared) (xs:List V),X.prog=P→X.w=w→X.K=K→Inv X pins σ H s→c H xs→∃ vs Ct,Vals xs vs∧Drw P w i l vs S Ct∧Ct s.heap
 obj:∀ k h,S k h→∃ o,h.get? i=some o∧∀ v,o.data≠.cell v
 keep:∀ k h h',S k h→(∀ o,h.get? i=some o→h'.get? i=some o)→S k h'
 inj:∀ (H:Hp) (xs ys:List V),c H xs→c H ys→xs=ys
 old:∀ (H:Hp) (xs:List V),c H xs→H l≠none
theorem src_list {P:Program} {w:World} {K:PySem.W.Frag} {i l:Addr}:Src P w K i l (fun H xs=>H l=some (.lst xs)) (fun k h=>h.IsListIter i l k) where
 «at»:=fun X pins σ H s xs hp hw hk I h=>by
  obtain ⟨its,r',pl,_⟩:=I.list (SqL.of h)
  exact ⟨its,_,r',drw_list,pl.isList⟩
 obj:=fun k h ⟨o,a,_,d⟩=>⟨o,a,fun v z=>by rw [d] at z; cases z⟩
 keep:=fun k h h' a k1=>a.at k1
 inj:=fun H xs ys h h'=>by rw [h] at h'; cases h'; rfl
 old:=fun H xs h z=>by rw [h] at z; cases z
theorem src_tup {P:Program} {w:World} {K:PySem.W.Frag} {i l:Addr}:Src P w K i l (fun H xs=>H l=some (.tup xs)) (fun k h=>h.IsTupleIter i l k) where
 «at»:=fun X pins σ H s xs hp hw hk I h=>by
  obtain ⟨its,r',pl,_⟩:=I.tuple (SqT.of h)
  exact ⟨its,_,r',drw_tup,(show s.heap.IsTuple l its.toArray from pl)⟩
 obj:=fun k h ⟨o,a,_,d⟩=>⟨o,a,fun v z=>by rw [d] at z; cases z⟩
 keep:=fun k h h' ⟨o,a1,a2⟩ k1=>⟨o,k1 o a1,a2⟩
 inj:=fun H xs ys h h'=>by rw [h] at h'; cases h'; rfl
 old:=fun H xs h z=>by rw [h] at z; cases z
theorem Inv.turnedT {X:Cx} {pins:List (Addr × Obj)} {σ:St} {H:Hp} {s:Shared} {fp:List Addr} {h':Heap} {x y:V} {u v:Value} (I:Inv X pins σ H s) (hf:∀ b ∈ fp,FpOk X pins H b) (k:∀ c o,c ∉ fp→s.heap.get? c=some o→h'.get? c=some o)
  (rx:RelV x u) (ry:RelV y v) (hT:IsPair h' s.heap.objs.size u v):Inv X pins σ (upd H s.heap.objs.size (.tup [x,y])) { s with heap:=h' }:=by
 have hn:H s.heap.objs.size=none:=I.hok.fresh (Nat.le_refl _)
 have ne:∀ {b:Addr} {o:Obj},s.heap.get? b=some o→b≠s.heap.objs.size:=fun e=>Nat.ne_of_lt (Heap.lt_size e)
 have nt:∀ {b:Addr} {o:HO},H b=some o→b≠s.heap.objs.size:=fun e z=>by rw [z,hn] at e; cases e
 have nf:∀ {b:Addr} {o:HO},H b=some o→b ∉ fp:=fun e z=>by rw [(hf _ z).1] at e; cases e
 refine I.call (g':=s.gens) (t':=s.toks) (d':=s.drawn) (ch:=fp) ⟨fun b o e n _ hc=>k b o hc e,fun b o e n _ hc=>⟨o.slots,k b o hc e⟩,fun b o e n _=>by rw [upd_ne (ne e)]; exact n,fun b o e hc=>⟨o,k b o hc e⟩,
  fun b xs e=>by rw [upd_ne (nt e)]; exact e,fun b o u e=>by rw [upd_ne (nt e)]; exact e,fun b ps e=>⟨#[],by rw [upd_ne (nt e),e]; simp⟩⟩ (fun b u e=>?_) I.bare fun b hb=>?_
 ·by_cases hb:b=s.heap.objs.size
  ·subst hb
   rw [upd_same] at e
   cases e
   exact ⟨by show 2≤sizeLine; decide,[_,_],.cons rx (.cons ry .nil),⟨_,hT,rfl,_,rfl⟩⟩
  ·rw [upd_ne hb] at e
   refine (I.hok b u e).stay (fun c v hc q=>k c v ?_ q) (fun c q=>by rw [upd_ne (nt q)]; exact q) fun c xs q=>by rw [upd_ne (nt q)]; exact q
   rcases hc with z | z
   ·rw [z]; exact nf e
   ·exact nf z
 ·obtain ⟨f0,f1,f2,f3,f4,f5⟩:=hf b hb
  exact ⟨f3,f1,f4,f5⟩
theorem Inv.turnedN {X:Cx} {pins:List (Addr × Obj)} {σ:St} {H:Hp} {s:Shared} {fp:List Addr} {h':Heap} (I:Inv X pins σ H s) (hf:∀ b ∈ fp,FpOk X pins H b) (k:∀ c o,c ∉ fp→s.heap.get? c=some o→h'.get? c=some o):Inv X pins σ H { s with heap:=h' }:=by
 have nf:∀ {b:Addr} {o:HO},H b=some o→b ∉ fp:=fun e z=>by rw [(hf _ z).1] at e; cases e
 refine I.call (g':=s.gens) (t':=s.toks) (d':=s.drawn) (ch:=fp) ⟨fun b o e n _ hc=>k b o hc e,fun b o e n _ hc=>⟨o.slots,k b o hc e⟩,fun b o e n _=>n,fun b o e hc=>⟨o,k b o hc e⟩,fun b xs e=>e,fun b o u e=>e,fun b ps e=>⟨#[],by rw [e]; simp⟩⟩ (fun b u e=>?_) I.bare fun b hb=>?_
 ·refine (I.hok b u e).stay (fun c v hc q=>k c v ?_ q) (fun c q=>q) fun c xs q=>q
  rcases hc with z | z
  ·rw [z]; exact nf e
  ·exact nf z
 ·obtain ⟨f0,f1,f2,f3,f4,f5⟩:=hf b hb
  exact ⟨f3,f1,f4,f5⟩
theorem turn_zip {P:Program} {w:World} {K:PySem.W.Frag} {elts:List Expr} {kk:Nat} {pos:Pos} {z TI TO i1 i2 l1 l2:Addr} {c1 c2:Sq2} {S1 S2:Nat→Heap→Prop} (Ap:Apart z TI TO i1 i2 l1 l2) (s1:Src P w K i1 l1 c1 S1) (s2:Src P w K i2 l2 c2 S2) :
  Turn P w K (.Tuple elts kk pos) (Itz c1 c2) [z,TI,TO,i1,i2] z (fun k h=>IsZip h z TI TO .none∧IsPair h TI (.ref i1) (.ref i2)∧(∃ a b,IsPair h TO a b)∧S1 k h∧S2 k h) where
 mem:=by simp
 obj:=fun k h ⟨h1,h2,⟨a,b,h3⟩,h4,h5⟩ c hc=>by
  simp only [List.mem_cons,List.not_mem_nil,or_false] at hc
  rcases hc with rfl | rfl | rfl | rfl | rfl
  ·exact ⟨_,h1,fun v z=>by cases (show Data.fields _=Data.cell v from z)⟩
  ·exact ⟨_,h2,fun v z=>by cases (show Data.seq _ _=Data.cell v from z)⟩
  ·exact ⟨_,h3,fun v z=>by cases (show Data.seq _ _=Data.cell v from z)⟩
  ·exact s1.obj k h h4
  ·exact s2.obj k h h5
 keep:=fun k h h' ⟨h1,h2,⟨a,b,h3⟩,h4,h5⟩ kp=>⟨kp z (by simp) _ h1,kp TI (by simp) _ h2,⟨a,b,kp TO (by simp) _ h3⟩,s1.keep k h h' h4 (fun o e=>kp i1 (by simp) o e),s2.keep k h h' h5 fun o e=>kp i2 (by simp) o e⟩
 item:=by
  intro X hP hw hK hc i pins s σ H E I hf st hg
  obtain ⟨g1,g2,⟨a,b,g3⟩,g4,g5⟩:=st
  obtain ⟨xs,ys,x,y,hx,hy,ex,ey⟩:=hg
  obtain ⟨vs,C1,r1,D1,k1⟩:=s1.at X pins σ H s xs hP hw hK I hx
  obtain ⟨us,C2,r2,D2,k2⟩:=s2.at X pins σ H s ys hP hw hK I hy
  obtain ⟨u,eu,ru⟩:=r1.get ex
  obtain ⟨v,ev,rv⟩:=r2.get ey
  have sub:∀ c ∈ [z,TO,i1,i2],c ∈ [z,TI,TO,i1,i2]:=fun c hc=>by simp at hc ⊢; rcases hc with h | h | h | h <;> simp [h]
  refine zip_item Ap D1 D2 g1 g2 g3 g4 g5 k1 k2 eu ev fun h' y1 y2 y3 y4 y5 y6=>?_
  have I1:=I.turnedT (fp:=[z,TI,TO,i1,i2]) hf (fun c o hcc e=>y6 c o (fun q=>hcc (sub c q)) e) ru rv y5
  have nT:∀ b ∈ [z,TI,TO,i1,i2],upd H s.heap.objs.size (.tup [x,y]) b=none:=fun b hb=>by
   have:b≠s.heap.objs.size:=by
    have:=(show (∃ o,s.heap.get? b=some o) from by
     simp only [List.mem_cons,List.not_mem_nil,or_false] at hb
     rcases hb with rfl | rfl | rfl | rfl | rfl
     ·exact ⟨_,g1⟩
     ·exact ⟨_,g2⟩
     ·exact ⟨_,g3⟩
     ·exact ⟨_,(s1.obj i _ g4).choose_spec.1⟩
     ·exact ⟨_,(s2.obj i _ g5).choose_spec.1⟩)
    obtain ⟨o,e⟩:=this
    exact Nat.ne_of_lt (Heap.lt_size e)
   rw [upd_ne this]
   exact (hf b hb).1
  have TI':IsPair h' TI (.ref i1) (.ref i2):=y6 TI _ (by
   have:=Ap.nd
   simp only [List.nodup_cons,List.mem_cons,List.not_mem_nil,or_false,not_or] at this ⊢
   obtain ⟨⟨q1,_⟩,⟨q2,q3,q4⟩,_⟩:=this
   exact ⟨Ne.symm q1,q2,q3,q4⟩) g2
  refine ⟨_,rfl,wpAny_letOwnedTupleGo_zip y1 fun h'' z' sb=>?_⟩
  have I2:Inv X pins σ (upd H s.heap.objs.size (.tup [x,y])) { s with heap:=h'' }:=by
   refine I1.turnedN (fp:=[z]) (fun b hb=>?_) fun c o hcc e=>sb.extBut _ _ (by simpa using hcc) e
   have e:b=z:=by simpa using hb
   subst e
   exact ⟨nT b (by simp),(hf b (by simp)).2⟩
  have zne:∀ c ∈ [TI,TO,i1,i2],c≠z:=fun c hc q=>by
   have:=Ap.nd
   rw [List.nodup_cons] at this
   exact this.1 (by rw [← q]; exact hc)
  refine ⟨.ref s.heap.objs.size,_,I2,rfl,⟨s.heap.objs.size,I.hok.fresh (Nat.le_refl _),rfl,fun xs' ys' hx' hy'=>?_⟩,⟨z',sb.extBut _ _ (zne TI (by simp)) TI',⟨_,_,sb.extBut _ _ (zne TO (by simp)) y2⟩,s1.keep _ _ _ y3 (fun o e=>sb.extBut _ _ (zne i1 (by simp)) e),s2.keep _ _ _ y4 fun o e=>sb.extBut _ _ (zne i2 (by simp)) e⟩,nT⟩
  rw [s1.inj H xs' xs hx' hx,s2.inj H ys' ys hy' hy]
  exact ⟨x,y,ex,ey,rfl⟩
 done:=by
  intro X hP hw hK hc i pins s σ H E I hf st hg
  obtain ⟨g1,g2,⟨a,b,g3⟩,g4,g5⟩:=st
  obtain ⟨xs,ys,hx,hy,ex⟩:=hg
  obtain ⟨vs,C1,r1,D1,k1⟩:=s1.at X pins σ H s xs hP hw hK I hx
  obtain ⟨us,C2,r2,D2,k2⟩:=s2.at X pins σ H s ys hP hw hK I hy
  have sub:∀ c ∈ [z,TO,i1,i2],c ∈ [z,TI,TO,i1,i2]:=fun c hc=>by simp at hc ⊢; rcases hc with h | h | h | h <;> simp [h]
  refine zip_end Ap D1 D2 (I.ok.hd hc) g1 g2 g3 g4 g5 k1 k2 (ex.imp (fun q=>r1.none_of q) fun q=>r2.none_of q) fun h' y6=>?_
  exact ⟨rfl,I.turnedN (fp:=[z,TI,TO,i1,i2]) hf fun c o hcc e=>y6 c o (fun q=>hcc (sub c q)) e⟩
 self:=fun A i s Q E ⟨h1,_⟩ q=>wpAny_pyIter_zip h1 q
end L2
end

noncomputable section
set_option Elab.async false
set_option linter.all false
set_option maxRecDepth 100000
namespace L2
open PySem PySem.Spec PySem.SeqAt PyProof.Rows Zp
theorem bt_zip:bootBuiltins "zip" = some (.type "zip"):=by decide +kernel
def zipD:List D→List D→List D
 | a::as,b::bs=>.tup [a,b]::zipD as bs
 | _,_=>[]
theorem zipD_get:∀ {as bs:List D} {i:Nat} {d:D},(zipD as bs)[i]?=some d→∃ a b,as[i]?=some a∧bs[i]?=some b∧d=.tup [a,b]
 | [],_,_,_,h=>by simp [zipD] at h
 | _::_,[],_,_,h=>by simp [zipD] at h
 | a::as,b::bs,0,_,h=>by simp [zipD] at h; exact ⟨a,b,rfl,rfl,h.symm⟩
 | a::as,b::bs,i+1,_,h=>by
  obtain ⟨x,y,h1,h2,h3⟩:=zipD_get (as:=as) (bs:=bs) (i:=i) (by simpa [zipD] using h)
  exact ⟨x,y,by simpa using h1,by simpa using h2,h3⟩
theorem zipD_len:∀ (as bs:List D),(zipD as bs).length=min as.length bs.length
 | [],_=>by simp [zipD]
 | _::_,[]=>by simp [zipD]
 | a::as,b::bs=>by simp [zipD,zipD_len as bs]
section
variable {X:Cx} {W:Addr→Prop} {H:Hp} {l1 l2:Addr} {xs ys:List V} {ds es:List D}
def cSq (t:Bool) (l:Addr):Sq2:=fun H xs=>if t=true then H l=some (.tup xs) else H l=some (.lst xs)
theorem itd_zip (t:Bool) (h1:cSq t l1 H xs) (h2:cSq t l2 H ys) (n1:t=false→¬ W l1) (n2:t=false→¬ W l2) (r1:Rps X W H ds xs) (r2:Rps X W H es ys):ItD X W (Itz (cSq t l1) (cSq t l2)) (zipD ds es) H:=fun W' hW i H' k=>by
 have st:∀ {l:Addr} {xs:List V},cSq t l H xs→(t=false→¬ W l)→cSq t l H' xs:=fun {l xs} h n=>by
  unfold cSq at h ⊢
  cases t with
  | true=>exact k.tup l xs h
  | false=>exact k.out l _ h fun z=>(hW l z).elim (n rfl) fun q=>by rw [show H l=some (HO.lst xs) from h] at q; cases q
 have inj:∀ {l:Addr} {xs ys:List V},cSq t l H' xs→cSq t l H' ys→xs=ys:=fun {l xs ys} a b=>by
  unfold cSq at a b
  cases t with
  | true=>rw [show H' l=some (HO.tup xs) from a] at b; cases b; rfl
  | false=>rw [show H' l=some (HO.lst xs) from a] at b; cases b; rfl
 have q1:=(RepDs.grow hW r1).keep k
 have q2:=(RepDs.grow hW r2).keep k
 constructor
 ·intro d hd
  obtain ⟨a,b,ha,hb,rfl⟩:=zipD_get hd
  obtain ⟨x,ex,rx⟩:=RepDs.get q1 ha
  obtain ⟨y,ey,ry⟩:=RepDs.get q2 hb
  refine ⟨⟨xs,ys,x,y,st h1 n1,st h2 n2,ex,ey⟩,fun v H1 ⟨T,hT,e,yl⟩=>?_⟩
  obtain ⟨x',y',ex',ey',eH⟩:=yl xs ys (st h1 n1) (st h2 n2)
  rw [ex] at ex'; rw [ey] at ey'
  cases ex'; cases ey'
  subst e eH
  exact ⟨Same.new hT,Rp.tupNew hT (.cons rx (.cons ry .nil))⟩
 ·intro hl
  rw [zipD_len] at hl
  have z1:=q1.length
  have z2:=q2.length
  refine ⟨xs,ys,st h1 n1,st h2 n2,?_⟩
  by_cases h:ds.length≤i
  ·exact .inl (List.getElem?_eq_none (by lia))
  ·exact .inr (List.getElem?_eq_none (by lia))
variable {φs:PhiS} {elts:List Expr} {kk:Nat} {tpos:Pos}
def iZip (φs:PhiS):PhiI:=fun ρ R=>φs ρ fun l=>∃ as bs,(l=[.lst as,.lst bs]∨l=[.tup as,.tup bs])∧R (zipD as bs)
theorem src_sq {P:Program} {w:World} {K:PySem.W.Frag} {i l:Addr} (t:Bool):∃ S:Nat→Heap→Prop,Src P w K i l (cSq t l) S∧∀ h,(t=true→h.IsTupleIter i l 0)→(t=false→h.IsListIter i l 0)→S 0 h:=by
 cases t with
 | true=>exact ⟨_,src_tup,fun h a b=>a rfl⟩
 | false=>exact ⟨_,src_list,fun h a b=>b rfl⟩
theorem pvi_zip {a b:Expr} {p pos:Pos} (hm:X.mg "zip" = none) (ha:PVA X [a,b] φs) (hg:Gl X "zip" := by rfl) (hs:starEach [a,b] X.env=[(false,eval a X.env),(false,eval b X.env)]:=by rfl) (hs2:starEach [b] X.env=[(false,eval b X.env)]:=by rfl) :
  PVI X (.Tuple elts kk tpos) (.Call (.Name "zip" p) [a,b] [] pos) (iZip φs):=by
 refine ⟨fun ρ R R' k q=>ha.mono ρ _ _ (fun l ⟨as,bs,e,q⟩=>⟨as,bs,e,k _ q⟩) q,fun pins s σ H R I ⟨W,ρ,se,q⟩=>?_⟩
 refine Call_ (ld_blt I hg hm bt_zip (PyProof.Rows.callWith_type1 (thn (ha.pa pos pins s σ H _ I (tDs.of ha se q fun ds vs H1 h s1 r1=>(⟨ds,h,s1,r1⟩:∃ ds,(∃ as bs,(ds=[.lst as,.lst bs]∨ds=[.tup as,.tup bs])∧∀ J H',Same H H'→ItD X W J (zipD as bs) H'→R J H')∧Same H H1∧Rps X W H1 ds vs)))
  fun us s1 ⟨vs,H1,I1,rv,h⟩=>?_) (by rw [hs,hs2]) (by rw [hs2]; rfl)))
 obtain ⟨ds,⟨as,bs,e,q⟩,sm,r1⟩:=h
 have main:∀ (t:Bool) (l1 l2:Addr) (xs ys:List V),vs=[.ref l1,.ref l2]→cSq t l1 H1 xs→cSq t l2 H1 ys→(t=false→¬ W l1)→(t=false→¬ W l2)→Rps X W H1 as xs→Rps X W H1 bs ys →
   wpAny (model X.prog X.w) X.A (call (.type "zip") us) (fun v s1=>wpAny (model X.prog X.w) X.A (pyIter v) (PIE X pins σ (.Tuple elts kk tpos) R) X.xe s1) X.xe s1:=by
  intro t l1 l2 xs ys ev g1 g2 n1 n2 w1 w2
  subst ev
  have it:=itd_zip t g1 g2 n1 n2 w1 w2
  obtain ⟨v1,v2,rfl,e1,e2⟩:∃ v1 v2,us=[v1,v2]∧RelV (.ref l1) v1∧RelV (.ref l2) v2:=by
   cases rv with
   | cons a rr=>cases rr with
    | cons b rr=>cases rr; exact ⟨_,_,rfl,a,b⟩
  cases e1; cases e2
  have lt1:l1 < s1.heap.objs.size:=I1.hok.lt (o:=if t=true then .tup xs else .lst xs) (by unfold cSq at g1; cases t <;> exact g1)
  have lt2:l2 < s1.heap.objs.size:=I1.hok.lt (o:=if t=true then .tup ys else .lst ys) (by unfold cSq at g2; cases t <;> exact g2)
  have Ap:Apart (s1.heap.objs.size+4) (s1.heap.objs.size+2) (s1.heap.objs.size+3) s1.heap.objs.size (s1.heap.objs.size+1) l1 l2:=by
   generalize s1.heap.objs.size=n at lt1 lt2
   change (l1:Nat) < n at lt1
   change (l2:Nat) < n at lt2
   refine ⟨?_,fun c hc=>?_,fun c hc=>?_⟩
   ·have q:∀ (i j:Nat),i≠j→(n+i:Nat)≠n+j:=fun i j h z=>h (Nat.add_left_cancel z)
    simp only [List.nodup_cons,List.mem_cons,List.not_mem_nil,or_false,not_or,List.nodup_nil,not_false_eq_true,and_true]
    exact ⟨⟨q 4 2 (by decide),q 4 3 (by decide),q 4 0 (by decide),q 4 1 (by decide)⟩,⟨q 2 3 (by decide),q 2 0 (by decide),q 2 1 (by decide)⟩,⟨q 3 0 (by decide),q 3 1 (by decide)⟩,q 0 1 (by decide)⟩
   ·simp only [List.mem_cons,List.not_mem_nil,or_false] at hc
    rcases hc with rfl | rfl | rfl | rfl <;> exact Nat.ne_of_lt (Nat.lt_of_lt_of_le lt1 (by first | exact Nat.le_add_right _ _ | exact Nat.le_refl _))
   ·simp only [List.mem_cons,List.not_mem_nil,or_false] at hc
    rcases hc with rfl | rfl | rfl | rfl <;> exact Nat.ne_of_lt (Nat.lt_of_lt_of_le lt2 (by first | exact Nat.le_add_right _ _ | exact Nat.le_refl _))
  obtain ⟨S1,src1,z1⟩:=src_sq (P:=X.prog) (w:=X.w) (K:=X.K) (i:=s1.heap.objs.size) (l:=l1) t
  obtain ⟨S2,src2,z2⟩:=src_sq (P:=X.prog) (w:=X.w) (K:=X.K) (i:=s1.heap.objs.size+1) (l:=l2) t
  have fin:∀ h',IsZip h' (s1.heap.objs.size+4) (s1.heap.objs.size+2) (s1.heap.objs.size+3) .none→IsPair h' (s1.heap.objs.size+2) (.ref s1.heap.objs.size) (.ref (s1.heap.objs.size+1))→IsPair h' (s1.heap.objs.size+3) .none .none →
    S1 0 h'→S2 0 h'→(∀ c o,s1.heap.get? c=some o→h'.get? c=some o)→wpAny (model X.prog X.w) X.A (pyIter (.ref (s1.heap.objs.size+4))) (PIE X pins σ (.Tuple elts kk tpos) R) X.xe { s1 with heap:=h' }:=fun h' y1 y2 y3 y4 y5 y6=>by
   refine wpAny_pyIter_zip y1 ?_
   have I2:Inv X pins σ H1 { s1 with heap:=h' }:=I1.kept (t':=s1.toks) y6
   refine ⟨_,_,_,_,H1,rfl,I2,turn_zip Ap src1 src2,⟨y1,y2,⟨_,_,y3⟩,y4,y5⟩,fun b hb=>?_,q _ _ sm it⟩
   have hb':s1.heap.objs.size≤b:=by
    simp only [List.mem_cons,List.not_mem_nil,or_false] at hb
    rcases hb with rfl | rfl | rfl | rfl | rfl <;> first | exact Nat.le_add_right _ _ | exact Nat.le_refl _
   exact I1.fpOk hb' (I1.hok.fresh hb')
  cases t with
  | true =>
   obtain ⟨its1,_,p1,_⟩:=I1.tuple (SqT.of (show H1 l1=some (.tup xs) from g1))
   obtain ⟨its2,_,p2,_⟩:=I1.tuple (SqT.of (show H1 l2=some (.tup ys) from g2))
   exact zip_tups (show s1.heap.IsTuple l1 its1.toArray from p1) (show s1.heap.IsTuple l2 its2.toArray from p2) fun h' y1 y2 y3 y4 y5 y6=>fin h' y1 y2 y3 (z1 h' (fun _=>y4) fun z=>by cases z) (z2 h' (fun _=>y5) fun z=>by cases z) y6
  | false =>
   obtain ⟨its1,_,p1,_⟩:=I1.list (SqL.of (show H1 l1=some (.lst xs) from g1))
   obtain ⟨its2,_,p2,_⟩:=I1.list (SqL.of (show H1 l2=some (.lst ys) from g2))
   exact call_zip_2 p1.isList p2.isList fun h' y1 y2 y3 y4 y5 y6 y7=>fin h' y1 y2 y3 (z1 h' (fun z=>by cases z) fun _=>y4) (z2 h' (fun z=>by cases z) fun _=>y5) y7
 rcases e with rfl | rfl
 ·obtain ⟨x,y,rfl,⟨l1,xs,rfl,g1,n1,w1⟩,⟨l2,ys,rfl,g2,n2,w2⟩⟩:=args2 r1
  exact main false l1 l2 xs ys rfl g1 g2 (fun _=>n1) (fun _=>n2) w1 w2
 ·obtain ⟨x,y,rfl,⟨l1,xs,rfl,g1,w1⟩,⟨l2,ys,rfl,g2,w2⟩⟩:=args2 r1
  exact main true l1 l2 xs ys rfl g1 g2 (fun z=>by cases z) (fun z=>by cases z) w1 w2
end
end L2
end


noncomputable section
set_option Elab.async false
set_option linter.all false
set_option maxRecDepth 100000
namespace L2
open PySem PySem.Spec PySem.SeqAt PyProof.Rows
section
variable {X:Cx} {C:Cfg} {tg iter a:Expr} {γ:GamB} {ψ ψ':Psi} {ι:PhiI} {body:List Stmt} {st:Stmt} {pos p px:Pos} {νs:PhiNS}
end
theorem rngD_get {lo:Int} {n i:Nat} {d:D} (h:(rngD lo n)[i]?=some d):i < n∧d=.int (lo+i):=by
 unfold rngD at h
 rw [List.getElem?_map] at h
 have hi:i < n:=by
  by_cases hi:i < n
  ·exact hi
  ·rw [List.getElem?_eq_none (by simpa using hi)] at h; cases h
 rw [List.getElem?_range hi] at h
 cases h
 exact ⟨hi,rfl⟩
theorem rngD_len {lo:Int} {n:Nat}:(rngD lo n).length=n:=by unfold rngD; simp
end L2
end

noncomputable section
set_option Elab.async false
set_option linter.all false
set_option maxRecDepth 100000
namespace L2
open PySem PySem.Spec PySem.SeqAt PyProof.Rows
section
variable {X:Cx} {C:Cfg} {tg it1 tg2 it2 elt a:Expr} {ifs ifs2:List Expr} {x y:Str} {scope:Scope} {N':List Str} {lk:List (Option Nat)} {i ih ih' kx:Nat} {ι ι2:PhiI} {γ γ2:Gam} {τ τ2:PhiB} {φ:Phi} {νs:PhiNS} {ν:PhiN} {p pos px tp pos' spos:Pos}
end
structure Df (K:PySem.W.Frag) (mg:Str→Option Value) (x:Str) (st:Stmt) (ps:List Str) (f:Addr) (fd:FuncData):Prop where
 F:Fun K x x st f fd
 b:Binds K fd ps []
 m:mg x=some (.ref f)
end L2
end

noncomputable section
set_option Elab.async false
set_option linter.all false
set_option maxRecDepth 100000
namespace L2
open PySem PySem.Spec PySem.SeqAt PyProof.Rows
structure Bs (mg:Str→Option Value):Prop where
 max:mg "max" = none
 min:mg "min" = none
 int:mg "int" = none
 range:mg "range" = none
 sorted:mg "sorted" = none
 set:mg "set" = none
 len:mg "len" = none
 list:mg "list" = none
theorem flats_kD (ts:List (List Int)):D.flats (ts.map kD)=true:=by
 have fi:∀ k:List Int,D.flats (k.map D.int)=true:=fun k=>by
  induction k with
  | nil=>rfl
  | cons i k ih=>show (D.flat (.int i) && D.flats (k.map D.int))=true; rw [ih]; rfl
 induction ts with
 | nil=>rfl
 | cons t ts ih =>
  show (D.flat (kD t) && D.flats (ts.map kD))=true
  rw [ih]
  show (D.flats (t.map D.int) && true)=true
  rw [fi]
  rfl
end L2
end

noncomputable section
set_option Elab.async false
set_option linter.all false
set_option maxRecDepth 100000
namespace L2
open PySem PySem.Spec PySem.SeqAt PyProof.Rows
theorem snoc_kD {fs:List (List Int)} {t:List Int}:(fs++[t]).map kD=fs.map kD++[kD t]:=by simp
theorem snoc_int {fs:List Int} {t:Int}:(fs++[t]).map D.int=fs.map D.int++[D.int t]:=by simp
theorem sz2 {a b:D}:[a,b].length≤sizeLine:=by show 2≤sizeLine; decide
theorem sz1 {a:D}:[a].length≤sizeLine:=by show 1≤sizeLine; decide
theorem ifT {b:Bool} {p q:Prop} (hb:b=true) (h:p):(if b=true then p else q):=by rw [if_pos hb]; exact h
theorem ifF {b:Bool} {p q:Prop} (hb:b=false) (h:q):(if b=true then p else q):=by rw [hb,if_neg (by simp)]; exact h
theorem ifD {c:Prop} [Decidable c] {p q:Prop} (h1:c→p) (h2:¬ c→q):(if decide c=true then p else q):=by
 by_cases h:c
 ·exact ifT (by simp [h]) (h1 h)
 ·exact ifF (by simp [h]) (h2 h)
theorem ifN {c:Prop} [Decidable c] {p q:Prop} (h1:¬ c→p) (h2:c→q):(if (!decide c)=true then p else q):=by
 by_cases h:c
 ·exact ifF (by simp [h]) (h2 h)
 ·exact ifT (by simp [h]) (h1 h)
theorem pds_map {α:Type} (f:α→D):∀ l:List α,D.pds (l.map f)=l.map fun a=>(f a).pd
 | []=>rfl
 | a::l=>by
  show (f a).pd::D.pds (l.map f)=_
  rw [pds_map f l]
  rfl
theorem all_small {n:Nat}:∀ {xs:List PyData},(∀ x ∈ xs,x.canLay0=true∧x.depth≤n)→PyData.canLayAll0 xs=true∧PyData.depthAll xs≤n
 | [],_=>⟨by simp [PyData.canLayAll0],by simp [PyData.depthAll]⟩
 | x::xs,h=>by
  obtain ⟨h1,h2⟩:=all_small (n:=n) (xs:=xs) fun y hy=>h y (by simp [hy])
  obtain ⟨g1,g2⟩:=h x (by simp)
  refine ⟨by simp [PyData.canLayAll0,h1,g1],?_⟩
  simp only [PyData.depthAll]
  lia
theorem small_tup {n:Nat} {ds:List D} (h:∀ d ∈ ds,d.pd.canLay0=true∧d.pd.depth≤n):(D.tup ds).pd.canLay0=true∧(D.tup ds).pd.depth≤n+1:=by
 have e:D.pds ds=ds.map fun d=>d.pd:=by
  have:=pds_map (fun d:D=>d) ds
  simpa using this
 obtain ⟨h1,h2⟩:=all_small (n:=n) (xs:=D.pds ds) fun x hx=>by
  rw [e] at hx
  obtain ⟨d,hd,rfl⟩:=List.mem_map.mp hx
  exact h d hd
 refine ⟨by simpa [D.pd,PyData.canLay0] using h1,?_⟩
 have:(D.tup ds).pd.depth=PyData.depthAll (D.pds ds)+1:=by simp [D.pd,PyData.depth]
 lia
theorem small_lst {n:Nat} {ds:List D} (h:∀ d ∈ ds,d.pd.canLay0=true∧d.pd.depth≤n):(D.lst ds).pd.canLay0=true∧(D.lst ds).pd.depth≤n+1:=by
 have e:D.pds ds=ds.map fun d=>d.pd:=by
  have:=pds_map (fun d:D=>d) ds
  simpa using this
 obtain ⟨h1,h2⟩:=all_small (n:=n) (xs:=D.pds ds) fun x hx=>by
  rw [e] at hx
  obtain ⟨d,hd,rfl⟩:=List.mem_map.mp hx
  exact h d hd
 refine ⟨by simpa [D.pd,PyData.canLay0] using h1,?_⟩
 have:(D.lst ds).pd.depth=PyData.depthAll (D.pds ds)+1:=by simp [D.pd,PyData.depth]
 lia
theorem small_int (i:Int):(D.int i).pd.canLay0=true∧(D.int i).pd.depth≤1:=⟨by simp [D.pd,PyData.canLay0],by simp [D.pd,PyData.depth]⟩
theorem small_non:D.non.pd.canLay0=true∧D.non.pd.depth≤1:=⟨by simp [D.pd,PyData.canLay0],by simp [D.pd,PyData.depth]⟩
theorem small_bl (b:Bool):(D.bl b).pd.canLay0=true∧(D.bl b).pd.depth≤1:=⟨by simp [D.pd,PyData.canLay0],by simp [D.pd,PyData.depth]⟩
theorem small_kD (t:List Int):(kD t).pd.canLay0=true∧(kD t).pd.depth≤2:=small_tup fun d hd=>by
 obtain ⟨i,_,rfl⟩:=List.mem_map.mp hd
 exact small_int i
theorem small_ties (ts:List (List Int)):(D.lst (ts.map kD)).pd.canLay0=true∧(D.lst (ts.map kD)).pd.depth≤3:=small_lst fun d hd=>by
 obtain ⟨i,_,rfl⟩:=List.mem_map.mp hd
 exact small_kD i
theorem small_ints (ts:List Int):(D.lst (ts.map D.int)).pd.canLay0=true∧(D.lst (ts.map D.int)).pd.depth≤2:=small_lst fun d hd=>by
 obtain ⟨i,_,rfl⟩:=List.mem_map.mp hd
 exact small_int i
theorem shp_of {d:D} {n:Nat} (h:d.pd.canLay0=true∧d.pd.depth≤n) (hn:n≤64:=by decide):d.shp=true:=by
 show (d.pd.canLay0 && decide (d.pd.depth≤64))=true
 rw [h.1,decide_eq_true (by lia)]
 rfl
theorem eqvAll_map {α:Type} [DecidableEq α] {f:α→PyData} (hf:∀ a b,PyData.eqv (f a) (f b)=decide (a=b)):∀ xs ys:List α,PyData.eqvAll (xs.map f) (ys.map f)=decide (xs=ys)
 | [],[]=>by simp [PyData.eqvAll]
 | [],_::_=>by simp [PyData.eqvAll]
 | _::_,[]=>by simp [PyData.eqvAll]
 | x::xs,y::ys=>by
  simp only [List.map_cons,PyData.eqvAll]
  rw [hf,eqvAll_map hf xs ys]
  by_cases h1:x=y
  ·by_cases h2:xs=ys <;> simp [h1,h2]
  ·simp [h1]
theorem eqv_int (i j:Int):PyData.eqv (D.int i).pd (D.int j).pd=decide (i=j):=by
 simp only [D.pd,PyData.eqv]
 by_cases h:i=j <;> simp [h]
theorem eqv_kD (t u:List Int):PyData.eqv (kD t).pd (kD u).pd=decide (t=u):=by
 show PyData.eqv (.tuple (D.pds (t.map D.int))) (.tuple (D.pds (u.map D.int)))=_
 rw [pds_map,pds_map]
 simp only [PyData.eqv]
 exact eqvAll_map eqv_int t u
theorem eqv_ties (ts us:List (List Int)):PyData.eqv (D.lst (ts.map kD)).pd (D.lst (us.map kD)).pd=decide (ts=us):=by
 show PyData.eqv (.list (D.pds (ts.map kD))) (.list (D.pds (us.map kD)))=_
 rw [pds_map,pds_map]
 simp only [PyData.eqv]
 exact eqvAll_map eqv_kD ts us
theorem dEq_of {a b:D} {c:Bool} (h1:a.shp=true) (h2:b.shp=true) (e:PyData.eqv a.pd b.pd=c):dEq a b=some (.bl c):=by
 unfold dEq
 rw [if_pos ⟨h1,h2⟩,e]
theorem dNe_of {a b:D} {c:Bool} (h1:a.shp=true) (h2:b.shp=true) (e:PyData.eqv a.pd b.pd=c):dNe a b=some (.bl (!c)):=by
 unfold dNe
 rw [if_pos ⟨h1,h2⟩,e]
theorem dEq_int (i j:Int):dEq (.int i) (.int j)=some (.bl (decide (i=j))):=dEq_of (shp_of (small_int i)) (shp_of (small_int j)) (eqv_int i j)
theorem dNe_ties (ts us:List (List Int)):dNe (.lst (ts.map kD)) (.lst (us.map kD))=some (.bl (!decide (ts=us))):=dNe_of (shp_of (small_ties ts)) (shp_of (small_ties us)) (eqv_ties ts us)
end L2
end

noncomputable section
set_option Elab.async false
set_option linter.all false
set_option maxRecDepth 100000
namespace L2
open PySem PySem.Spec PySem.SeqAt PyProof.Rows
theorem atN {α:Type} {ds:List α} {i:Nat} {d:α} (h:ds[i]?=some d):atI ds (i:Int)=some d:=by
 have hl:i < ds.length:=(List.getElem?_eq_some_iff.mp h).1
 unfold atI ixN
 rw [if_pos (by lia),if_pos (by lia),Int.toNat_natCast]
 exact h
theorem atI_of {α:Type} {ds:List α} {i:Int} (h0:0≤i) (h1:i < ds.length):∃ d ∈ ds,atI ds i=some d∧ds[i.toNat]?=some d:=by
 have hl:i.toNat < ds.length:=by lia
 refine ⟨ds[i.toNat],List.getElem_mem hl,?_,List.getElem?_eq_getElem hl⟩
 have:=atN (ds:=ds) (i:=i.toNat) (List.getElem?_eq_getElem hl)
 rwa [show ((i.toNat:Nat):Int)=i by lia] at this
theorem dIx_lst {ds:List D} {i:Nat} {d:D} (h:ds[i]?=some d):dIx (.lst ds) (.int (i:Int))=some d:=atN h
theorem pick {ds:List D} {r:Int} {p:D→Prop} (h0:0≤r) (h1:r < ds.length) (h:∀ d ∈ ds,p d):∃ d,dIx (.lst ds) (.int r)=some d∧p d:=by
 obtain ⟨d,hd,e,_⟩:=atI_of h0 h1
 exact ⟨d,e,h d hd⟩
end L2
namespace L2
open PySem PySem.Spec PySem.SeqAt PyProof.Rows
end L2
end

noncomputable section
set_option Elab.async false
set_option linter.all false
set_option maxRecDepth 100000
namespace L2
open PySem PySem.Spec PySem.SeqAt PyProof.Rows
def tyD:D→Option String
 | .non=>some "NoneType"
 | .bl _=>some "bool"
 | .int _=>some "int"
 | .str _=>some "str"
 | .tup _=>some "tuple"
 | .lst _=>some "list"
 | _=>none
section
variable {X:Cx} {W:Addr→Prop} {H:Hp} {pins:List (Addr × Obj)} {σ:St} {s:Shared}
theorem Rp.ty {d:D} {v:V} {T:String} (h:Rp X W H d v) (e:tyD d=some T):TyOf X.K H v (.type T):=by
 cases d with
 | non=>cases h; cases e; exact .non
 | bl b=>cases h; cases e; exact .bl _
 | int b=>cases h; cases e; exact .int _
 | str b=>cases h; cases e; exact .str _
 | tup ds=>obtain ⟨a,vs,rfl,h1,_⟩:=h; cases e; exact .tup h1
 | lst ds=>obtain ⟨a,vs,rfl,h1,_⟩:=h; cases e; exact .lst h1
 | _=>cases e
theorem call_isi2:CallR X (.builtin "isinstance") (fun xs H Q=>∃ x p n1 n2 T k,xs=[x,.ref p]∧H p=some (.tup [.ty n1,.ty n2])∧TyOf X.K H x (.type T)∧PySem.W.kitAny X.K (.type T) [.type n1,.type n2]=some k∧Q (.bl k) H):=by
 intro pins s σ H xs us Q I r h
 obtain ⟨x,p,n1,n2,T,k,rfl,hp,ty,e,q⟩:=h
 obtain ⟨u,w',rfl,r1,r2⟩:=vals2 r
 cases (show w'=Value.ref p from r2)
 obtain ⟨_,its,rv,o,ho,hc,n,hd⟩:=(show ObjOk X.prog X.w H s.heap p (.tup [.ty n1,.ty n2]) from I.hok p _ hp)
 obtain ⟨u1,u2,rfl,e1,e2⟩:∃ u1 u2,its=[u1,u2]∧RelV (.ty n1) u1∧RelV (.ty n2) u2:=by
  cases rv with
  | cons a rr=>cases rr with
   | cons b rr=>cases rr; exact ⟨_,_,rfl,a,b⟩
 cases (show u1=Value.type n1 from e1)
 cases (show u2=Value.type n2 from e2)
 obtain ⟨c,dd,dt,sl⟩:=o
 simp only at hc hd
 subst hc hd
 have fin:∀ tk,EP X pins σ Q (.bool k) { s with toks:=tk }:=fun tk=>⟨.bl k,H,I.tok _,rfl,q⟩
 cases ty with
 | non=>cases (show u=Value.none from r1); exact PySem.W.kia_tup PySem.W.kitx_none I.kIn True.intro ho e (fun z=>nomatch z) fin
 | bl y=>cases (show u=Value.bool y from r1); exact PySem.W.kia_tup PySem.W.kitx_bool I.kIn True.intro ho e (fun z=>nomatch z) fin
 | int i=>obtain ⟨t,q⟩:=(show ∃ t,u=Value.int i t from r1); cases q; exact PySem.W.kia_tup PySem.W.kitx_int I.kIn True.intro ho e (fun z=>nomatch z) fin
 | str y=>obtain ⟨t,q⟩:=(show ∃ t,u=Value.str y t from r1); cases q; exact PySem.W.kia_tup PySem.W.kitx_str I.kIn True.intro ho e (fun z=>nomatch z) fin
 | flt y=>obtain ⟨t,q⟩:=(show ∃ t,u=Value.float y t from r1); cases q; exact PySem.W.kia_tup PySem.W.kitx_float I.kIn True.intro ho e (fun z=>nomatch z) fin
 | @lst a xs ea =>
  cases (show u=Value.ref a from r1)
  obtain ⟨_,_,n,_,h1⟩:=(show ObjOk X.prog X.w H s.heap a (.lst xs) from I.hok a _ ea)
  exact PySem.W.kia_tup PySem.W.kitx_list I.kIn ⟨_,h1,rfl⟩ ho e (fun z=>nomatch z) fin
 | @frz a ob xs ea =>
  cases (show u=Value.ref a from r1)
  obtain ⟨_,_,_,n,_,h1⟩:=(show ObjOk X.prog X.w H s.heap a (.frz ob (.lst xs)) from I.hok a _ ea)
  exact PySem.W.kia_tup PySem.W.kitx_list I.kIn ⟨_,h1,rfl⟩ ho e (fun z=>nomatch z) fin
 | @tup a xs ea =>
  cases (show u=Value.ref a from r1)
  obtain ⟨_,_,_,p⟩:=(show ObjOk X.prog X.w H s.heap a (.tup xs) from I.hok a _ ea)
  obtain ⟨o,h1,h2,_⟩:=p
  exact PySem.W.kia_tup PySem.W.kitx_tuple I.kIn ⟨o,h1,h2⟩ ho e (fun z=>nomatch z) fin
 | @dK a kvs ea =>
  cases (show u=Value.ref a from r1)
  obtain ⟨_,_,vs,_,p⟩:=(show ObjOk X.prog X.w H s.heap a (.dK kvs) from I.hok a _ ea)
  obtain ⟨o,es,ep,h1,h2,_⟩:=p
  exact PySem.W.kia_tup PySem.W.kitx_dict I.kIn ⟨o,h1,h2.1⟩ ho e (fun z=>nomatch z) fin
 | @dT a kvs ea =>
  cases (show u=Value.ref a from r1)
  obtain ⟨_,_,xs,_,o,es,ep,h1,h2,_⟩:=(show ObjOk X.prog X.w H s.heap a (.dT kvs) from I.hok a _ ea)
  exact PySem.W.kia_tup PySem.W.kitx_dict I.kIn ⟨o,h1,h2.1⟩ ho e (fun z=>nomatch z) fin
end
section
variable {X:Cx} {a:Expr} {φ:Phi} {T T2:Str} {n n2:String} {p p2 p3 tp pos:Pos} {x1:Nat}
theorem pv_isi1 (hm:X.mg "isinstance" = none) (ha:PV X a φ) (hT:X.mg T=none) (bT:bootBuiltins T=some (.type n)) (hg:Gl X "isinstance" := by rfl) (hgT:Gl X T:=by rfl) (hnT:T≠"__name__" := by decide) (hdT:(T == ("__debug__" : Str))=false:=by decide)
  (hsp:starEach [a,.Name T p2] X.env=(false,eval a X.env)::starEach [.Name T p2] X.env:=by rfl) (hsp2:starEach [.Name T p2] X.env=(false,eval (.Name T p2) X.env)::starEach [] X.env:=by rfl) (hpl:(backTo pos (starEach [.Name T p2] X.env)).any (·.1)=false:=by rfl) :
  PV X (.Call (.Name "isinstance" p) [a,.Name T p2] [] pos) (fun ρ R=>φ ρ fun d=>∃ t k,tyD d=some t∧PySem.W.kitOne X.K (.type t) (.type n)=some k∧R (.bl k)) :=
 ⟨fun ρ R R' k h=>ha.mono ρ _ _ (fun d ⟨t,b,h1,h2,q⟩=>⟨t,b,h1,h2,k _ q⟩) h,
  (pe_callB call_isi hg hm bt_isi (pa_cons ha.pe (pa_cons (pe_bltn (v:=.ty n) hgT hT bT rfl hnT hdT) pa_nil hsp2) hsp) (he:=hsp) (hpl:=hpl)).pre fun σ H Q ⟨W,ρ,se,h⟩=>tD.of ha se h fun d v H1 ⟨t,k,h1,h2,q⟩ s1 r1 =>
    ⟨v,n,_,k,rfl,r1.ty h1,h2,q _ H1 s1 rfl⟩⟩
theorem pv_isi2 (hm:X.mg "isinstance" = none) (ha:PV X a φ) (hT:X.mg T=none) (bT:bootBuiltins T=some (.type n)) (hT2:X.mg T2=none) (bT2:bootBuiltins T2=some (.type n2)) (hg:Gl X "isinstance" := by rfl) (hgT:Gl X T:=by rfl) (hnT:T≠"__name__" := by decide) (hdT:(T == ("__debug__" : Str))=false:=by decide) (hgT2:Gl X T2:=by rfl) (hnT2:T2≠"__name__" := by decide) (hdT2:(T2 == ("__debug__" : Str))=false:=by decide)
  (hsp:starEach [a,.Tuple [.Name T p2,.Name T2 p3] x1 tp] X.env=(false,eval a X.env)::starEach [.Tuple [.Name T p2,.Name T2 p3] x1 tp] X.env:=by rfl) (hsp2:starEach [.Tuple [.Name T p2,.Name T2 p3] x1 tp] X.env=(false,eval (.Tuple [.Name T p2,.Name T2 p3] x1 tp) X.env)::starEach [] X.env:=by rfl) (hpl:(backTo pos (starEach [.Tuple [.Name T p2,.Name T2 p3] x1 tp] X.env)).any (·.1)=false:=by rfl)
  (hq1:starEach [.Name T p2,.Name T2 p3] X.env=(false,eval (.Name T p2) X.env)::starEach [.Name T2 p3] X.env:=by rfl) (hq2:starEach [.Name T2 p3] X.env=(false,eval (.Name T2 p3) X.env)::starEach [] X.env:=by rfl) :
  PV X (.Call (.Name "isinstance" p) [a,.Tuple [.Name T p2,.Name T2 p3] x1 tp] [] pos) (fun ρ R=>φ ρ fun d=>∃ t k,tyD d=some t∧PySem.W.kitAny X.K (.type t) [.type n,.type n2]=some k∧R (.bl k)) :=
 ⟨fun ρ R R' k h=>ha.mono ρ _ _ (fun d ⟨t,b,h1,h2,q⟩=>⟨t,b,h1,h2,k _ q⟩) h,
  (pe_callB call_isi2 hg hm bt_isi (pa_cons ha.pe (pa_cons (pe_tup (pa_cons (pe_bltn (v:=.ty n) hgT hT bT rfl hnT hdT) (pa_cons (pe_bltn (v:=.ty n2) hgT2 hT2 bT2 rfl hnT2 hdT2) pa_nil hq2) hq1)) pa_nil hsp2) hsp) (he:=hsp) (hpl:=hpl)).pre fun σ H Q ⟨W,ρ,se,h⟩=>tD.of ha se h fun d v H1 ⟨t,k,h1,h2,q⟩ s1 r1 =>
    ⟨by show 2≤sizeLine; decide,fun p hp=>⟨v,p,n,n2,t,k,rfl,upd_same,Rp.ty (X:=X) (r1.same (Same.new hp)) h1,h2,q _ _ (s1.trans (Same.new hp)) rfl⟩⟩⟩
end
theorem kit_ll {K:PySem.W.Frag}:PySem.W.kitOne K (.type "list") (.type "list")=some true:=rfl
theorem kit_tl {K:PySem.W.Frag}:PySem.W.kitOne K (.type "tuple") (.type "list")=some false:=rfl
theorem kit_is {K:PySem.W.Frag}:PySem.W.kitOne K (.type "int") (.type "str")=some false:=rfl
theorem kit_ss {K:PySem.W.Frag}:PySem.W.kitOne K (.type "str") (.type "str")=some true:=rfl
theorem kit_ii {K:PySem.W.Frag}:PySem.W.kitOne K (.type "int") (.type "int")=some true:=rfl
theorem kit_ib {K:PySem.W.Frag}:PySem.W.kitOne K (.type "int") (.type "bool")=some false:=rfl
theorem kit_ilt {K:PySem.W.Frag}:PySem.W.kitAny K (.type "int") [.type "list",.type "tuple"]=some false:=rfl
theorem kit_slt {K:PySem.W.Frag}:PySem.W.kitAny K (.type "str") [.type "list",.type "tuple"]=some false:=rfl
theorem kit_nlt {K:PySem.W.Frag}:PySem.W.kitAny K (.type "NoneType") [.type "list",.type "tuple"]=some false:=rfl
theorem kit_tlt {K:PySem.W.Frag}:PySem.W.kitAny K (.type "tuple") [.type "list",.type "tuple"]=some true:=rfl
theorem kit_llt {K:PySem.W.Frag}:PySem.W.kitAny K (.type "list") [.type "list",.type "tuple"]=some true:=rfl
end L2
end


noncomputable section
set_option Elab.async false
set_option linter.all false
set_option maxRecDepth 100000
namespace HT
open PySem PySem.Spec PyProof.Rows
theorem fm_congr {α β:Type} {f g:α→Option β}:∀ {l:List α},(∀ x ∈ l,f x=g x)→l.filterMap f=l.filterMap g
 | [],_=>rfl
 | x::l,h=>by
  rw [List.filterMap_cons,List.filterMap_cons,h x (by simp),fm_congr fun y hy=>h y (by simp [hy])]
theorem rev_pick {α:Type} (xs:List α):((List.range xs.length).filterMap fun k=>xs[xs.length - 1 - k]?)=xs.reverse:=by
 have h:=pick_run xs.reverse.toArray 0 xs.length
 rw [List.filterMap_map] at h
 have e:((List.range xs.length).filterMap fun k=>xs[xs.length - 1 - k]?)=(List.range xs.length).filterMap ((fun x=>xs.reverse.toArray[x]?) ∘ fun x=>0+x):=by
  refine fm_congr fun k hk=>?_
  have hk':=List.mem_range.mp hk
  show _=xs.reverse.toArray[0+k]?
  rw [List.getElem?_toArray,Nat.zero_add,List.getElem?_reverse hk']
 rw [e,h]
 simp only [List.drop_zero]
 exact List.take_of_length_le (by simp)
theorem slicePick_rev (items:Array Value):slicePick items none none (some (-1))=items.toList.reverse.toArray:=by
 have e:(sliceRange (sliceBounds none none (some (-1)) items.size).1 (sliceBounds none none (some (-1)) items.size).2.1 (sliceBounds none none (some (-1)) items.size).2.2)=(List.range items.size).map fun k=>items.size - 1 - k:=by
  show sliceRange ((items.size:Int) - 1) (-1) (-1)=_
  unfold sliceRange
  have c:(if (-1:Int) > 0 then (if (items.size:Int) - 1 < -1 then ((-1) - ((items.size:Int) - 1)+-1 - 1) / -1 else 0) else (if (items.size:Int) - 1 > -1 then ((items.size:Int) - 1 - (-1) - (-1) - 1) / (-(-1)) else 0)).toNat=items.size:=by
   rw [if_neg (by lia)]
   split
   ·rw [show (-(-1):Int)=1 by rfl,Int.ediv_one]; lia
   ·lia
  simp only [c]
  refine List.map_congr_left fun k hk=>?_
  have:=List.mem_range.mp hk
  lia
 unfold slicePick
 rw [e,List.filterMap_map]
 congr 1
 have:=rev_pick items.toList
 rw [Array.length_toList] at this
 rw [← this]
 refine fm_congr fun k hk=>?_
 show items[items.size - 1 - k]?=_
 rw [Array.getElem?_toList]
section
variable {prog:Program} {w:World} {A:Around} {E:Value→Shared→Prop} {s:Shared}
theorem sliceApplied_rev {sl:Addr} {n:Nat} {t:Tok} {Q:Int × Int × Nat→Shared→Prop} (hs:s.heap.IsSliceOf sl .none .none (.int (-1) t))
  (h:Q ((n:Int) - 1,-1,n) s):wpAny (model prog w) A (Builtin.Slice.sliceApplied (.ref sl) (pure (n:Int))) Q E s:=by
 obtain ⟨os,hos,hcs,hds⟩:=id hs
 unfold Builtin.Slice.sliceApplied Builtin.Slice.sliceFields
 refine wpAny_bind (wpAny_bind (wpAny_field hos hds (x:=.none) rfl (wpAny_bind (wpAny_field hos hds (x:=.none) rfl (wpAny_bind (wpAny_field hos hds (x:=.int (-1) t) rfl (wpAny_pure ?_)))))))
 refine wpAny_bind (slicePart_int ?_)
 show wpAny _ _ (if ((-1:Int) == 0)=true then _ else _) _ _ s
 rw [if_neg (by decide)]
 refine wpAny_bind (slicePart_none (wpAny_bind (slicePart_none (wpAny_bind (wpAny_pure ?_)))))
 show wpAny _ _ (match Builtin.Slice.sliceAdjust none none (-1) (n:Int) with | (lo,hi)=>pure (lo,(-1:Int),Builtin.Slice.slicePlaces lo hi (-1))) _ _ s
 have e1:Builtin.Slice.sliceAdjust none none (-1) (n:Int)=((n:Int) - 1,-1):=by
  unfold Builtin.Slice.sliceAdjust
  simp
 rw [e1]
 show wpAny _ _ (pure ((n:Int) - 1,(-1:Int),Builtin.Slice.slicePlaces ((n:Int) - 1) (-1) (-1))) _ _ s
 have e2:Builtin.Slice.slicePlaces ((n:Int) - 1) (-1) (-1)=n:=by
  unfold Builtin.Slice.slicePlaces
  rw [if_neg (by lia)]
  split
  ·simp
  ·lia
 rw [e2]
 exact wpAny_pure h
theorem getItem_tuple_rev {t sl:Addr} {items:Array Value} {tk:Tok} {Q:Value→Shared→Prop} (ht:IsTup s.heap t items) (hs:s.heap.IsSliceOf sl .none .none (.int (-1) tk))
  (h:Q (.ref s.heap.objs.size) { s with heap:=s.heap.push { cls:=.type "tuple",data:=.seq items.toList.reverse.toArray } })
  (hsz:items.size≤sizeLine):wpAny (model prog w) A (getItem (.ref t) (.ref sl)) Q E s:=by
 have htake:sizeOk (.seq items.toList.reverse.toArray):=by
  show items.toList.reverse.toArray.size≤sizeLine
  rw [List.size_toArray,List.length_reverse,Array.length_toList]
  exact hsz
 obtain ⟨os,hos,hcs,hds⟩:=id hs
 have hTs:s.TypeIs (.ref sl) "slice" := ⟨os,hos,hcs⟩
 unfold getItem
 try with_reducible refine wpAny_holding ?_
 first | refine wpAny_bind (wpAny_pure ?_) | skip
 refine wpAny_bind (wpAny_sequenceKey ht.typeIs (by decide) ?_)
 refine wpAny_bind (wpAny_callSpecial?_slot (name:=Str.ofString "__getitem__") ht.typeIs PyProof.Rows.slot_tuple_getitem
  (wpAny_call_entry PyProof.Rows.slot_tuple_getitem ht.typeIs entry_tuple_getitem ?_ (args_tuple_getitem _ _)))
 show wpAny _ _ (Builtin.Tuple.tupleItemsOf (.ref t) >>= _) _ _ s
 refine wpAny_bind (tupleItemsOf_ ht ?_)
 refine wpAny_bind (wpAny_typeOf hTs ?_)
 rw [if_pos (by decide)]
 refine wpAny_bind (sliceApplied_rev hs ?_)
 show wpAny _ _ (if (((items.size:Int) - 1) == 0 && (-1:Int) == 1 && items.size == items.size)=true then _ else _) _ _ s
 rw [if_neg (by simp)]
 have ep:((List.range items.size).filterMap fun (m:Nat)=>items[(((items.size:Int) - 1)+(m:Int) * (-1)).toNat]?).toArray=items.toList.reverse.toArray:=by
  congr 1
  have:=rev_pick items.toList
  rw [Array.length_toList] at this
  rw [← this]
  refine fm_congr fun k hk=>?_
  have hk':=List.mem_range.mp hk
  rw [Array.getElem?_toList,show (((items.size:Int) - 1)+(k:Int) * (-1)).toNat=items.size - 1 - k by lia]
 rw [ep]
 first
  | exact wpAny_bind (m:=Builtin.Tuple.tupleExact _) (wpAny_newObj_type (wpAny_pure ⟨_,rfl,wpAny_pure h⟩) htake)
  | exact wpAny_bind (m:=Builtin.Tuple.tupleExact _) (wpAny_newObj_type (wpAny_bind (wpAny_pure (wpAny_pure ⟨_,rfl,wpAny_pure h⟩))) htake)
  | exact wpAny_bind (wpAny_bind (m:=Builtin.Tuple.tupleExact _) (wpAny_newObj_type (wpAny_pure (wpAny_pure ⟨_,rfl,wpAny_pure h⟩)) htake))
  | exact wpAny_bind (wpAny_bind (m:=Builtin.Tuple.tupleExact _) (wpAny_newObj_type (wpAny_pure ⟨_,rfl,wpAny_pure h⟩) htake))
end
end HT
namespace L2
open PySem PySem.Spec PySem.SeqAt PyProof.Rows
def dRev:D→Option D
 | .lst ds=>some (.lst ds.reverse)
 | .tup ds=>some (.tup ds.reverse)
 | _=>none
theorem RepDs.rev {P:Program} {w:World} {W:Addr→Prop} {H:Hp}:∀ {ds:List D} {vs:List V},RepDs P w W H ds vs→RepDs P w W H ds.reverse vs.reverse
 | [],_,h=>by rw [show _=[] from h]; rfl
 | d::ds,_,⟨v,r,e,h1,h2⟩=>by
  subst e
  rw [List.reverse_cons,List.reverse_cons]
  exact (RepDs.rev h2).append (.one h1)
theorem Vals.rev:∀ {xs:List V} {us:List Value},Vals xs us→Vals xs.reverse us.reverse
 | _,_,.nil=>.nil
 | _,_,.cons r t=>by
  rw [List.reverse_cons,List.reverse_cons]
  exact (Vals.rev t).append (.cons r .nil)
section
variable {X:Cx} {e st:Expr} {φ:Phi} {pos p2 p3 p4:Pos} {j:Nat}
theorem pe_rev {te:TE} (he:PE X e te):PE X (.Subscript e (.Slice none none (some (.UnaryOp .USub (.Constant (.int 1) j p3) p4)) p2) pos) (fun σ H Q=>te σ H fun x H1=>(∃ a xs,x=.ref a∧H1 a=some (.lst xs)∧∀ p,H1 p=none→Q (.ref p) (upd H1 p (.lst xs.reverse)))∨(∃ a xs,x=.ref a∧H1 a=some (.tup xs)∧∀ p,H1 p=none→Q (.ref p) (upd H1 p (.tup xs.reverse)))):=by
 intro pins s σ H Q I h
 refine Subscript_ (thn (he pins s σ H _ I h) fun v s1 ⟨x,H1,I1,r1,q1⟩=>?_)
 refine wpAny_Slice ?_
 rw [evalPart_none]
 refine wpAny_pure (wpAny_pure ?_)
 rw [evalPart_some]
 refine thn (pe_un (X:=X) (pos:=p4) un_neg (pe_int (i:=1) (j:=j) (pos:=p3)) pins s1 σ H1 (fun v H'=>v=.int (-1)∧H'=H1) I1 ⟨1,rfl,rfl,rfl⟩) fun u s3 ⟨y,H3,I3,r3,ey,eH⟩=>?_
 subst ey eH
 obtain ⟨tk,rfl⟩:=(show ∃ t,u=Value.int (-1) t from r3)
 have I4:Inv X pins σ H3 { s3 with heap:=s3.heap.push { cls:=.type "slice",data:=.fields #[.none,.none,.int (-1) tk] } }:=I3.kept (t':=s3.toks) fun b ob q=>Heap.get?_push_of_some _ q
 have hsl:(s3.heap.push { cls:=.type "slice",data:=.fields #[.none,.none,.int (-1) tk] }).IsSliceOf s3.heap.objs.size .none .none (.int (-1) tk):=Heap.IsSliceOf.new ..
 generalize hs4:({ s3 with heap:=s3.heap.push { cls:=.type "slice",data:=.fields #[.none,.none,.int (-1) tk] } }:Shared)=s4 at I4 ⊢
 have hsl4:s4.heap.IsSliceOf s3.heap.objs.size .none .none (.int (-1) tk):=by rw [← hs4]; exact hsl
 have main:∃ T id,typeLookup (.type T) "__getitem__" = pure (some (.builtin id))∧s4.TypeIs v T∧wpAny (model X.prog X.w) X.A (getItem v (.ref s3.heap.objs.size)) (EP X pins σ Q) X.xe s4:=by
  rcases q1 with ⟨a,xs,rfl,hx,q⟩ | ⟨a,xs,rfl,hx,q⟩
  ·cases (show v=Value.ref a from r1)
   obtain ⟨its,r,ht,hz⟩:=I4.list (SqL.of hx)
   have hlen:=r.length
   refine ⟨"list",_,slot_list_getitem.lookup,ht.isList.typeIs,?_⟩
   refine wpAny_getItem_list_slice ht.isList hsl4 .none .none (.int (-1) tk) (by simp) ?_ (by rw [List.size_toArray] <;> lia)
   rw [HT.slicePick_rev]
   refine ⟨.ref s4.heap.objs.size,_,I4.laid (t':=s4.toks) (o:=.lst xs.reverse) (fun b ob q=>Heap.get?_push_of_some _ q) (Nat.le_refl _) ?_,rfl,q _ (I4.hok.fresh (Nat.le_refl _))⟩
   exact ⟨by rw [List.length_reverse]; lia,_,0,by simpa using Vals.rev r,Heap.get?_push_size _ rfl⟩
  ·cases (show v=Value.ref a from r1)
   obtain ⟨its,r,ht,hz⟩:=I4.tuple (SqT.of hx)
   have hlen:=r.length
   refine ⟨"tuple",_,PyProof.Rows.slot_tuple_getitem.lookup,ht.typeIs,?_⟩
   refine HT.getItem_tuple_rev ht hsl4 ?_ (by rw [List.size_toArray] <;> lia)
   refine ⟨.ref s4.heap.objs.size,_,I4.laid (t':=s4.toks) (o:=.tup xs.reverse) (fun b ob q=>Heap.get?_push_of_some _ q) (Nat.le_refl _) ?_,rfl,q _ (I4.hok.fresh (Nat.le_refl _))⟩
   exact ⟨by rw [List.length_reverse]; lia,_,by simpa using Vals.rev r,IsTup.new _ _⟩
 obtain ⟨T,id,hT,ht,hg⟩:=main
 show wpAny (model X.prog X.w) X.A (subscriptTail e (.Slice none none (some (.UnaryOp .USub (.Constant (.int 1) j p3) p4)) p2) v (.ref s3.heap.objs.size)) (EP X pins σ Q) X.xe s4
 exact tail_any (ops:=[v,.ref s3.heap.objs.size]) ht hT hg (by with_unfolding_all rfl)
end
end L2
end

noncomputable section
set_option Elab.async false
set_option linter.all false
set_option maxRecDepth 100000
namespace L2.Q
open PySem PySem.Spec PySem.SeqAt PyProof.Rows
def allB (β:Bet):Rho:=β.map fun b=>match b with | some (.val _ d)=>some d | some (.own d)=>some d | _=>none
def valB (β:Bet):Rho:=β.map fun b=>match b with | some (.val _ d)=>some d | _=>none
section
variable {P:Program} {w:World} {C:Cfg} {σ:St} {H H':Hp} {β:Bet} {own:Nat→List Addr} {i:Nat}
theorem SQ'.seeA (s:SQ' P w C σ H β own):SE' P w (fun _=>False) σ H (allB β):=⟨fun a z=>z.elim,fun i d e=>by
 unfold allB at e
 rw [List.getElem?_map] at e
 cases q:β[i]? with
 | none=>rw [q] at e; cases e
 | some x =>
  rw [q] at e
  cases x with
  | none=>cases e
  | some x =>
   cases x with
   | val y d'=>cases e; obtain ⟨v,h1,h2⟩:=s.val i y d q; exact ⟨v,h1,h2.anti fun _ z=>z.elim⟩
   | own d'=>cases e; obtain ⟨v,h1,h2,_⟩:=s.ow i d q; exact ⟨v,h1,h2.rep fun _ _ z=>z⟩
   | hand ok=>cases e
   | shl y d=>cases e⟩
theorem SQ'.seeV (s:SQ' P w C σ H β own):SE' P w (av C (Wn own) .old) σ H (valB β):=⟨s.dmK .old,fun i d e=>by
 unfold valB at e
 rw [List.getElem?_map] at e
 cases q:β[i]? with
 | none=>rw [q] at e; cases e
 | some x =>
  rw [q] at e
  cases x with
  | none=>cases e
  | some x =>
   cases x with
   | val y d'=>cases e; obtain ⟨v,h1,h2⟩:=s.val i y d q; exact ⟨v,h1,h2.anti fun a z=>by cases y <;> first | exact .inl z | exact .inl (.inl z)⟩
   | own d'=>cases e
   | hand ok=>cases e
   | shl y d=>cases e⟩
end
section
variable {X:Cx} {C:Cfg} {e tg it:Expr} {φ:Phi} {ι:PhiI}
theorem pq_old (h:PV X e φ):PQ X C true e (fun β R=>φ (allB β) fun d=>d.flat=true∧R d .own β) :=
 ⟨fun β R R' k q=>h.mono _ _ _ (fun d q=>⟨q.1,k _ _ _ q.2⟩) q,h.pe.pre fun σ H Q hq1=>by obtain ⟨β,own,s,q⟩:=hq1; exact tD.of h s.seeA q fun d v H1 hq2 s1 r1=>by obtain ⟨f,q⟩:=hq2; exact q v H1 own ((Out.refl s true).same s1) (KV.flat f r1)⟩
theorem pqi_old (h:PVI X tg it ι):PQI X C true tg it (fun β R=>ι (valB β) fun ds=>R ds .old β) :=
 ⟨fun β R R' k q=>h.mono _ _ _ (fun d q=>k _ _ _ q) q,h.pi.pre fun σ H R hq3=>by obtain ⟨β,own,s,q⟩:=hq3; exact ⟨_,_,s.seeV,h.mono _ _ _ (fun ds q J H' s1 it=>q J H' own ((Out.refl s true).same s1) it) q⟩⟩
end
section
variable {P:Program} {w:World} {C:Cfg} {σ:St} {H:Hp} {β:Bet} {own:Nat→List Addr} {i:Nat} {ok:List Int→Prop} {ns:List Int}
theorem owns_ints:∀ {ns:List Int} {vs:List V} {A:List Addr},Owns P w H (ns.map D.int) vs A→vs=ns.map V.int∧A=[]
 | [],_,_,h=>h
 | n::ns,_,_,⟨v,r,A1,A2,e,eA,h1,h2⟩=>by
  obtain ⟨rfl,rfl⟩:=owns_ints h2
  obtain ⟨rfl,rfl⟩:=h1
  exact ⟨e,by rw [eA]; rfl⟩
theorem SQ'.toHand (s:SQ' P w C σ H β own) (e:β[i]?=some (some (.own (.lst (ns.map D.int))))) (ho:ok ns) (io:∀ b,¬ C.IO b):SQ' P w C σ H (β.set i (some (.hand ok))) own:=by
 obtain ⟨v,h1,⟨a,vs,A',rfl,h2,h3,h4⟩,h5⟩:=s.ow i _ e
 obtain ⟨rfl,rfl⟩:=owns_ints h4
 refine ⟨by simp [s.len],fun j y d q=>?_,fun j d q=>?_,fun j ok' q=>?_,s.dm,s.dis,s.nod,s.kp,s.dmn,fun j y d q=>by
  by_cases hij:i=j
  ·subst hij; obtain ⟨e',_⟩:=set_eq q; cases e'
  ·rw [set_ne hij] at q; exact s.shl j y d q⟩
 ·by_cases hij:i=j
  ·subst hij; obtain ⟨e',_⟩:=set_eq q; cases e'
  ·rw [set_ne hij] at q; exact s.val j y d q
 ·by_cases hij:i=j
  ·subst hij; obtain ⟨e',_⟩:=set_eq q; cases e'
  ·rw [set_ne hij] at q; exact s.ow j d q
 ·by_cases hij:i=j
  ·subst hij
   obtain ⟨e',_⟩:=set_eq q
   cases e'
   exact ⟨a,ns,h1,h2,ho,h3,.inl io⟩
  ·rw [set_ne hij] at q; exact s.hnd j ok' q
end
section
variable {X:Cx} {C:Cfg} {e:Expr} {φ:PhiQ} {p:Bool} {i:Nat} {x:Str} {pos pos' px ap cp:Pos} {ok:List Int→Prop} {φs:PhiQS}
theorem pb_setH (ok:List Int→Prop) (hio:∀ b,¬ C.IO b) (he:∀ U,PQ X (C.u U) p e φ) (hN:X.N.Nodup) (hi:X.N[i]?=some x:=by rfl) (hx:Loc X.env.scope x:=by first | exact .inl rfl | exact .inr rfl)
  (hs:swapsWith e (some (.Name x pos')) pos.line X.env=pure false:=by rfl) (hf:X.fn x=true∨X.env.scope.names.lookup x=some .local:=by first | exact .inl rfl | exact .inr rfl | assumption) :
  PB X C (.Assign [.Name x pos'] e pos) (fun E β=>φ β fun d k β'=>kFl k d∧i < β'.length∧∃ ns:List Int,d=.lst (ns.map D.int)∧ok ns∧E.nx (β'.set i (some (.hand ok)))):=by
 have B:=pb_setO (C:=C) (i:=i) (pos:=pos) (pos':=pos') he hN hi hx hs hf
 refine ⟨fun E E' β l q=>(he fun _=>False).mono _ _ _ (fun d k β' hq4=>by obtain ⟨f,h,ns,e,o,q⟩:=hq4; exact ⟨f,h,ns,e,o,l.nx _ q⟩) q,B.ps.pre fun De σ H ⟨Z,E,β,sb,q,ok'⟩=>?_⟩
 refine ⟨Z,{ E with nx:=fun β'=>∃ (ns:List Int) (β2:Bet),i < β2.length∧β'=β2.set i (some (.own (.lst (ns.map D.int))))∧ok ns∧E.nx (β2.set i (some (.hand ok))) },β,sb,(he fun _=>False).mono _ _ _ (fun d k β' hq6=>by obtain ⟨f,h,ns,e,o,q⟩:=hq6; exact ⟨f,ns,β',h,by rw [e],o,q⟩) q,⟨fun σ' H' β' sb' ⟨ns,β2,hl,e,o,q⟩=>?_,ok'.rt,ok'.bk,ok'.ct⟩⟩
 subst e
 obtain ⟨own,s,n⟩:=sb'
 have:=s.toHand (i:=i) (ok:=ok) (get_set hl) o hio
 rw [List.set_set] at this
 exact ok'.nx _ _ _ ⟨own,this,n⟩ q
theorem SQ'.putL {P:Program} {w:World} {σ:St} {H:Hp} {β:Bet} {own:Nat→List Addr} {U U2:Addr→Prop} {ds ds':List D} {vs':List V} {a:Addr} {vs:List V} {A A':List Addr} (s:SQ' P w (C.u U) σ H β own) (e:β[i]?=some (some (.own (.lst ds)))) (h1:σ[i]?=some (some (.ref a))) (h2:H a=some (.lst vs)) (h3:own i=a::A)
  (r:Owns P w H ds' vs' A') (nd:A'.Nodup) (hA:∀ c ∈ A',c ∈ A∨(C.H0 c=none∧¬ Wn own c∧U c)) (hU:∀ a,U2 a→U a) (hA2:∀ c ∈ A',c ∉ A→¬ U2 c) :
  SQ' P w (C.u U2) σ (upd H a (.lst vs')) (β.set i (some (.own (.lst ds')))) (ownSet own i (a::A'))∧∀ c ∈ a::A',c ∈ own i∨(C.H0 c=none∧¬ Wn own c∧U c):=by
 have ha:a ∈ own i:=by rw [h3]; simp
 have nA:a ∉ A:=by have:=s.nod i; rw [h3] at this; exact (List.nodup_cons.mp this).1
 have na:∀ c ∈ A',c≠a:=fun c hc z=>by
  subst z
  rcases hA c hc with z | z
  ·exact nA z
  ·exact z.2.1 ⟨i,ha⟩
 have kt:∀ b xs,H b=some (.tup xs)→upd H a (.lst vs') b=some (.tup xs):=fun b xs z=>by rw [upd_ne (fun z'=>by rw [z',h2] at z; cases z)]; exact z
 have hA':∀ c ∈ a::A',c ∈ own i∨(C.H0 c=none∧¬ Wn own c∧U c):=fun c hc=>by
  rcases List.mem_cons.mp hc with rfl | hc
  ·exact .inl ha
  ·exact (hA c hc).imp (fun z=>by rw [h3]; simp [z]) id
 refine ⟨s.putU e h1 ha ⟨a,vs',A',rfl,upd_same,rfl,r.keep kt fun c hc oc ec=>by rw [upd_ne (na c hc)]; exact ec⟩ (List.nodup_cons.mpr ⟨fun z=>na a z rfl,nd⟩) hA' hU (fun c hc z=>?_),hA'⟩
 rcases List.mem_cons.mp hc with rfl | hc
 ·exact (s.dm i c ha).2.2.2 (hU c z)
 ·by_cases q:c ∈ A
  ·exact (s.dm i c (by rw [h3]; simp [q])).2.2.2 (hU c z)
  ·exact hA2 c hc q z
theorem own_less {own:Nat→List Addr} {i:Nat} {A':List Addr} (h:∀ c ∈ A',c ∈ own i):∀ c,Wn (ownSet own i A') c→Wn own c:=fun c hq8=>by
 obtain ⟨j,hj⟩:=hq8
 by_cases hij:i=j
 ·rw [← hij,os_eq] at hj; exact ⟨i,h c hj⟩
 ·rw [os_ne hij] at hj; exact ⟨j,hj⟩
theorem pop_kv {P:Program} {w:World} {H:Hp} {own:Nat→List Addr} {Z:Hp × (Addr→Prop)} {d:D} {v:V} {A:List Addr} (r:Own P w H d v A) (h:∀ c ∈ A,¬ Wn own c∧C.H0 c=none):KV P w C Z own H (sk .yng d) d v:=by
 have q:RepD P w (av C (Wn own) .yng) H d v:=r.rep fun c hc z=>z.elim (h c hc).1 fun z=>z (h c hc).2
 cases d with
 | int i=>exact KV.flat rfl q
 | bl i=>exact KV.flat rfl q
 | non=>exact KV.flat rfl q
 | str i=>exact KV.flat rfl q
 | _=>exact q
theorem Owns.concat {P:Program} {w:World} {H:Hp} {ds:List D} {d:D} {vs:List V} {A:List Addr} (h:Owns P w H (ds++[d]) vs A):∃ us v A1 A2,vs=us++[v]∧A=A1++A2∧Owns P w H ds us A1∧Own P w H d v A2:=by
 obtain ⟨v,A1,A2,A3,g1,g2,g3,g4,g5⟩:=h.split (i:=ds.length) (d:=d) (by simp)
 rw [List.take_left] at g3
 have e3:Owns P w H [] (vs.drop (ds.length+1)) A3:=by simpa using g5
 have hl:=h.length
 rw [List.length_append,List.length_singleton] at hl
 refine ⟨vs.take ds.length,v,A1,A2,?_,by rw [g2,e3.2,List.append_nil],g3,g4⟩
 have hlt:ds.length < vs.length:=by omega
 have e1:vs=vs.take ds.length++vs.drop ds.length:=(List.take_append_drop _ _).symm
 rw [List.drop_eq_getElem_cons hlt,e3.1] at e1
 have:vs[ds.length]=v:=by
  have:=List.getElem?_eq_getElem hlt
  rw [g1] at this
  exact (Option.some.inj this).symm
 rw [this] at e1
 exact e1
theorem pq_pop (hN:X.N[i]?=some x:=by rfl) (hv:Vis X.env.scope x:=by first | exact .inl rfl | exact .inr (.inl rfl) | exact .inr (.inr rfl)) (hd:(x == ("__debug__" : Str))=false:=by decide) (hcd:(x == ("__classdict__" : Str))=false:=by decide)
  (hbase:attributeBase (.Name x px) "pop" X.env (eval (.Name x px) X.env)=eval (.Name x px) X.env:=by rfl) (hline:(ap.endLine == cp.line)=true:=by rfl) :
  PQ X C false (.Call (.Attribute (.Name x px) "pop" ap) [] [] cp) (fun β R=>∃ ds d,β[i]?=some (some (.own (.lst (ds++[d]))))∧R d (sk .yng d) (β.set i (some (.own (.lst ds))))) :=
 ⟨fun β R R' k hq9=>by obtain ⟨ds,d,h1,q⟩:=hq9; exact ⟨ds,d,h1,k _ _ _ q⟩,(pe_bm0 (apos:=ap) (cpos:=cp) PySem.F.plainAttrs_list PySem.F.slot_list_pop PySem.F.type_list_pop mt_pop (pe_var (pos:=px) hN hv hd hcd) hbase hline).pre fun σ H Q hq10=>by
  obtain ⟨β,own,s,ds,d,hb,q⟩:=hq10
  obtain ⟨a,vs,A,h1,h2,h3,h4⟩:=s.lstAt hb
  obtain ⟨us,v,A1,A2,rfl,rfl,g3,g4⟩:=h4.concat
  have nd:=s.nod i
  rw [h3] at nd
  obtain ⟨nd1,nd2,nd3⟩:=List.nodup_append.mp (List.nodup_cons.mp nd).2
  obtain ⟨s2,hA⟩:=s.putL (C:=C) (U:=C.U) (U2:=C.U) (ds':=ds) (vs':=us) (A':=A1) hb h1 h2 h3 g3 nd1 (fun c hc=>.inl (by simp [hc])) (fun _ z=>z) (fun c hc n=>absurd (by simp [hc]) n)
  have h0:∀ c ∈ own i,C.H0 c=none:=by obtain ⟨_,_,_,h⟩:=s.ow i _ hb; exact h
  have kt:∀ b xs,H b=some (.tup xs)→upd H a (.lst us) b=some (.tup xs):=fun b xs z=>by rw [upd_ne (fun z'=>by rw [z',h2] at z; cases z)]; exact z
  have na:∀ c ∈ A2,c≠a:=fun c hc z=>(List.nodup_cons.mp nd).1 (by rw [← z]; simp [hc])
  have le:∀ c,Wn (ownSet own i (a::A1)) c→Wn own c:=own_less fun c hc=>by rw [h3]; rcases List.mem_cons.mp hc with rfl | hc <;> simp [*]
  refine ⟨.ref a,h1,.inl ⟨rfl,_,SqL.of h2⟩,a,_,v,rfl,rfl,h2,by simp,?_⟩
  rw [List.dropLast_concat]
  refine q v _ _ ⟨s2,?_,fun z=>(nomatch z),le⟩ (pop_kv (C:=C) (g4.keep kt fun c hc oc ec=>by rw [upd_ne (na c hc)]; exact ec) fun c hc=>⟨fun ⟨j,hj⟩=>?_,h0 c (by rw [h3]; simp [hc])⟩)
  ·have u:=Sn.upd (Z:=(H,Wn own)) (o':=.lst us) (Sn.refl (H:=H) (W:=Wn own)) h2 (fun xs z=>by cases z) ⟨i,by rw [h3]; simp⟩
   exact ⟨fun b z=>.inl (le b z),u.k,u.d⟩
  ·by_cases hij:i=j
   ·rw [← hij,os_eq] at hj
    rcases List.mem_cons.mp hj with rfl | hj
    ·exact na _ hc rfl
    ·exact nd3 _ hj _ hc rfl
   ·rw [os_ne hij] at hj
    exact hij (s.dis i j c (by rw [h3]; simp [hc]) hj)⟩
end
end L2.Q
end

noncomputable section
set_option Elab.async false
set_option linter.all false
set_option maxRecDepth 100000
namespace L2.Q
open PySem PySem.Spec PySem.SeqAt PyProof.Rows
section
variable {X:Cx} {C:Cfg} {e k:Expr} {φ φk:PhiQ} {p pk:Bool} {i:Nat} {x:Str} {pos pos' px ap cp:Pos}
theorem seqIx_nat {n:Nat} {j:Int} {k:Nat} (h:ixN n j=some k):seqIndex? j n=some k:=by
 unfold ixN at h
 unfold seqIndex?
 by_cases h0:0≤j
 ·rw [if_pos h0] at h
  by_cases h1:j < n
  ·rw [if_pos h1] at h
   cases h
   have e:(if j < 0 then j+n else j)=j:=if_neg (by lia)
   simp only [e]
   simp [h0,h1]
  ·rw [if_neg h1] at h; cases h
 ·rw [if_neg h0] at h
  by_cases h1:-(n:Int)≤j
  ·rw [if_pos h1] at h
   cases h
   have e:(if j < 0 then j+n else j)=j+n:=if_pos (by lia)
   simp only [e]
   have:0≤j+n∧j+n < n:=by lia
   simp [this]
  ·rw [if_neg h1] at h; cases h
theorem erase_split {α:Type}:∀ (l:List α) (j:Nat),l.eraseIdx j=l.take j++l.drop (j+1):=fun l j=>List.eraseIdx_eq_take_drop_succ l j
theorem pq_popAt (he:PQ X C p e φ) (hN:X.N[i]?=some x:=by rfl) (hv:Vis X.env.scope x:=by first | exact .inl rfl | exact .inr (.inl rfl) | exact .inr (.inr rfl)) (hd:(x == ("__debug__" : Str))=false:=by decide) (hcd:(x == ("__classdict__" : Str))=false:=by decide)
  (hbase:attributeBase (.Name x px) "pop" X.env (eval (.Name x px) X.env)=eval (.Name x px) X.env:=by rfl)
  (hfew:((backTo cp (starEach [e] X.env)).all (fun x=>!x.1) && (backToKw cp (keywordEach [] X.env)).all (fun x=>x.1.isSome) && decide ([e].length+([]:List Keyword).length+(if ([]:List Keyword).isEmpty then 0 else 1) < 30))=true:=by rfl)
  (hline:(ap.endLine == cp.line)=true:=by rfl) (hs:starEach [e] X.env=(false,eval e X.env)::starEach [] X.env:=by rfl) (hplain:(backTo cp (starEach [] X.env)).any (·.1)=false:=by rfl) :
  PQ X C false (.Call (.Attribute (.Name x px) "pop" ap) [e] [] cp) (fun β R=>(∃ ds,β[i]?=some (some (.own (.lst ds))))∧φ β fun kd _ β'=>∃ (ds:List D) (j:Int) (m:Nat) (d:D),kd=.int j∧β'[i]?=some (some (.own (.lst ds)))∧-(2 ^ 63)≤j∧j < 2 ^ 63∧ixN ds.length j=some m∧ds[m]?=some d∧R d (sk .yng d) (β'.set i (some (.own (.lst (ds.eraseIdx m)))))) :=
 ⟨fun β R R' k hq1=>by obtain ⟨h0,q⟩:=hq1; exact ⟨h0,he.mono _ _ _ (fun kd _ β' hq2=>by obtain ⟨ds,j,m,d,h1,h2,h3,h4,h5,h6,q⟩:=hq2; exact ⟨ds,j,m,d,h1,h2,h3,h4,h5,h6,k _ _ _ q⟩) q⟩,
  (pe_bm (apos:=ap) (cpos:=cp) PySem.F.plainAttrs_list PySem.F.slot_list_pop PySem.F.type_list_pop mt_popAt (pe_var (pos:=px) hN hv hd hcd) (pa_cons he.pe pa_nil hs) hbase hfew hline hs hplain).pre fun σ H Q hq3=>by
  obtain ⟨β,own,s0,⟨ds0,hb0⟩,q⟩:=hq3
  obtain ⟨a0,vs0,A0,z1,z2,z3,z4⟩:=s0.lstAt hb0
  refine ⟨.ref a0,z1,.inl ⟨rfl,_,SqL.of z2⟩,tQ.of he s0 q fun kd kk β' kv H1 own1 ⟨ds,j,m,d,e1,hb,j1,j2,hj,hm,q⟩ o r=>?_⟩
  subst e1
  cases r.rep
  have s:=o.sq
  obtain ⟨a,vs,A,h1,h2,h3,h4⟩:=s.lstAt hb
  rw [z1] at h1
  cases h1
  obtain ⟨v,A1,A2,A3,g1,rfl,g3,g4,g5⟩:=h4.split hm
  have nd:=s.nod i
  rw [h3] at nd
  obtain ⟨nd1,nd2,nd3⟩:=List.nodup_append.mp (List.nodup_cons.mp nd).2
  obtain ⟨nd4,nd5,nd6⟩:=List.nodup_append.mp nd2
  have ow:Owns X.prog X.w H1 (ds.eraseIdx m) (vs.eraseIdx m) (A1++A3):=by rw [erase_split,erase_split]; exact g3.append g5
  have ndn:(A1++A3).Nodup:=List.nodup_append.mpr ⟨nd1,nd5,fun x hx y hy=>nd3 x hx y (List.mem_append_right _ hy)⟩
  obtain ⟨s2,hA⟩:=s.putL (C:=C) (U:=C.U) (U2:=C.U) (ds':=ds.eraseIdx m) (vs':=vs.eraseIdx m) (A':=A1++A3) hb z1 h2 h3 ow ndn (fun c hc=>.inl (by rcases List.mem_append.mp hc with hc | hc <;> simp [hc])) (fun _ z=>z) (fun c hc n=>absurd (by rcases List.mem_append.mp hc with hc | hc <;> simp [hc]) n)
  have h0:∀ c ∈ own1 i,C.H0 c=none:=by obtain ⟨_,_,_,h⟩:=s.ow i _ hb; exact h
  have kt:∀ b xs,H1 b=some (.tup xs)→upd H1 a0 (.lst (vs.eraseIdx m)) b=some (.tup xs):=fun b xs z=>by rw [upd_ne (fun z'=>by rw [z',h2] at z; cases z)]; exact z
  have na:∀ c ∈ A2,c≠a0:=fun c hc z=>(List.nodup_cons.mp nd).1 (by rw [← z]; simp [hc])
  have le:∀ c,Wn (ownSet own1 i (a0::(A1++A3))) c→Wn own1 c:=own_less fun c hc=>by
   rw [h3]
   rcases List.mem_cons.mp hc with rfl | hc
   ·simp
   ·rcases List.mem_append.mp hc with hc | hc <;> simp [hc]
  refine ⟨a0,vs,j,m,v,rfl,rfl,h2,j1,j2,by rw [h4.length]; exact seqIx_nat hj,g1,?_⟩
  have u:=Sn.upd (Z:=(H1,Wn own1)) (o':=.lst (vs.eraseIdx m)) (Sn.refl (H:=H1) (W:=Wn own1)) h2 (fun xs z=>by cases z) ⟨i,by rw [h3]; simp⟩
  refine q v _ _ ⟨s2,o.sn.trans ⟨fun b z=>.inl (le b z),u.k,u.d⟩,fun z=>(nomatch z),fun c z=>o.le c (le c z)⟩ (pop_kv (C:=C) (g4.keep kt fun c hc oc ec=>by rw [upd_ne (na c hc)]; exact ec) fun c hc=>⟨fun ⟨j',hj'⟩=>?_,h0 c (by rw [h3]; simp [hc])⟩)
  by_cases hij:i=j'
  ·rw [← hij,os_eq] at hj'
   rcases List.mem_cons.mp hj' with rfl | hj'
   ·exact na _ hc rfl
   ·rcases List.mem_append.mp hj' with hj' | hj'
    ·exact nd3 _ hj' _ (List.mem_append_left _ hc) rfl
    ·exact nd6 _ hc _ hj' rfl
  ·rw [os_ne hij] at hj'
   exact hij (s.dis i j' c (by rw [h3]; simp [hc]) hj')⟩
theorem sn_keep {Z:Hp × (Addr→Prop)} {H:Hp} {own:Nat→List Addr} {a:Addr} {o oa:HO} {A':List Addr} {U:Addr→Prop} (n:Sn Z H (Wn own)) (m:∀ a,U a→Z.1 a=none) (h2:H a=some oa) (ht:∀ xs,oa≠.tup xs) (ha:Wn own a) (hA:∀ c ∈ A',c ∈ own i∨(C.H0 c=none∧¬ Wn own c∧U c)):Sn Z (upd H a o) (Wn (ownSet own i A')) :=
 sn_put n m ha ⟨oa,h2,ht⟩ hA
theorem pb_extend (he:PQ X C.z p e φ) (hN:X.N[i]?=some x:=by rfl) (hv:Vis X.env.scope x:=by first | exact .inl rfl | exact .inr (.inl rfl) | exact .inr (.inr rfl)) (hd:(x == ("__debug__" : Str))=false:=by decide) (hcd:(x == ("__classdict__" : Str))=false:=by decide)
  (hbase:attributeBase (.Name x px) "extend" X.env (eval (.Name x px) X.env)=eval (.Name x px) X.env:=by rfl)
  (hfew:((backTo cp (starEach [e] X.env)).all (fun x=>!x.1) && (backToKw cp (keywordEach [] X.env)).all (fun x=>x.1.isSome) && decide ([e].length+([]:List Keyword).length+(if ([]:List Keyword).isEmpty then 0 else 1) < 30))=true:=by rfl)
  (hline:(ap.endLine == cp.line)=true:=by rfl) (hs:starEach [e] X.env=(false,eval e X.env)::starEach [] X.env:=by rfl) (hplain:(backTo cp (starEach [] X.env)).any (·.1)=false:=by rfl)
  (hsw:swapsWith (.Call (.Attribute (.Name x px) "extend" ap) [e] [] cp) none pos.line X.env=pure false:=by rfl) :
  PB X C (.Expr (.Call (.Attribute (.Name x px) "extend" ap) [e] [] cp) pos) (fun E β=>(∃ ds,β[i]?=some (some (.own (.lst ds))))∧φ β fun d _ β'=>∃ ds es,d=.lst es∧D.flats es=true∧β'[i]?=some (some (.own (.lst ds)))∧ds.length+es.length≤sizeLine∧E.nx (β'.set i (some (.own (.lst (ds++es)))))):=by
 refine ⟨fun E E' β l hq6=>by obtain ⟨h1,q⟩:=hq6; exact ⟨h1,he.mono _ _ _ (fun d k β' hq7=>by obtain ⟨ds,es,h1,h2,h3,h4,q⟩:=hq7; exact ⟨ds,es,h1,h2,h3,h4,l.nx _ q⟩) q⟩,
  (ps_expr (pos:=pos) (pe_bm (apos:=ap) (cpos:=cp) PySem.F.plainAttrs_list PySem.F.slot_list_extend PySem.F.type_list_extend mt_extend (pe_var (pos:=px) hN hv hd hcd) (pa_cons he.pe pa_nil hs) hbase hfew hline hs hplain) hsw).pre fun D σ H ⟨Z,E,β,⟨own,s0,n⟩,⟨⟨ds0,hb0⟩,q⟩,ok⟩=>?_⟩
 obtain ⟨a0,vs0,A0,z1,z2,z3,z4⟩:=s0.lstAt hb0
 refine ⟨.ref a0,z1,.inl ⟨rfl,_,SqL.of z2⟩,tQ.of he s0 q fun d kk β' v H1 own1 ⟨ds,es,e1,f,hb,hl,q⟩ o r=>?_⟩
 subst e1
 obtain ⟨b,us,rfl,hb1,_,rb⟩:=r.rep
 obtain ⟨a,vs,A,h1,h2,h3,h4⟩:=o.sq.lstAt hb
 rw [z1] at h1
 cases h1
 have nd:=o.sq.nod i
 rw [h3] at nd
 obtain ⟨s2,hA⟩:=o.sq.putL (C:=C) (U:=fun _=>False) (U2:=fun _=>False) (ds':=ds++es) (vs':=vs++us) (A':=A) hb z1 h2 h3 (by simpa using h4.append (owns_flat f rb)) (List.nodup_cons.mp nd).2 (fun c hc=>.inl hc) (fun _ z=>z) (fun c hc n=>absurd hc n)
 exact ⟨a0,b,vs,us,rfl,rfl,h2,hb1,by rw [h4.length,rb.length]; exact hl,ok.nx _ _ _ ⟨_,s2,sn_keep (n.trans o.sn) (fun _ z=>z.elim) h2 (fun xs z=>by cases z) ⟨i,by rw [h3]; simp⟩ hA⟩ q⟩
end
end L2.Q
end

noncomputable section
set_option Elab.async false
set_option linter.all false
set_option maxRecDepth 100000
namespace L2
open PySem PySem.Spec PySem.SeqAt PyProof.Rows
section
variable {X:Cx}
end
namespace Q
section
variable {P:Program} {w:World} {C:Cfg} {σ:St} {H:Hp} {β:Bet} {own:Nat→List Addr} {lk:List (Option Nat)} {a:Addr}
theorem SQ'.enterS {o:HO} (ho:∀ xs,o≠.tup xs) (s:SQ' P w C σ H β own) (ha:H a=none) (inj:∀ (i i' j:Nat),lk[i]?=some (some j)→lk[i']?=some (some j)→i=i') :
  SQ' P w (C.u fun c=>c=a) (inSt lk σ) (upd H a o) (inBet lk β) (inOwn lk β own):=by
 have h0:C.H0 a=none:=Decidable.by_contra fun z=>s.dmn a z ha
 have q:=(s.enter ha inj).setU (o:=o) upd_same (fun xs z=>by cases z) h0
 have e:upd (upd H a (.lst [])) a o=upd H a o:=by
  funext b
  by_cases hb:b=a
  ·rw [hb,upd_same,upd_same]
  ·rw [upd_ne hb,upd_ne hb,upd_ne hb]
 rwa [e] at q
end
section
variable {X:Cx} {C:Cfg} {lk:List (Option Nat)} {γ:GamQ} {τ:PhiQB} {φ:PhiQ} {T:List Nat} {pc pe:Bool}
variable {scope:Scope} {N':List Str} {tg it1 elt:Expr} {ifs:List Expr} {ι:PhiQI} {pi:Bool} {pos:Pos}
end
end Q
end L2
end

noncomputable section
set_option Elab.async false
set_option linter.all false
set_option maxRecDepth 100000
namespace L2.Q
open PySem PySem.Spec PySem.SeqAt PyProof.Rows
abbrev mkD (l:Bool) (ds:List D):D:=match l with | true=>.lst ds | false=>.tup ds
section
variable {P:Program} {w:World} {H:Hp} {A:List Addr} {v:V} {ds:List D} {l:Bool}
theorem own_item {m:Nat} {es:List D} (r:Own P w H (mkD l ds) v A) (nd:A.Nodup) (hm:ds[m]?=some (.lst es)):∃ a vs c us B,v=.ref a∧H a=some (match l with | true=>.lst vs | false=>.tup vs)∧vs.length=ds.length∧vs[m]?=some (.ref c)∧H c=some (.lst us)∧c ∈ A∧Owns P w H es us B∧(∀ x ∈ B,x ∈ A∧x≠c)∧B.Nodup ∧
  ∀ es' us' B',Owns P w H es' us' B'→B'.Nodup→(∀ x ∈ B',x ∈ B∨x ∉ A)→(∀ x ∈ B',x≠c)→∃ A',Own P w (upd H c (.lst us')) (mkD l (ds.set m (.lst es'))) v A'∧A'.Nodup∧∀ x ∈ A',x ∈ A∨x ∈ B':=by
 have core:∀ {vs:List V} {A:List Addr},A.Nodup→Owns P w H ds vs A→∃ c us B,vs[m]?=some (.ref c)∧H c=some (.lst us)∧c ∈ A∧Owns P w H es us B∧(∀ x ∈ B,x ∈ A∧x≠c)∧B.Nodup ∧
   ∀ es' us' B',Owns P w H es' us' B'→B'.Nodup→(∀ x ∈ B',x ∈ B∨x ∉ A)→(∀ x ∈ B',x≠c)→∃ A',Owns P w (upd H c (.lst us')) (ds.set m (.lst es')) vs A'∧A'.Nodup∧(∀ x ∈ A',x ∈ A∨x ∈ B'):=fun {vs A} nd os=>by
  have hl:=os.length
  have hmd:m < ds.length:=(List.getElem?_eq_some_iff.mp hm).1
  obtain ⟨u,A1,A2,A3,g1,rfl,g3,⟨c,us,B,rfl,h2,rfl,h4⟩,g5⟩:=os.split hm
  obtain ⟨nd1,nd2,nd3⟩:=List.nodup_append.mp nd
  obtain ⟨nd4,nd5,nd6⟩:=List.nodup_append.mp nd2
  have ncB:=(List.nodup_cons.mp nd4).1
  refine ⟨c,us,B,g1,h2,by simp,h4,fun x hx=>⟨by simp [hx],fun z=>ncB (by rw [← z]; exact hx)⟩,(List.nodup_cons.mp nd4).2,fun es' us' B' o' n' hb' hc'=>?_⟩
  have kt:∀ b xs,H b=some (.tup xs)→upd H c (.lst us') b=some (.tup xs):=fun b xs z=>by rw [upd_ne (fun z'=>by rw [z',h2] at z; cases z)]; exact z
  have n1:∀ x ∈ A1,x≠c:=fun x hx z=>nd3 x hx c (by simp) z
  have n3:∀ x ∈ A3,x≠c:=fun x hx z=>nd6 c (by simp) x hx z.symm
  have off:∀ x ∈ B',x ∉ A1∧x ∉ A3:=fun x hx=>by
   rcases hb' x hx with z | z
   ·exact ⟨fun q=>nd3 x q x (by simp [z]) rfl,fun q=>nd6 x (by simp [z]) x q rfl⟩
   ·exact ⟨fun q=>z (by simp [q]),fun q=>z (by simp [q])⟩
  have hmv:m < vs.length:=by omega
  have ev:vs=vs.take m++V.ref c::vs.drop (m+1):=by
   have e1:vs=vs.take m++vs.drop m:=(List.take_append_drop _ _).symm
   rw [List.drop_eq_getElem_cons hmv] at e1
   have:vs[m]=V.ref c:=by
    have:=List.getElem?_eq_getElem hmv
    rw [g1] at this
    exact (Option.some.inj this).symm
   rwa [this] at e1
  refine ⟨A1++((c::B')++A3),?_,List.nodup_append.mpr ⟨nd1,List.nodup_append.mpr ⟨List.nodup_cons.mpr ⟨fun z=>hc' c z rfl,n'⟩,nd5,fun x hx y hy=>?_⟩,fun x hx y hy z=>?_⟩,fun x hx=>?_⟩
  ·rw [List.set_eq_take_append_cons_drop,if_pos hmd]
   have q:Owns P w (upd H c (.lst us')) (ds.take m++.lst es'::ds.drop (m+1)) (vs.take m++.ref c::vs.drop (m+1)) (A1++((c::B')++A3)) :=
    (g3.keep kt fun x hx oc ec=>by rw [upd_ne (n1 x hx)]; exact ec).append ⟨.ref c,_,c::B',A3,rfl,rfl,⟨c,us',B',rfl,upd_same,rfl,o'.keep kt fun x hx oc ec=>by rw [upd_ne (hc' x hx)]; exact ec⟩,g5.keep kt fun x hx oc ec=>by rw [upd_ne (n3 x hx)]; exact ec⟩
   rw [← ev] at q
   exact q
  ·intro z
   subst z
   rcases List.mem_cons.mp hx with rfl | hx
   ·exact n3 _ hy rfl
   ·exact (off x hx).2 hy
  ·subst z
   rcases List.mem_append.mp hy with hy | hy
   ·rcases List.mem_cons.mp hy with rfl | hy
    ·exact n1 _ hx rfl
    ·exact (off x hy).1 hx
   ·exact nd3 x hx x (by simp [hy]) rfl
  ·rcases List.mem_append.mp hx with hx | hx
   ·exact .inl (by simp [hx])
   ·rcases List.mem_append.mp hx with hx | hx
    ·rcases List.mem_cons.mp hx with rfl | hx
     ·exact .inl (by simp)
     ·exact .inr hx
    ·exact .inl (by simp [hx])
 cases l with
 | true =>
  obtain ⟨a,vs,A',rfl,h2,rfl,h4⟩:=r
  obtain ⟨na,nd'⟩:=List.nodup_cons.mp nd
  obtain ⟨c,us,B,q1,q2,q3,q4,q5,q6,q7⟩:=core nd' h4
  have ca:c≠a:=fun z=>na (by rw [← z]; exact q3)
  refine ⟨a,vs,c,us,B,rfl,h2,h4.length,q1,q2,by simp [q3],q4,fun x hx=>⟨by simp [(q5 x hx).1],(q5 x hx).2⟩,q6,fun es' us' B' o' n' hb' hc'=>?_⟩
  obtain ⟨A2,g1,g2,g3⟩:=q7 es' us' B' o' n' (fun x hx=>(hb' x hx).imp id fun z q=>z (by simp [q])) hc'
  refine ⟨a::A2,⟨a,vs,A2,rfl,by rw [upd_ne ca.symm]; exact h2,rfl,g1⟩,List.nodup_cons.mpr ⟨fun z=>?_,g2⟩,fun x hx=>?_⟩
  ·rcases g3 a z with z | z
   ·exact na z
   ·rcases hb' a z with z | z
    ·exact na (q5 a z).1
    ·exact z (by simp)
  ·rcases List.mem_cons.mp hx with rfl | hx
   ·exact .inl (by simp)
   ·exact (g3 x hx).imp (fun z=>by simp [z]) id
 | false =>
  obtain ⟨a,vs,rfl,h2,h4⟩:=r
  obtain ⟨c,us,B,q1,q2,q3,q4,q5,q6,q7⟩:=core nd h4
  have ca:a≠c:=fun z=>by rw [z,q2] at h2; cases h2
  refine ⟨a,vs,c,us,B,rfl,h2,h4.length,q1,q2,q3,q4,q5,q6,fun es' us' B' o' n' hb' hc'=>?_⟩
  obtain ⟨A2,g1,g2,g3⟩:=q7 es' us' B' o' n' hb' hc'
  exact ⟨A2,⟨a,vs,rfl,by rw [upd_ne ca]; exact h2,g1⟩,g2,g3⟩
end
section
variable {X:Cx} {C:Cfg} {e k:Expr} {φ φk:PhiQ} {i:Nat} {x:Str} {pos pos' px kp ap cp:Pos}
theorem pb_appendAt (l:Bool) (he:∀ U,PQ X (C.u U) true e φ) (hk:∀ U,PQ X (C.u U) true k φk) (hN:X.N[i]?=some x:=by rfl) (hv:Vis X.env.scope x:=by first | exact .inl rfl | exact .inr (.inl rfl) | exact .inr (.inr rfl)) (hd:(x == ("__debug__" : Str))=false:=by decide) (hcd:(x == ("__classdict__" : Str))=false:=by decide)
  (hix:PlainIx k:=by exact fun _ _=>rfl)
  (hbase:attributeBase (.Subscript (.Name x px) k kp) "append" X.env (eval (.Subscript (.Name x px) k kp) X.env)=eval (.Subscript (.Name x px) k kp) X.env:=by rfl)
  (hfew:((backTo cp (starEach [e] X.env)).all (fun x=>!x.1) && (backToKw cp (keywordEach [] X.env)).all (fun x=>x.1.isSome) && decide ([e].length+([]:List Keyword).length+(if ([]:List Keyword).isEmpty then 0 else 1) < 30))=true:=by rfl)
  (hline:(ap.endLine == cp.line)=true:=by rfl) (hs:starEach [e] X.env=(false,eval e X.env)::starEach [] X.env:=by rfl) (hplain:(backTo cp (starEach [] X.env)).any (·.1)=false:=by rfl)
  (hsw:swapsWith (.Call (.Attribute (.Subscript (.Name x px) k kp) "append" ap) [e] [] cp) none pos.line X.env=pure false:=by rfl) :
  PB X C (.Expr (.Call (.Attribute (.Subscript (.Name x px) k kp) "append" ap) [e] [] cp) pos) (fun E β=>(∃ d0,β[i]?=some (some (.own d0)))∧φk β fun jd _ β1=>∃ ds j m es,jd=.int j∧β1[i]?=some (some (.own (mkD l ds)))∧ixN ds.length j=some m∧ds[m]?=some (.lst es)∧φ β1 fun d kd β2=>kFl kd d∧β2[i]?=some (some (.own (mkD l ds)))∧es.length < sizeLine∧E.nx (β2.set i (some (.own (mkD l (ds.set m (.lst (es++[d]))))))) ):=by
 refine ⟨fun E E' β l ⟨q0,q⟩=>⟨q0,(hk fun _=>False).mono _ _ _ (fun jd _ β1 ⟨ds,j,m,es,h1,h2,h3,h4,q⟩=>⟨ds,j,m,es,h1,h2,h3,h4,(he fun _=>False).mono _ _ _ (fun d kd β2 ⟨g1,g2,g3,q⟩=>⟨g1,g2,g3,l.nx _ q⟩) q⟩) q⟩,fun pins s σ H De I ⟨Z,E,β,⟨own,sq,n⟩,⟨⟨d0,hd0⟩,q⟩,ok⟩=>?_⟩
 have ix:IxR X (fun x y H Q=>rIxL X.K x y H Q∨rIxT X.K x y H Q):=fun value slice pins s σ H x y v u Q I rx ry h hs=>h.elim (fun h=>ix_list value slice pins s σ H x y v u Q I rx ry h hs) fun h=>ix_tup value slice pins s σ H x y v u Q I rx ry h hs
 refine ps_expr (pos:=pos) (pe_bm (apos:=ap) (cpos:=cp) PySem.F.plainAttrs_list PySem.F.slot_list_append PySem.F.type_list_append mt_append (pe_ix (pos:=kp) ix (pe_var (pos:=px) hN hv hd hcd) (hk fun a=>H a=none).pe hix) (pa_cons (he fun a=>H a=none).pe pa_nil hs) hbase hfew hline hs hplain) hsw pins s σ H De I ?_
 have sqU:=sq.withU (C:=C.z) (U:=fun a=>H a=none) fun a z=>z
 obtain ⟨v0,hv0,_,_⟩:=sq.ow i d0 hd0
 refine ⟨v0,hv0,tQ.of (hk fun a=>H a=none) sqU q fun jd kk β1 kv H1 own1 ⟨ds,j,m,es,e1,hb,hj,hm,q⟩ o r=>?_⟩
 subst e1
 cases r.rep
 obtain ⟨v,hv1,ow,h0⟩:=o.sq.ow i _ hb
 rw [hv0] at hv1
 cases hv1
 obtain ⟨a,vs,c,us,B,rfl,q1,q2,q3,q4,q5,q6,q7,q8,q9⟩:=own_item ow (o.sq.nod i) hm
 have at1:atI vs j=some (.ref c):=by unfold atI; rw [q2,hj]; exact q3
 have nxt:tyV X.K "list" (.ref c) H1∧tCons (tQ X (C.u fun a=>H a=none) true φ) tNil σ H1 fun xs H2=>rAppend (.ref c) xs H2 fun _ H1=>De.nx σ H1:=by
  refine ⟨.inl ⟨rfl,us,SqL.of q4⟩,tQ.of (he fun a=>H a=none) o.sq q fun d kd β2 v2 H2 own2 ⟨f,hb2,hl,q⟩ o2 r2=>?_⟩
  obtain ⟨s2,e2⟩:=o2.pu rfl
  obtain ⟨v',hv',ow2,h02⟩:=o2.sq.ow i _ hb2
  rw [hv0] at hv'
  cases hv'
  obtain ⟨a',vs',c',us',B',ea,p1,p2,p3,p4,p5,p6,p7,p8,p9⟩:=own_item ow2 (o2.sq.nod i) hm
  cases ea
  have e3:=s2 _ _ q1
  rw [p1] at e3
  have ev:vs'=vs:=by cases l <;> (cases e3; rfl)
  subst ev
  rw [q3] at p3
  cases p3
  have e4:=s2 _ _ q4
  rw [p4] at e4
  cases e4
  obtain ⟨A,r1,rn,r3⟩:=r2.fl f
  have offA:∀ x ∈ A,x ∉ own2 i:=fun x hx z=>(r3 x hx).2.1 ⟨i,z⟩
  obtain ⟨A',g1,g2,g3⟩:=p9 (es++[d]) (us++[v2]) (B'++A) (p6.append (Owns.one r1)) (List.nodup_append.mpr ⟨p8,rn,fun x hx y hy z=>offA y hy (by rw [← z]; exact (p7 x hx).1)⟩)
   (fun x hx=>(List.mem_append.mp hx).imp id (offA x)) (fun x hx z=>by
    rcases List.mem_append.mp hx with hx | hx
    ·exact (p7 x hx).2 z
    ·exact offA x hx (by rw [z]; exact p5))
  have hA:∀ x ∈ A',x ∈ own2 i∨(C.H0 x=none∧¬ Wn own2 x∧H x=none):=fun x hx=>by
   rcases g3 x hx with z | z
   ·exact .inl z
   ·rcases List.mem_append.mp z with z | z
    ·exact .inl (p7 x z).1
    ·exact .inr ⟨(r3 x z).2.2,(r3 x z).2.1,o.sn.free (r3 x z).1⟩
  exact ⟨c,us,v2,rfl,rfl,p4,by rw [p6.length]; exact hl,ok.nx _ _ _ ⟨_,o2.sq.putIn (C:=C) (U:=fun a=>H a=none) hb2 hv0 p5 g1 g2 hA,sn_put ((n.trans o.sn).trans o2.sn) (fun b z=>n.free z) ⟨i,p5⟩ ⟨_,p4,fun xs z=>by cases z⟩ hA⟩ q⟩
 cases l with
 | true=>exact .inl ⟨a,vs,j,.ref c,rfl,rfl,SqL.of q1,at1,nxt⟩
 | false=>exact .inr ⟨a,vs,j,.ref c,rfl,rfl,SqT.of q1,at1,nxt⟩
end
end L2.Q
end

noncomputable section
set_option Elab.async false
set_option linter.all false
set_option maxRecDepth 100000
namespace L2
open PySem PySem.Spec PySem.SeqAt PyProof.Rows
theorem ifB {b:Bool} {p q:Prop} (h1:b=true→p) (h2:b=false→q):(if b=true then p else q):=by
 cases b
 ·exact ifF rfl (h2 rfl)
 ·exact ifT rfl (h1 rfl)
def Pair (t:List Int):Prop:=∃ a b,t=[a,b]
def Pairs (ts:List (List Int)):Prop:=∀ t ∈ ts,Pair t
end L2
end

noncomputable section
set_option Elab.async false
set_option linter.all false
set_option maxRecDepth 100000
namespace L2
open PySem PySem.Spec PySem.SeqAt PyProof.Rows
structure Bs2 (mg:Str→Option Value):Prop extends Bs mg where
 isi:mg "isinstance" = none
 tuple:mg "tuple" = none
 str:mg "str" = none
 bool:mg "bool" = none
 zip:mg "zip" = none
 enumerate:mg "enumerate" = none
theorem bt_str:bootBuiltins "str" = some (.type "str"):=by decide +kernel
theorem zipD_self {ds:List D} {d:D} (h:d ∈ zipD ds ds):∃ a ∈ ds,d=.tup [a,a]:=by
 obtain ⟨i,hi⟩:=List.mem_iff_getElem?.mp h
 obtain ⟨a,b,h1,h2,rfl⟩:=zipD_get hi
 rw [h1] at h2
 cases h2
 exact ⟨a,List.mem_of_getElem? h1,rfl⟩
inductive Leaf:D→Prop
 | int (i:Int):Leaf (.int i)
 | str (s:Str) (h:PyData.strOk s=true):Leaf (.str s)
 | non:Leaf .non
theorem small_str (x:Str) (h:PyData.strOk x=true):(D.str x).pd.canLay0=true∧(D.str x).pd.depth≤1:=⟨by simp [D.pd,PyData.canLay0,h],by simp [D.pd,PyData.depth]⟩
theorem dEq_self {d:D} {n:Nat} (h:d.pd.canLay0=true∧d.pd.depth≤n) (hn:n≤64:=by decide):dEq d d=some (.bl true):=dEq_of (shp_of h hn) (shp_of h hn) (eqv_refl _ h.1)
theorem dNe_self {d:D} {n:Nat} (h:d.pd.canLay0=true∧d.pd.depth≤n) (hn:n≤64:=by decide):dNe d d=some (.bl false):=dNe_of (shp_of h hn) (shp_of h hn) (eqv_refl _ h.1)
end L2
end

noncomputable section
set_option Elab.async false
set_option linter.all false
set_option maxRecDepth 100000
namespace L2.Q
open PySem PySem.Spec PySem.SeqAt PyProof.Rows
structure PQTs (X:Cx) (C:Cfg) (p:Bool) (ifs:List Expr) (τ:PhiQB):Prop where
 mono:∀ β R R',(∀ d β,R d β→R' d β)→τ β R→τ β R'
 pt:PTs X ifs (tQB X C p τ)
theorem ts_nil {X:Cx} {C:Cfg}:PQTs X C true [] tauT:=⟨fun _ _ _ k h=>k _ _ h,pqts_nil⟩
theorem ts_one {X:Cx} {C:Cfg} {p:Bool} {c:Expr} {τ:PhiQB} (h:PQT X C p c τ):PQTs X C p [c] τ:=⟨h.mono,pqts_one h⟩
section
variable {X:Cx} {C:Cfg} {lk:List (Option Nat)} {γ:GamQ} {τ:PhiQB} {φ:PhiQ} {T:List Nat} {pc pe pi:Bool} {scope:Scope} {N':List Str} {tg it1 elt:Expr} {ifs:List Expr} {ι:PhiQI} {pos pos' spos:Pos} {y:Str} {i:Nat}
theorem lcA (N':List Str) (lk:List (Option Nat)) (L:linksB X.env.scope.names X.N scope N' lk=true) (hN':N'.Nodup) (hc:X.calm=true) (hi:PQI X C pi tg it1 ι)
  (htg:∀ U cl c s H ex,PBG (compCx X scope N' cl c s H ex) (C.u U) tg T γ) (hts:∀ U cl c s H ex,PQTs (compCx X scope N' cl c s H ex) (C.u U) pc ifs τ) (hel:∀ U cl c s H ex,PQ (compCx X scope N' cl c s H ex) (C.u U) pe elt φ)
  (hT:T.all (fun i=>match lk[i]? with | some (some _)=>false | _=>true)=true:=by rfl) (hs:∀ x,foldedSetIterable it1 X.env x=pure x:=by intro _; rfl):PQ X C (pi && (pc && pe)) (.ListComp elt [⟨tg,it1,ifs,0⟩] scope pos) (qComp lk ι γ τ φ) :=
 pq_lc (Links.of L) hN' hT hc hi (fun a=>htg _) (fun a cl c s H ex=>(hts _ cl c s H ex).pt) (hts (fun _=>False) [] 0 X.s₀ X.H₀ []).mono (fun a=>hel _) (htg (fun _=>False) [] 0 X.s₀ X.H₀ []).mono (hel (fun _=>False) [] 0 X.s₀ X.H₀ []).mono hs
theorem sLcA (o:Bool) (N':List Str) (lk:List (Option Nat)) (L:linksB X.env.scope.names X.N scope N' lk=true) (hN':N'.Nodup) (hc:X.calm=true) (hi:∀ U,PQI X (C.u U) pi tg it1 ι)
  (htg:∀ U cl c s H ex,PBG (compCx X scope N' cl c s H ex) (C.u U) tg T γ) (hts:∀ U cl c s H ex,PQTs (compCx X scope N' cl c s H ex) (C.u U) pc ifs τ) (hel:∀ U cl c s H ex,PQ (compCx X scope N' cl c s H ex) (C.u U) pe elt φ)
  (hN:X.N.Nodup) (hT:T.all (fun i=>match lk[i]? with | some (some _)=>false | _=>true)=true:=by rfl) (hy:X.N[i]?=some y:=by rfl) (hx:Loc X.env.scope y:=by first | exact .inl rfl | exact .inr rfl) (hf:X.fn y=true∨X.env.scope.names.lookup y=some .local:=by first | exact .inl rfl | exact .inr rfl | assumption)
  (hsw:swapsWith (.ListComp elt [⟨tg,it1,ifs,0⟩] scope pos) (some (.Name y pos')) spos.line X.env=pure true:=by rfl)
  (hev:evalThenUse (.ListComp elt [⟨tg,it1,ifs,0⟩] scope pos) X.env (assign (.Name y pos') X.env)=(do let _ ← comprehension (.ListComp elt [⟨tg,it1,ifs,0⟩] scope pos) scope X.env (firstIterPos [⟨tg,it1,ifs,0⟩] pos) (newList []) false (eval it1 X.env) (some (assign (.Name y pos') X.env)); pure ()):=by first | rfl | exact arm_evalThenUse_ListComp ..)
  (hs:∀ x,foldedSetIterable it1 X.env x=pure x:=by intro _; rfl) :
  PB X C (.Assign [.Name y pos'] (.ListComp elt [⟨tg,it1,ifs,0⟩] scope pos) spos) (fun E β=>qComp lk ι γ τ φ β fun d _ β'=>E.nx (β'.set i (some (match o with | true=>.own d | false=>.val true d)))) :=
 ps_lc (K:=fun _ _ _=>True) (Links.of L) hN' hT hc hi htg (fun U cl c s H ex=>(hts U cl c s H ex).pt) (hts (fun _=>False) [] 0 X.s₀ X.H₀ []).mono hel (htg (fun _=>False) [] 0 X.s₀ X.H₀ []).mono (hel (fun _=>False) [] 0 X.s₀ X.H₀ []).mono o hN hy hx hf hsw hev hs
theorem ix_m:IxR X (rD2M X dIx NF):=fun value slice pins s σ H x y v u Q I rx ry ⟨W,d1,d2,d,hd,r1,r2,e,q⟩ hs =>
 ix_dIx value slice pins s σ H x y v u Q I rx ry ⟨W,d1,d2,d,hd,r1,r2,e,fun v H' s r=>q v H' s r fun f=>RepD.flat f r⟩ hs
end
section
variable {P:Program} {w:World} {K:PySem.W.Frag} {mg:Str→Option Value} {base:Heap} {k:Nat} {f:Addr} {fd:FuncData} {ps:List Str}
end
end L2.Q
end

noncomputable section
set_option Elab.async false
set_option linter.all false
set_option maxRecDepth 100000
namespace L2.Q
open PySem PySem.Spec PySem.SeqAt PyProof.Rows
inductive Dp:Nat→D→Prop
 | leaf {n:Nat} {d:D} (h:Leaf d):Dp n d
 | tup {n:Nat} {es:List D} (l:es.length≤1000) (h:∀ x ∈ es,Dp n x):Dp (n+1) (.tup es)
 | lst {n:Nat} {es:List D} (l:es.length≤1000) (h:∀ x ∈ es,Dp n x):Dp (n+1) (.lst es)
theorem Dp.int {n:Nat} {i:Int}:Dp n (.int i):=.leaf (.int i)
theorem Dp.kD {n:Nat} {t:List Int} (l:t.length≤1000):Dp (n+1) (kD t):=.tup (by rw [List.length_map]; exact l) fun x hx=>by
 obtain ⟨i,_,rfl⟩:=List.mem_map.mp hx
 exact .int
def fSameQ (n:Nat):FD:=fun ds R=>∃ d,ds=[d,d]∧Dp n d∧R (.bl true)
theorem fSameQ.mono {n:Nat}:Mono (fSameQ n):=fun ds R R' k ⟨d,e,h,q⟩=>⟨d,e,h,k _ q⟩
end L2.Q
end

noncomputable section
set_option Elab.async false
set_option linter.all false
set_option maxRecDepth 100000
namespace L2.Q
open PySem PySem.Spec PySem.SeqAt PyProof.Rows
theorem cutV_ints (ns:List Int) (lo hi:Option Int):∃ ms:List Int,cutV (ns.map V.int) lo hi=ms.map V.int∧ms.length≤ns.length:=by
 refine ⟨(ns.drop (HT.sIx (ns.map V.int).length 0 lo)).take (HT.sIx (ns.map V.int).length (ns.map V.int).length hi - HT.sIx (ns.map V.int).length 0 lo),?_,?_⟩
 ·unfold cutV
  rw [List.map_take,List.map_drop]
 ·rw [List.length_take,List.length_drop]
  omega
section
variable {P:Program} {w:World}
theorem reps_ints {W:Addr→Prop} {H:Hp}:∀ ns:List Int,RepDs P w W H (ns.map D.int) (ns.map V.int)
 | []=>rfl
 | n::ns=>⟨_,_,rfl,rfl,reps_ints ns⟩
theorem sq_none {N:List Str} {vs:List V} {H H':Hp} {n:Nat} {ro:Bool} {U:Addr→Prop} (hl:(L2.start N vs).length=n) (sm:Same H H'):SQ' P w ⟨H,fun _=>False,ro,U⟩ (L2.start N vs) H' (List.replicate n none) (fun _=>[]) :=
 ⟨by rw [hl,List.length_replicate],fun i y d h=>(rep_none h).elim,fun i d h=>(rep_none h).elim,fun i ok h=>(rep_none h).elim,fun i a h=>(nomatch h),fun i j a h=>(nomatch h),fun i=>List.nodup_nil,sm.kp,fun a z e=>z (sm.free e),fun i y d h=>(rep_none h).elim⟩
theorem rt_bl {ro:Bool} {H H':Hp} {b:Bool} {v:V} (h:NewV P w ro H H' (.bl b) v):v=.bl b:=by
 cases ro with
 | true=>obtain ⟨A,h1,_⟩:=h; exact h1.1
 | false=>exact h
end
end L2.Q
end




noncomputable section
set_option Elab.async false
set_option linter.all false
set_option maxRecDepth 100000
namespace L2.Q
open PySem PySem.Spec PySem.SeqAt PyProof.Rows
section
variable {X:Cx} {C:Cfg} {tgs:List Expr} {γs:GamQs} {T:List Nat} {pos p2 p3 p4:Pos} {e a:Expr} {φ:PhiQ} {p:Bool}
def qRev (φ:PhiQ):PhiQ:=fun β R=>φ β fun x k β1=>∃ d,dRev x=some d∧kN NL d k.wk fun k'=>R d k' β1
theorem pq_rev {j:Nat} (ha:PQ X C p a φ):PQ X C p (.Subscript a (.Slice none none (some (.UnaryOp .USub (.Constant (.int 1) j p3) p4)) p2) pos) (qRev φ) :=
 ⟨fun β R R' k h=>ha.mono β _ _ (fun x kx β1 hq3=>by obtain ⟨d,e,q⟩:=hq3; exact ⟨d,e,q.mono fun _ z=>k _ _ _ z⟩) h,
  (pe_rev ha.pe).pre fun σ H Q ⟨β,own,s,h⟩=>tQ.of ha s h fun d k β1 v H1 own1 hq5 o1 r1=>by
    obtain ⟨d',e,q⟩:=hq5
    have rr:=RepD.anti av_wk r1.rep
    match d,e with
    | .lst ds,e =>
      cases e
      obtain ⟨c,vs,rfl,h1,n1,rs⟩:=rr
      refine .inl ⟨c,vs,rfl,h1,fun p hp=>?_⟩
      have sm:Same H1 (upd H1 p (.lst vs.reverse)):=Same.new hp
      have hw:¬ av C (Wn own1) k.wk p:=fun z=>o1.sq.dmK _ p z hp
      have r2:RepD X.prog X.w (av C (Wn own1) k.wk) (upd H1 p (.lst vs.reverse)) (.lst ds.reverse) (.ref p):=⟨p,_,rfl,upd_same,hw,(RepDs.rev rs).same sm⟩
      obtain ⟨k',q,r⟩:=KV.kN (Z:=(H,Wn own)) wk_wk r2 (fun n=>own_new (H:=H1) o1.sq.dmW o1.sq.dmn (fun a z e=>o1.sn.d a z e) n ⟨p,_,rfl,upd_same,fun z=>z hp,RepDs.flat n ((RepDs.rev rs).same sm)⟩) q
      exact q _ _ own1 (o1.same sm) r
    | .tup ds,e =>
      cases e
      obtain ⟨c,vs,rfl,h1,rs⟩:=rr
      refine .inr ⟨c,vs,rfl,h1,fun p hp=>?_⟩
      have sm:Same H1 (upd H1 p (.tup vs.reverse)):=Same.new hp
      exact q _ _ own1 (o1.same sm) (by
        have r2:RepD X.prog X.w (av C (Wn own1) k.wk) (upd H1 p (.tup vs.reverse)) (.tup ds.reverse) (.ref p):=⟨p,_,rfl,upd_same,(RepDs.rev rs).same sm⟩
        cases k <;> exact r2)⟩
end
end L2.Q
end

noncomputable section
set_option Elab.async false
set_option linter.all false
set_option maxRecDepth 100000
namespace L2.Q
open PySem PySem.Spec PySem.SeqAt PyProof.Rows
def okP (ns:List Int):Prop:=∃ x y z:Int,ns=[x,y,z]∧0≤x
def fPot:FD:=fun ds R=>∃ c:Int,ds=[.int c]∧∀ ns,okP ns→R (.lst (ns.map D.int))
theorem fPot.mono:Mono fPot:=fun ds R R' k ⟨c,e,q⟩=>⟨c,e,fun ns o=>k _ (q ns o)⟩
section
variable {P:Program} {w:World} {H:Hp} {h:Addr}
theorem own_ints {H:Hp}:∀ ns:List Int,Owns P w H (ns.map D.int) (ns.map V.int) []
 | []=>⟨rfl,rfl⟩
 | n::ns=>⟨_,_,[],[],rfl,rfl,⟨rfl,rfl⟩,own_ints ns⟩
theorem put_kp {xs ys:List V} (e:H h=some (.lst xs)):Kp (·=h) H (upd H h (.lst ys)):=⟨fun b u hb nb=>by rw [upd_ne nb]; exact hb,fun b xs' hb=>by rw [upd_ne fun z=>by rw [z,e] at hb; cases hb]; exact hb⟩
theorem put_dm {ys:List V}:∀ c,H c≠none→upd H h (.lst ys) c≠none:=fun c hc=>by
 by_cases z:c=h
 ·rw [z,upd_same]; exact fun z=>(nomatch z)
 ·rw [upd_ne z]; exact hc
theorem new_int {H':Hp} {r:Int}:NewV P w true H H' (.int r) (.int r):=newV_flat (W:=fun _=>False) rfl rfl
end
end L2.Q
end

noncomputable section
set_option Elab.async false
set_option linter.all false
set_option maxRecDepth 100000
set_option maxHeartbeats 4000000
namespace K30
open PySem L2 L2.Q
def top (i:Nat):Stmt:=PySem.Challenge.pw_archrow_k30_most_of_kinds.main.body.getD i (.Pass ⟨0,0,0,0⟩)
abbrev s_stretches_rising:Stmt:=top 5
abbrev s_partners_of:Stmt:=top 6
abbrev s_parts_left:Stmt:=top 7
abbrev s_greatest_table:Stmt:=top 8
abbrev s_number_with:Stmt:=top 9
abbrev s_least_number:Stmt:=top 10
abbrev s_best_choices:Stmt:=top 11
abbrev s_first_greatest:Stmt:=top 12
abbrev s_most_ties:Stmt:=top 14
abbrev s_most_of:Stmt:=top 15
abbrev s_table_of:Stmt:=top 16
abbrev s_one_each:Stmt:=top 17
abbrev s_row_of_kinds:Stmt:=top 19
abbrev s_most_of_kinds:Stmt:=top 20
abbrev s_check_gap:Stmt:=top 21
abbrev s_pairs_either_way:Stmt:=top 22
abbrev s_law_pot:Stmt:=top 24
abbrev s_law_take:Stmt:=top 25
abbrev s_law_kinds:Stmt:=top 26
abbrev s_law_pairs:Stmt:=top 27
abbrev s_law_gap:Stmt:=top 28
abbrev s_law_ties:Stmt:=top 29
abbrev s_law_most:Stmt:=top 30
abbrev s_law_same:Stmt:=top 31
abbrev s_law:Stmt:=top 32
section
variable {P:Program} {w:World} {K:PySem.W.Frag} {mg:Str→Option Value} {base:Heap}
theorem sc_law_pot:FnScope ["cell"] ["cell"] (defScope s_law_pot):=⟨rfl,rfl,rfl,by decide +kernel,rfl,by decide +kernel,by decide +kernel⟩
theorem ok_pot {f:Addr} {fd:FuncData} (F:Fun K "_law_pot" "_law_pot" s_law_pot f fd) (B:Bs mg):FnOk P w K mg base CX0 1 f fd ["cell"] (spQ P w true fPot):=by
 refine F.ok sc_law_pot (fun vs H Q E h=>?_) (fun cdv A outer s H vs Q E hr h=>?_)
 ·obtain ⟨ds,r,c,rfl,_⟩:=h
  obtain ⟨x,rr,rfl,_,hr⟩:=r
  cases (show rr=[] from hr)
  rfl
 ·obtain ⟨ds,r,c,rfl,q⟩:=h
  obtain ⟨x,rr,rfl,hx,hr'⟩:=r
  cases (show rr=[] from hr')
  cases (show x=V.int c from hx)
  refine ⟨_,pss_one (ps_ret (pe_lst (pa_cons (pe_callB (call_max2 rfl) (by rfl) B.max bt_max (pa_cons pe_int (pa_cons (pe_op op_sub (pv 0) (pe_op op_pow pe_int pe_int)) pa_nil)))
   (pa_cons (pe_op op_mod (pv 0) pe_int) (pa_cons pe_int pa_nil))))),?_⟩
  refine ⟨_,rfl,_,_,rfl,rfl,pow18,_,_,rfl,rfl,_,_,rfl,?_⟩
  refine ⟨_,rfl,_,_,rfl,rfl,(by show (0:Int) < 99999999977; decide),(by show 3≤sizeLine; decide),fun p hp=>?_⟩
  refine q [_,_,_] ⟨_,_,_,rfl,?_⟩ _ _ (Same.new hp) ⟨[p],⟨p,_,[],rfl,upd_same,rfl,own_ints [_,_,_]⟩,by simp,fun c hc=>by rw [List.mem_singleton.mp hc]; exact hp⟩
  split <;> omega
theorem sc_law_take:FnScope ["pot","many","found","number"] ["pot","many"] (defScope s_law_take):=⟨rfl,rfl,rfl,by decide +kernel,rfl,by decide +kernel,by decide +kernel⟩
theorem ok_take {f:Addr} {fd:FuncData} (F:Fun K "_law_take" "_law_take" s_law_take f fd):FnOk P w K mg base CX0 1 f fd ["pot","many"] (spQH P w okP true fTake):=by
 refine F.ok sc_law_take (fun vs H Q E h=>?_) (fun cdv A outer s H vs Q E hr h=>?_)
 ·obtain ⟨h,vs',ds,ns,rfl,_,_,r,n,rfl,_⟩:=h
  obtain ⟨x,rr,rfl,_,hr⟩:=r
  cases (show rr=[] from hr)
  rfl
 ·obtain ⟨h,vs',ds,ns,rfl,e,⟨x,y,z,rfl,x0⟩,r,n,rfl,n0,n1,q⟩:=h
  obtain ⟨x',rr,rfl,hx',hr'⟩:=r
  cases (show rr=[] from hr')
  cases (show x'=V.int n from hx')
  have hx:H h=some (.lst [.int x,.int y,.int z]):=e
  refine ⟨_,pss_cons (ps_if (pt_cmpR op_gt (pe_ix ix_list (pv 0) pe_int (fun _ _=>rfl)) pe_int (nomark _))
    (pss_cons (ps_set (i:=2) sc_law_take.nd rfl (Or.inl rfl) (pe_op op_mod (pe_ix ix_list (pv 0) pe_int (fun _ _=>rfl)) (pv 1)))
    (pss_cons (ps_asg (pe_op op_fdivB (pe_ix ix_list (pv 0) pe_int (fun _ _=>rfl)) (pv 1)) (pg_sub (pv 0) pe_int set_list))
    (pss_one (ps_ret (pv 2))))) pss_nil)
   (pss_cons (ps_asg (pe_op op_add (pe_ix ix_list (pv 0) pe_int (fun _ _=>rfl)) pe_int) (pg_sub (pv 0) pe_int set_list))
   (pss_cons (ps_set (i:=3) sc_law_take.nd rfl (Or.inl rfl) (pe_op op_mod (pe_op op_add (pe_ix ix_list (pv 0) pe_int (fun _ _=>rfl)) (pe_op op_mul pe_int (pe_ix ix_list (pv 0) pe_int (fun _ _=>rfl)))) pe_int))
   (pss_cons (ps_set (i:=3) sc_law_take.nd rfl (Or.inl rfl) (pe_op op_mod (pe_op op_mul (pv 3) (pv 3)) pe_int))
   (pss_cons (ps_set (i:=3) sc_law_take.nd rfl (Or.inl rfl) (pe_op op_mod (pe_op op_mul (pv 3) (pe_op op_add (pv 3) pe_int)) pe_int))
   (pss_one (ps_ret (pe_op op_mod (pe_op op_fdivB (pv 3) pe_int) (pv 1)))))))),?_⟩
  refine ⟨_,rfl,h,_,_,_,rfl,rfl,SqL.of hx,rfl,_,_,rfl,rfl,_,rfl,?_⟩
  refine iteD (fun hp=>?_) (fun hp=>?_)
  ·refine ⟨_,rfl,h,_,_,_,rfl,rfl,SqL.of hx,rfl,_,rfl,_,_,rfl,rfl,n0,?_⟩
   refine ⟨_,rfl,h,_,_,_,rfl,rfl,SqL.of hx,rfl,_,rfl,_,_,rfl,rfl,CDivB.of n0 n1,?_⟩
   refine ⟨_,rfl,h,_,_,0,rfl,rfl,hx,rfl,?_⟩
   have m:=mod_lt' (a:=x) n0
   exact ⟨_,rfl,q _ m.1 m.2 _ _ [x / n,y,z] (put_kp hx) put_dm upd_same ⟨_,_,_,rfl,Int.ediv_nonneg x0 (Int.le_of_lt n0)⟩ new_int⟩
  ·refine ⟨_,rfl,h,_,_,_,rfl,rfl,SqL.of hx,rfl,_,_,rfl,rfl,?_⟩
   refine ⟨_,rfl,h,_,_,2,rfl,rfl,hx,rfl,?_⟩
   have hy:upd H h (.lst ([V.int x,V.int y,V.int z].set 2 (V.int (z+1)))) h=some (.lst [V.int x,V.int y,V.int (z+1)]):=upd_same
   refine ⟨_,rfl,h,_,_,_,rfl,rfl,SqL.of hy,rfl,_,rfl,h,_,_,_,rfl,rfl,SqL.of hy,rfl,_,_,rfl,rfl,.inl ⟨by decide,by decide⟩,_,_,rfl,rfl,_,_,rfl,rfl,(by show (0:Int) < 99999999947; decide),?_⟩
   have m1:=mod_lt' (a:=y+700001 * (z+1)) (b:=99999999947) (by decide)
   refine ⟨_,rfl,_,rfl,_,_,rfl,rfl,.inl ⟨Int.lt_of_lt_of_le (by decide) m1.1,Int.lt_trans m1.2 (by decide)⟩,_,_,rfl,rfl,(by show (0:Int) < 99999999821; decide),?_⟩
   have m2:=mod_lt' (a:=(y+700001 * (z+1)) % 99999999947 * ((y+700001 * (z+1)) % 99999999947)) (b:=99999999821) (by decide)
   refine ⟨_,rfl,_,rfl,_,_,rfl,rfl,_,_,rfl,rfl,.inl ⟨Int.lt_of_lt_of_le (by decide) m2.1,Int.lt_trans m2.2 (by decide)⟩,_,_,rfl,rfl,(by show (0:Int) < 9999999967; decide),?_⟩
   refine ⟨_,rfl,_,_,rfl,rfl,CDivB.of (by decide) (by decide),_,rfl,_,_,rfl,rfl,n0,?_⟩
   have m:=fun a:Int=>mod_lt' (a:=a) n0
   exact q _ (m _).1 (m _).2 _ _ [x,y,z+1] (put_kp hx) put_dm upd_same ⟨_,_,_,rfl,x0⟩ new_int
end
end K30
end

noncomputable section
set_option Elab.async false
set_option linter.all false
set_option maxRecDepth 100000
set_option maxHeartbeats 4000000
namespace L2
open PySem PySem.Spec PyProof.Rows
section
variable {κ:Type} [DecidableEq κ]
def valV (kvs:List (κ × V)) (k:κ):Option V:=(kvs.find? fun kv=>decide (kv.1=k)).map (·.2)
def putK (kvs:List (κ × V)) (k:κ) (v:V):List (κ × V) :=
 if (kvs.any fun kv=>decide (kv.1=k))=true then kvs.map (fun kv=>if kv.1=k then (kv.1,v) else kv) else kvs++[(k,v)]
theorem valV_pos {p:κ × V} {r:List (κ × V)} {k:κ} (e:p.1=k):valV (p::r) k=some p.2:=by simp [valV,List.find?_cons,e]
theorem valV_neg {p:κ × V} {r:List (κ × V)} {k:κ} (e:¬ p.1=k):valV (p::r) k=valV r k:=by simp [valV,List.find?_cons,e]
theorem valV_any (k:κ):∀ kvs:List (κ × V),(kvs.any fun kv=>decide (kv.1=k))=(valV kvs k).isSome
 | []=>rfl
 | p::r=>by
  rw [List.any_cons]
  by_cases e:p.1=k
  ·simp only [valV_pos e,decide_eq_true e,Bool.true_or,Option.isSome_some]
  ·rw [valV_neg e,decide_eq_false e,Bool.false_or]; exact valV_any k r
theorem length_putK (kvs:List (κ × V)) (k:κ) (v:V):(putK kvs k v).length≤kvs.length+1:=by
 unfold putK
 split
 ·rw [List.length_map]; lia
 ·rw [List.length_append,List.length_cons,List.length_nil]; lia
theorem putK_new {kvs:List (κ × V)} {k:κ} (v:V) (h:valV kvs k=none):putK kvs k v=kvs++[(k,v)]:=by
 unfold putK
 rw [valV_any,h]
 exact if_neg (by decide)
theorem RelO.isSome_eq {o:Option V} {u:Option Value} (r:RelO o u):o.isSome=u.isSome:=by
 cases o with
 | none=>cases u with
  | none=>rfl
  | some _=>exact (show False from r).elim
 | some _=>cases u with
  | none=>exact (show False from r).elim
  | some _=>rfl
theorem KV.val {kvs:List (κ × V)} {vs:List (κ × Value)} (r:KV kvs vs) (k:κ):RelO (valV kvs k) (valueAt vs k):=by
 unfold KV at r
 induction r with
 | nil=>exact True.intro
 | @cons p q ps qs h t ih =>
  obtain ⟨h1,h2⟩:=h
  by_cases e:p.1=k
  ·have e':q.1=k:=h1.symm.trans e
   have b:valueAt (q::qs) k=some q.2:=by simp [valueAt,List.find?_cons,e']
   rw [valV_pos e,b]; exact h2
  ·have e':¬ q.1=k:=fun z=>e (h1.trans z)
   have b:valueAt (q::qs) k=valueAt qs k:=by simp [valueAt,List.find?_cons,e']
   rw [valV_neg e,b]; exact ih
theorem KV.any {kvs:List (κ × V)} {vs:List (κ × Value)} (r:KV kvs vs) (k:κ):(kvs.any fun kv=>decide (kv.1=k))=vs.any fun kv=>decide (kv.1=k):=by
 unfold KV at r
 induction r with
 | nil=>rfl
 | cons h t ih=>rw [List.any_cons,List.any_cons,ih,h.1]
theorem KV.repl {kvs:List (κ × V)} {vs:List (κ × Value)} (r:KV kvs vs) (k:κ) {y:V} {u:Value} (ry:RelV y u) :
  KV (kvs.map fun kv=>if kv.1=k then (kv.1,y) else kv) (vs.map fun kv=>if kv.1=k then (kv.1,u) else kv):=by
 unfold KV at r ⊢
 induction r with
 | nil=>exact .nil
 | @cons p q ps qs h t ih =>
  rw [List.map_cons,List.map_cons]
  refine .cons ?_ ih
  obtain ⟨h1,h2⟩:=h
  by_cases e:p.1=k
  ·rw [if_pos e,if_pos (h1.symm.trans e)]; exact ⟨h1,ry⟩
  ·rw [if_neg e,if_neg (fun z=>e (h1.trans z))]; exact ⟨h1,h2⟩
theorem KV.put {kvs:List (κ × V)} {vs:List (κ × Value)} (r:KV kvs vs) (k:κ) {y:V} {u:Value} (ry:RelV y u):KV (putK kvs k y) (stored vs k u):=by
 unfold putK stored
 rw [r.any k]
 by_cases e:(vs.any fun kv=>decide (kv.1=k))=true
 ·rw [if_pos e,if_pos e]; exact r.repl k ry
 ·rw [if_neg e,if_neg e]; exact Paired.snoc r ⟨rfl,ry⟩
theorem KV.length {kvs:List (κ × V)} {vs:List (κ × Value)} (r:KV kvs vs):kvs.length=vs.length:=Paired.length r
end
theorem kV_is {P:Program} {w:World} {k:Key} {u:Value} (r:RelV (kV k) u):(mixKind P w).is k u=true:=by
 cases k with
 | inl i=>obtain ⟨t,e⟩:=(show ∃ t,u=Value.int i t from r); subst e; exact mixKind_int P w i t
 | inr x=>obtain ⟨t,e⟩:=(show ∃ t,u=Value.str x t from r); subst e; exact mixKind_str P w x t
theorem items_are {P:Program} {w:World}:∀ {ks:List Key} {us:List Value},Vals (ks.map kV) us→ItemsAre (mixKind P w) ks us
 | [],_,r=>by rw [List.map_nil] at r; cases r; exact .nil
 | k::ks,_,r=>by
  rw [List.map_cons] at r
  cases r with
  | cons h t=>exact .cons (kV_is h) (items_are t)
abbrev KT (H:Hp):List (List Key × V)→List (List Key × Addr × Value)→Prop:=Paired fun p q=>p.1=q.1∧H q.2.1=some (.tup (p.1.map kV))∧RelV p.2 q.2.2
theorem KT.val {H:Hp} {kvs:List (List Key × V)} {xs:List (List Key × Addr × Value)} (r:KT H kvs xs) (k:List Key):RelO (valV kvs k) ((atKey xs k).map (·.2)):=by
 induction r with
 | nil=>exact True.intro
 | @cons p q ps qs h t ih =>
  obtain ⟨h1,_,h2⟩:=h
  by_cases e:p.1=k
  ·have e':q.1=k:=h1.symm.trans e
   have b:atKey (q::qs) k=some q.2:=by simp [atKey,List.find?_cons,e']
   rw [valV_pos e,b]; exact h2
  ·have e':¬ q.1=k:=fun z=>e (h1.trans z)
   have b:atKey (q::qs) k=atKey qs k:=by simp [atKey,List.find?_cons,e']
   rw [valV_neg e,b]; exact ih
theorem KT.repl {H:Hp} {kvs:List (List Key × V)} {xs:List (List Key × Addr × Value)} (r:KT H kvs xs) (k:List Key) {y:V} {u:Value} (ry:RelV y u) :
  KT H (kvs.map fun kv=>if kv.1=k then (kv.1,y) else kv) (xs.map (putAt k u)):=by
 induction r with
 | nil=>exact .nil
 | @cons p q ps qs h t ih =>
  rw [List.map_cons,List.map_cons]
  refine .cons ?_ ih
  obtain ⟨h1,h2,h3⟩:=h
  unfold putAt
  by_cases e:p.1=k
  ·rw [if_pos e,if_pos (h1.symm.trans e)]; exact ⟨h1,h2,ry⟩
  ·rw [if_neg e,if_neg (fun z=>e (h1.trans z))]; exact ⟨h1,h2,h3⟩
theorem KT.put {H:Hp} {kvs:List (List Key × V)} {xs:List (List Key × Addr × Value)} (r:KT H kvs xs) (k:List Key) {b:Addr} {y:V} {u:Value} (hb:H b=some (.tup (k.map kV))) (ry:RelV y u) :
  KT H (putK kvs k y) (storedH xs k b u):=by
 have e:(kvs.any fun kv=>decide (kv.1=k))=(atKey xs k).isSome:=by
  rw [valV_any,(r.val k).isSome_eq,Option.isSome_map]
 unfold putK storedH
 rw [e]
 by_cases q:(atKey xs k).isSome=true
 ·rw [if_pos q,if_pos q]; exact r.repl k ry
 ·rw [if_neg q,if_neg q]; exact Paired.snoc r ⟨rfl,hb,ry⟩
theorem KT.keeps {H H':Hp} {kvs:List (List Key × V)} {xs:List (List Key × Addr × Value)} (r:KT H kvs xs) (ht:∀ b ys,H b=some (.tup ys)→H' b=some (.tup ys)):KT H' kvs xs :=
 Paired.mapP r fun _ _ z=>⟨z.1,ht _ _ z.2.1,z.2.2⟩
section
variable {P:Program} {w:World} {H:Hp} {h:Heap} {a:Addr}
theorem rd_of {u:HO} (ok:HOk P w H h) (e:Rd H a u):ObjOk P w H h a u:=e.ok ok
theorem dk_rd {kvs:List (Key × V)} (ok:HOk P w H h) (e:Rd H a (.dK kvs)):kvs.length≤sizeLine∧(a == sysModules)=false∧∃ vs,KV kvs vs∧h.DictOf (mixKind P w) a vs :=
 show ObjOk P w H h a (.dK kvs) from rd_of ok e
theorem dk_of {kvs:List (Key × V)} (ok:HOk P w H h) (e:H a=some (.dK kvs)):kvs.length≤sizeLine∧(a == sysModules)=false∧∃ vs,KV kvs vs∧h.DictOf (mixKind P w) a vs:=dk_rd ok (.inl e)
theorem key_of {ks:List Key} (ok:HOk P w H h) (e:H a=some (.tup (ks.map kV))):(tupleKind (mixKind P w)).is h ks a:=by
 obtain ⟨_,its,r,o,h1,h2,n,h3⟩:=(show ObjOk P w H h a (.tup (ks.map kV)) from ok a _ e)
 exact ⟨o,its.toArray,n,h1,h2,h3,by simpa using items_are r⟩
theorem dt_rd {kvs:List (List Key × V)} (ok:HOk P w H h) (e:Rd H a (.dT kvs)):kvs.length≤sizeLine∧(a == sysModules)=false ∧
  ∃ xs,KT H kvs xs∧h.DictOfH (tupleKind (mixKind P w)) a xs:=by
 obtain ⟨z,y,xs,r,o,es,ep,h1,h2,h3,h4,h5⟩:=(show ObjOk P w H h a (.dT kvs) from rd_of ok e)
 refine ⟨z,y,xs,r,o,es,ep,h1,h2,h3,h4,fun x hx=>?_,h5⟩
 have all:∀ {l:List (List Key × V)} {m:List (List Key × Addr × Value)},KT H l m→∀ x ∈ m,(tupleKind (mixKind P w)).is h x.1 x.2.1:=by
  intro l m q
  induction q with
  | nil=>intro x hx; exact nomatch hx
  | @cons p q ps qs hq t ih =>
   intro x hx
   rcases List.mem_cons.mp hx with e | hx
   ·subst e
    exact key_of ok (by rw [← hq.1]; exact hq.2.1)
   ·exact ih x hx
 exact all r x hx
theorem dt_of {kvs:List (List Key × V)} (ok:HOk P w H h) (e:H a=some (.dT kvs)):kvs.length≤sizeLine∧(a == sysModules)=false ∧
  ∃ xs,KT H kvs xs∧h.DictOfH (tupleKind (mixKind P w)) a xs:=dt_rd ok (.inl e)
end
def DGet (H:Hp) (a:Addr) (y:V) (r:Option V):Prop :=
 (∃ kvs k,Rd H a (.dK kvs)∧y=kV k∧r=valV kvs k)∨∃ kvs k b,Rd H a (.dT kvs)∧y=.ref b∧H b=some (.tup (k.map kV))∧r=valV kvs k
def DPut (H:Hp) (a:Addr) (y v:V) (H':Hp):Prop :=
 (∃ kvs k,H a=some (.dK kvs)∧y=kV k∧kvs.length < sizeLine∧H'=upd H a (.dK (putK kvs k v))) ∨
 ∃ kvs k b,H a=some (.dT kvs)∧y=.ref b∧H b=some (.tup (k.map kV))∧kvs.length < sizeLine∧H'=upd H a (.dT (putK kvs k v))
theorem DGet.t {H:Hp} {a b:Addr} {kvs:List (List Key × V)} {k:List Key} (e:H a=some (.dT kvs)) (eb:H b=some (.tup (k.map kV))):DGet H a (.ref b) (valV kvs k):=.inr ⟨kvs,k,b,.inl e,rfl,eb,rfl⟩
section
variable {X:Cx} {pins:List (Addr × Obj)} {σ:St} {H:Hp} {s:Shared} {a:Addr} {y v:V} {u r:Value} {o:Option V} {A:Around} {E:Value→Shared→Prop}
theorem Inv.big (I:Inv X pins σ H s):sysModules < s.heap.objs.size:=by
 have h:mainGlobals < s.heap.objs.size:=(I.mod.glob.keeps I.bk).lt
 exact Nat.lt_trans (by decide) h
theorem d_getItem {Q:Value→Shared→Prop} (hu:A.units+1 < cLine) (I:Inv X pins σ H s) (g:DGet H a y (some v)) (ry:RelV y u) (h:∀ w' s',Inv X pins σ H s'→RelV v w'→Q w' s') :
  wpAny (model X.prog X.w) A (getItem (.ref a) u) Q E s:=by
 rcases g with ⟨kvs,k,e,ey,l⟩ | ⟨kvs,k,b,e,ey,eb,l⟩
 ·subst ey
  obtain ⟨z,hd,vs,rel,dd⟩:=dk_rd I.hok e
  obtain ⟨w',hw,rw'⟩:=RelO.some_of (v:=v) (o:=valueAt vs k) (by rw [l]; exact rel.val k)
  exact wpAny_getItem_of (kV_is ry) dd.mapOf hw (h w' _ (I.tok _) rw')
 ·subst ey
  cases (show u=Value.ref b from ry)
  obtain ⟨z,hd,xs,rel,dd⟩:=dt_rd I.hok e
  obtain ⟨w',hw,rw'⟩:=RelO.some_of (v:=v) (o:=(atKey xs k).map (·.2)) (by rw [l]; exact rel.val k)
  obtain ⟨p,hp,hp2⟩:=Option.map_eq_some_iff.mp hw
  refine wpAny_getItem_heap (tupleKind_room_in1 hu) (key_of I.hok eb) dd hp ?_
  rw [hp2]
  exact h w' _ (I.tok _) rw'
theorem d_in {Q:Value→Shared→Prop} (hu:A.units+1 < cLine) (I:Inv X pins σ H s) (g:DGet H a y o) (ry:RelV y u) (h:∀ s',Inv X pins σ H s'→Q (.bool o.isSome) s') :
  wpAny (model X.prog X.w) A (compareOp .In u (.ref a)) Q E s:=by
 rcases g with ⟨kvs,k,e,ey,l⟩ | ⟨kvs,k,b,e,ey,eb,l⟩
 ·subst ey
  obtain ⟨z,hd,vs,rel,dd⟩:=dk_rd I.hok e
  refine wpAny_in_of (kV_is ry) hd dd.mapOf ?_
  rw [← (rel.val k).isSome_eq,← l]
  exact h _ (I.tok _)
 ·subst ey
  cases (show u=Value.ref b from ry)
  obtain ⟨z,hd,xs,rel,dd⟩:=dt_rd I.hok e
  refine wpAny_in_heap (tupleKind_room_in1 hu) (key_of I.hok eb) hd dd ?_
  have q:=(rel.val k).isSome_eq
  rw [Option.isSome_map] at q
  rw [← q,← l]
  exact h _ (I.tok _)
theorem d_write {h':Heap} {t':Nat} {ob:HO} (I:Inv X pins σ H s) (mu:Mut (H a)) (hs:Heap.SameBut a s.heap h') (he:∃ q,h'.get? a=some q) (new:ObjOk X.prog X.w (upd H a ob) h' a ob) :
  Inv X pins σ (upd H a ob) { s with heap:=h',toks:=t' } :=
 I.write (x:=a) (e:=a) mu (.inl rfl) (fun b q hb z=>(hs.2 b hb).trans z) he new
theorem dk_new {P:Program} {w:World} {H':Hp} {h':Heap} {kvs:List (Key × V)} {vs:List (Key × Value)} (z:kvs.length≤sizeLine) (hd:(a == sysModules)=false) (rel:KV kvs vs) (dd:h'.DictOf (mixKind P w) a vs) :
  ObjOk P w H' h' a (.dK kvs):=⟨z,hd,vs,rel,dd⟩
theorem d_setItem {H':Hp} {Q:Unit→Shared→Prop} (hu:A.units+1 < cLine) (I:Inv X pins σ H s) (g:DPut H a y v H') (ry:RelV y u) (rv:RelV v r) (h:∀ s',Inv X pins σ H' s'→Q () s') :
  wpAny (model X.prog X.w) A (setItem (.ref a) u r) Q E s:=by
 rcases g with ⟨kvs,k,e,ey,l,eH⟩ | ⟨kvs,k,b,e,ey,eb,l,eH⟩
 ·subst ey eH
  obtain ⟨z,hd,vs,rel,dd⟩:=dk_of I.hok e
  have hz:vs.length≤sizeLine:=by rw [← rel.length]; exact z
  have hl:(putK kvs k v).length≤sizeLine:=by have:=length_putK kvs k v; lia
  refine wpAny_setItem_pairs (hsz:=hz) (kV_is ry) dd fun h' dd' hs=>h _ ?_
  have he:∃ q,h'.get? a=some q:=let ⟨q,_,_,hq,_⟩:=dd'; ⟨q,hq⟩
  exact d_write I (by rw [e]; exact True.intro) hs he (dk_new hl hd (rel.put k rv) dd')
 ·subst ey eH
  cases (show u=Value.ref b from ry)
  obtain ⟨z,hd,xs,rel,dd⟩:=dt_of I.hok e
  have hz:xs.length≤sizeLine:=by rw [← Paired.length rel]; exact z
  have hl:(putK kvs k v).length≤sizeLine:=by have:=length_putK kvs k v; lia
  refine wpAny_setItem_heap (hsz:=hz) (tupleKind_room_in1 hu) (key_of I.hok eb) dd fun h' dd' hs=>h _ ?_
  obtain ⟨q,es,ep,hq,h2,h3,h4,_,h5⟩:=dd'
  refine d_write I (by rw [e]; exact True.intro) hs ⟨q,hq⟩ ⟨hl,hd,_,(rel.put k eb rv).keeps fun c ys ec=>?_,q,es,ep,hq,h2,h3,h4,h5⟩
  rw [upd_ne (ne_of ec e (fun z=>nomatch z))]
  exact ec
end
section
variable {X:Cx} {pins:List (Addr × Obj)} {σ:St} {H:Hp} {s:Shared} {a:Addr} {kvs:List (Key × V)} {k:Key} {u:Value} {A:Around} {E:Value→Shared→Prop}
end
theorem dict_typeIs {X:Cx} {pins:List (Addr × Obj)} {σ:St} {H:Hp} {s:Shared} {a:Addr} {y:V} {o:Option V} (I:Inv X pins σ H s) (g:DGet H a y o):s.TypeIs (.ref a) "dict" := by
 rcases g with ⟨kvs,k,e,_,_⟩ | ⟨kvs,k,b,e,_,_,_⟩
 ·obtain ⟨_,_,vs,_,dd⟩:=dk_rd I.hok e
  exact dd.typeIs
 ·obtain ⟨_,_,xs,_,dd⟩:=dt_rd I.hok e
  exact dd.typeIs
def sDPut (td ty tv:TE):TS:=fun D σ H=>tv σ H fun v H1=>td σ H1 fun x H2=>ty σ H2 fun y H3=>∃ a H4,x=.ref a∧DPut H3 a y v H4∧D.nx σ H4
section
variable {X:Cx} {o i e value:Expr} {pos pos' tpos:Pos} {td ty tv:TE}
theorem ps_dput (hu:X.A.units+1 < cLine) (ho:PE X o td) (hi:PE X i ty) (hv:PE X value tv) (hs:swapsWith value (some (.Subscript o i pos')) pos.line X.env=pure false) :
  PS X (.Assign [.Subscript o i pos'] value pos) (sDPut td ty tv):=by
 intro pins s σ H D I h
 refine wpAny_Assign_Subscript (thn (hv pins s σ H _ I h) fun r s1 ⟨v,H1,I1,rv,q1⟩=>thn (ho pins s1 σ H1 _ I1 q1) fun u s2 ⟨x,H2,I2,rx,q2⟩=>thn (hi pins s2 σ H2 _ I2 q2) fun iv s3 ⟨y,H3,I3,ry,a,H4,ex,g,q3⟩=>?_) hs
 subst ex
 obtain rfl:u=Value.ref a:=rx
 exact d_setItem hu I3 g ry rv fun s4 I4=>⟨σ,H4,I4,q3⟩
end
theorem dt_empty {P:Program} {w:World} {H:Hp} (h:Heap) (hb:sysModules < h.objs.size):ObjOk P w H (h.push { cls:=.type "dict",data:=.dict #[] }) h.objs.size (.dT []) :=
 ⟨Nat.zero_le _,beq_eq_false_iff_ne.mpr (Ne.symm (Nat.ne_of_lt hb)),[],.nil,_,#[],0,Heap.get?_push_size _ rfl,⟨rfl,rfl,rfl⟩,rfl,rfl,List.nodup_nil⟩
def tDNewT:TE:=fun _ H Q=>∀ p,H p=none→Q (.ref p) (upd H p (.dT []))
section
variable {X:Cx} {pos:Pos}
theorem pe_dnewT:PE X (.Dict [] [] pos) tDNewT:=fun pins s σ H Q I h =>
 wpAny_Dict_empty ⟨.ref s.heap.objs.size,_,I.laid (a:=s.heap.objs.size) (o:=.dT []) (t':=s.toks) (fun _ _ q=>Heap.get?_push_of_some _ q) (Nat.le_refl _) (dt_empty s.heap I.big),rfl,h _ (I.hok.fresh (Nat.le_refl _))⟩
end
section
variable {X:Cx} {pins:List (Addr × Obj)} {σ:St} {H:Hp} {s:Shared} {a:Addr} {y d:V} {u r:Value} {o:Option V} {A:Around} {E:Value→Shared→Prop}
end
section
variable {X:Cx} {o e f:Expr} {apos cpos:Pos} {td ty tx:TE}
end
section
variable {X:Cx} {pins:List (Addr × Obj)} {σ:St} {H:Hp} {s:Shared} {a:Addr} {kvs:List (Key × V)} {A:Around} {E:Value→Shared→Prop}
end
section
variable {X:Cx} {pins:List (Addr × Obj)} {σ:St} {H:Hp} {s:Shared} {a:Addr} {y:V} {u:Value} {A:Around} {E:Value→Shared→Prop}
end
end L2
namespace L2
open PySem PySem.Spec PyProof.Rows
section
variable {X:Cx}
end
section
variable {κ:Type} [DecidableEq κ]
end
end L2
end

noncomputable section
set_option Elab.async false
set_option linter.all false
set_option maxRecDepth 100000
namespace L2.Q
open PySem PySem.Spec PySem.SeqAt PyProof.Rows
theorem _root_.L2.Room.units1 {k:Nat} {A:Around} (r:Room k A):A.units+1 < cLine:=by have:=r.un; omega
def iK (t:List Int):List Key:=t.map Sum.inl
theorem iK_inj {t u:List Int} (h:iK t=iK u):t=u:=by
 unfold iK at h
 induction t generalizing u with
 | nil=>cases u with | nil=>rfl | cons _ _=>cases h
 | cons a t ih =>
  cases u with
  | nil=>cases h
  | cons b u =>
   rw [List.map_cons,List.map_cons] at h
   injection h with h1 h2
   injection h1 with h1
   rw [h1,ih h2]
theorem iK_kV (t:List Int):(iK t).map kV=t.map V.int:=by
 unfold iK
 rw [List.map_map]
 rfl
def dP (ts:List (List Int)) (b:Bool):D:=.dT (ts.map iK) (List.replicate ts.length (.bl b))
def addT (ts:List (List Int)) (t:List Int):List (List Int):=if t ∈ ts then ts else ts++[t]
theorem rep_zip {v:V}:∀ {ks:List (List Key)} {n:Nat},ks.length=n→ks.zip (List.replicate n v)=ks.map fun k=>(k,v)
 | [],_,_=>by simp
 | k::ks,0,h=>by cases h
 | k::ks,n+1,h=>by
  rw [List.replicate_succ,List.zip_cons_cons,rep_zip (Nat.succ.inj h)]
  rfl
theorem put_rep {v:V} {ts:List (List Int)} {t:List Int}:putK ((ts.map iK).map fun k=>(k,v)) (iK t) v=((addT ts t).map iK).map fun k=>(k,v):=by
 unfold putK addT
 have any:(((ts.map iK).map fun k=>(k,v)).any fun kv=>decide (kv.1=iK t))=decide (t ∈ ts):=by
  rw [Bool.eq_iff_iff,List.any_eq_true,decide_eq_true_eq]
  constructor
  ·rintro ⟨kv,h1,h2⟩
   obtain ⟨k,h3,rfl⟩:=List.mem_map.mp h1
   obtain ⟨u,h4,rfl⟩:=List.mem_map.mp h3
   have:=iK_inj (of_decide_eq_true h2)
   rw [← this]; exact h4
  ·intro h
   exact ⟨(iK t,v),List.mem_map.mpr ⟨iK t,List.mem_map.mpr ⟨t,h,rfl⟩,rfl⟩,by simp⟩
 rw [any]
 by_cases h:t ∈ ts
 ·rw [if_pos (by simpa using h),if_pos h,List.map_map]
  refine List.map_congr_left fun k _=>?_
  show (if k=iK t then (k,v) else (k,v))=(k,v)
  split <;> rfl
 ·rw [if_neg (by simpa using h),if_neg h,List.map_append,List.map_append]
  rfl
section
variable {P:Program} {w:World} {H:Hp} {a:Addr}
theorem owns_bl {b:Bool}:∀ {n:Nat},Owns P w H (List.replicate n (.bl b)) (List.replicate n (V.bl b)) []
 | 0=>⟨rfl,rfl⟩
 | n+1=>⟨_,_,[],[],rfl,rfl,⟨rfl,rfl⟩,owns_bl⟩
theorem bl_owns {b:Bool}:∀ {n:Nat} {vs:List V} {A:List Addr},Owns P w H (List.replicate n (.bl b)) vs A→vs=List.replicate n (V.bl b)∧A=[]
 | 0,_,_,h=>h
 | n+1,_,_,⟨v,r,A1,A2,e,eA,h1,h2⟩=>by
  obtain ⟨e1,e2⟩:=h1
  obtain ⟨e3,e4⟩:=bl_owns h2
  rw [e,eA,e1,e2,e3,e4]
  exact ⟨rfl,rfl⟩
theorem own_dP {ts:List (List Int)} {b:Bool} (h:H a=some (.dT ((ts.map iK).map fun k=>(k,V.bl b)))):Own P w H (dP ts b) (.ref a) [a] :=
 ⟨a,List.replicate ts.length (V.bl b),[],rfl,by rw [rep_zip (by simp)]; exact h,by simp,rfl,owns_bl⟩
theorem dP_own {ts:List (List Int)} {b:Bool} {v:V} {A:List Addr} (h:Own P w H (dP ts b) v A):∃ a,v=.ref a∧A=[a]∧H a=some (.dT ((ts.map iK).map fun k=>(k,V.bl b))):=by
 obtain ⟨a,vs,A',e,h1,l,eA,h2⟩:=h
 obtain ⟨e3,e4⟩:=bl_owns h2
 rw [e3,rep_zip (by simp)] at h1
 exact ⟨a,e,by rw [eA,e4],h1⟩
end
section
variable {X:Cx} {C:Cfg} {k:Expr} {φk:PhiQ} {i:Nat} {x:Str} {pos pos' px pc:Pos} {b:Bool}
theorem pq_dnew (b:Bool):PQ X C true (.Dict [] [] pos) (fun β R=>R (dP [] b) .own β) :=
 ⟨fun β R R' k h=>k _ _ _ h,pe_dnewT.pre fun σ H Q h p hp=>by
  obtain ⟨β,own,s,q⟩:=h
  refine q _ _ own ((Out.refl s _).same (Same.new hp)) ⟨[p],own_dP upd_same,by simp,fun c hc=>?_⟩
  rw [List.mem_singleton.mp hc]
  exact ⟨hp,fun z=>s.dmW p z hp,Decidable.by_contra fun z=>s.dmn p z hp⟩⟩
theorem pb_dadd {j} (hu:X.A.units+1 < cLine) (hk:PQ X C.z true k φk) (hN:X.N[i]?=some x:=by rfl) (hv:Vis X.env.scope x:=by first | exact .inl rfl | exact .inr (.inl rfl) | exact .inr (.inr rfl)) (hd:(x == ("__debug__" : Str))=false:=by decide) (hcd:(x == ("__classdict__" : Str))=false:=by decide)
  (hs:swapsWith (.Constant (.bool b) j pc) (some (.Subscript (.Name x px) k pos')) pos.line X.env=pure false:=by rfl) :
  PB X C (.Assign [.Subscript (.Name x px) k pos'] (.Constant (.bool b) j pc) pos) (fun E β=>(∃ ts,β[i]?=some (some (.own (dP ts b))))∧φk β fun jd _ β2=>∃ ts t,jd=kD t∧β2[i]?=some (some (.own (dP ts b)))∧ts.length < sizeLine∧E.nx (β2.set i (some (.own (dP (addT ts t) b))))):=by
 refine ⟨fun E E' β l h=>⟨h.1,hk.mono _ _ _ (fun jd _ β2 h=>by obtain ⟨ts,t,h1,h2,h3,q⟩:=h; exact ⟨ts,t,h1,h2,h3,l.nx _ q⟩) h.2⟩,(ps_dput hu (pe_var (pos:=px) hN hv hd hcd) hk.pe (pe_bl (j:=j) (pos:=pc)) hs).pre fun De σ H h=>?_⟩
 obtain ⟨Z,E,β,⟨own,s0,n⟩,⟨⟨ts0,hb0⟩,q⟩,ok⟩:=h
 obtain ⟨v0,hv0,ow0,_⟩:=s0.ow i _ hb0
 refine ⟨v0,hv0,tQ.of hk s0 q fun jd kk β2 v H1 own1 h o r=>?_⟩
 obtain ⟨ts,t,e1,hb,hl,q⟩:=h
 subst e1
 obtain ⟨v1,hv1,ow,h0⟩:=o.sq.ow i _ hb
 rw [hv0] at hv1
 cases hv1
 obtain ⟨a,rfl,eA,ha⟩:=dP_own ow
 obtain ⟨p,vs,rfl,hp,rv⟩:=r.rep
 have ev:vs=(iK t).map kV:=by
  rw [iK_kV]
  have key:∀ (t:List Int) (vs:List V),RepDs X.prog X.w (av C.z (Wn own1) kk) H1 (t.map D.int) vs→vs=t.map V.int:=fun t=>by
   induction t with
   | nil=>intro vs h; exact h
   | cons y t ih =>
    intro vs h
    obtain ⟨z,r',e1,e2,e3⟩:=h
    rw [e1,ih r' e3,show z=V.int y from e2]
    rfl
  exact key t vs rv
 have hma:a ∈ own1 i:=by rw [eA]; simp
 refine ⟨a,_,rfl,.inr ⟨_,iK t,p,ha,rfl,by rw [← ev]; exact hp,by rw [List.length_map,List.length_map]; exact hl,rfl⟩,?_⟩
 have hA:∀ c ∈ [a],c ∈ own1 i∨(C.H0 c=none∧¬ Wn own1 c∧(fun _=>False) c):=fun c hc=>.inl (by rw [List.mem_singleton.mp hc]; exact hma)
 have r':Own X.prog X.w (upd H1 a (.dT (putK ((ts.map iK).map fun k=>(k,V.bl b)) (iK t) (V.bl b)))) (dP (addT ts t) b) (.ref a) [a]:=own_dP (by rw [put_rep]; exact upd_same)
 exact ok.nx _ _ _ ⟨_,o.sq.putU (C:=C) (U:=fun _=>False) (U2:=fun _=>False) hb hv0 hma r' (by simp) hA (fun _ z=>z) (fun _ _ z=>z),sn_put (C:=C) (n.trans o.sn) (fun _ z=>z.elim) ⟨i,hma⟩ ⟨_,ha,fun xs z=>by cases z⟩ hA⟩ q
end
end L2.Q
end

noncomputable section
set_option Elab.async false
set_option linter.all false
set_option maxRecDepth 100000
namespace L2
open PySem PySem.Spec PySem.SeqAt PyProof.Rows
def D.int?:D→Option Int
 | .int i=>some i
 | _=>none
def D.lst?:D→Option (List D)
 | .lst ds=>some ds
 | _=>none
theorem D.int?_eq {d:D} {i:Int} (h:d.int?=some i):d=.int i:=by
 cases d <;> first | (cases h; rfl) | cases h
theorem D.lst?_eq {d:D} {ds:List D} (h:d.lst?=some ds):d=.lst ds:=by
 cases d <;> first | (cases h; rfl) | cases h
def dInts:List D→Option (List Int)
 | []=>some []
 | d::ds=>d.int?.bind fun i=>(dInts ds).map (i::·)
theorem dInts_eq:∀ {ds:List D} {ns:List Int},dInts ds=some ns→ds=ns.map D.int
 | [],_,h=>by cases h; rfl
 | d::ds,ns,h=>by
  obtain ⟨i,h1,h2⟩:=Option.bind_eq_some_iff.mp h
  obtain ⟨ms,h3,rfl⟩:=Option.map_eq_some_iff.mp h2
  rw [D.int?_eq h1,dInts_eq h3]
  rfl
theorem dInts_map:∀ ns:List Int,dInts (ns.map D.int)=some ns
 | []=>rfl
 | n::ns=>by
  show (some n).bind (fun i=>(dInts (ns.map D.int)).map (i::·))=_
  rw [dInts_map ns]
  rfl
def dOfInts (f:List Int→Option Int):List D→Option D
 | [d]=>d.lst?.bind fun ds=>(dInts ds).bind fun ns=>(f ns).map D.int
 | _=>none
theorem dOfInts_eq {f:List Int→Option Int} {ds:List D} {d:D} (h:dOfInts f ds=some d):∃ ns i,ds=[.lst (ns.map D.int)]∧f ns=some i∧d=.int i:=by
 cases ds with
 | nil=>cases h
 | cons x r =>
  cases r with
  | cons _ _=>cases h
  | nil =>
   obtain ⟨es,h1,h2⟩:=Option.bind_eq_some_iff.mp h
   obtain ⟨ns,h3,h4⟩:=Option.bind_eq_some_iff.mp h2
   obtain ⟨i,h5,rfl⟩:=Option.map_eq_some_iff.mp h4
   exact ⟨ns,i,by rw [D.lst?_eq h1,dInts_eq h3],h5,rfl⟩
theorem dOfInts_of {f:List Int→Option Int} {ns:List Int} {i:Int} (h:f ns=some i):dOfInts f [.lst (ns.map D.int)]=some (.int i):=by
 show (some (ns.map D.int)).bind (fun ds=>(dInts ds).bind fun ns=>(f ns).map D.int)=_
 rw [Option.bind_some,dInts_map,Option.bind_some,h]
 rfl
def maxI:List Int→Option Int
 | []=>none
 | n::ns=>some (ns.foldl max n)
theorem foldl_max_spec:∀ (ns:List Int) (n:Int),(ns.foldl max n ∈ n::ns)∧∀ x ∈ n::ns,x≤ns.foldl max n
 | [],n=>⟨by simp,fun x hx=>by simp at hx; rw [hx]; exact Int.le_refl _⟩
 | m::ns,n=>by
  obtain ⟨h1,h2⟩:=foldl_max_spec ns (max n m)
  have hm:max n m≤ns.foldl max (max n m):=h2 _ (by simp)
  refine ⟨?_,fun x hx=>?_⟩
  ·rw [List.foldl_cons]
   rcases List.mem_cons.mp h1 with h | h
   ·rw [h]
    by_cases q:n≤m
    ·rw [show max n m=m by omega]; simp
    ·rw [show max n m=n by omega]; simp
   ·simp [h]
  ·rw [List.foldl_cons]
   rcases List.mem_cons.mp hx with rfl | hx
   ·omega
   ·rcases List.mem_cons.mp hx with rfl | hx
    ·omega
    ·exact h2 x (by simp [hx])
section
variable {X:Cx}
theorem vals_intsA:∀ {ns:List Int} {us:List Value},Vals (ns.map V.int) us→∃ xs:Array (Int × Tok),us.toArray=intItems xs∧xs.toList.map (·.1)=ns
 | [],_,h=>by cases h; exact ⟨#[],by simp [intItems],rfl⟩
 | n::ns,_,h=>by
  cases h with
  | cons h1 h2 =>
   obtain ⟨t,rfl⟩:=h1
   obtain ⟨xs,e1,e2⟩:=vals_intsA h2
   refine ⟨⟨(n,t)::xs.toList⟩,?_,by simp [e2]⟩
   have:=congrArg Array.toList e1
   simp [intItems] at this ⊢
   exact this
theorem numAt_get {xs:Array (Int × Tok)} {ns:List Int} (e:xs.toList.map (·.1)=ns) (i:Nat):numAt xs i=ns.getD i 0:=by
 subst e
 unfold numAt
 rw [List.getD_eq_getElem?_getD,List.getElem?_map,Array.getElem?_toList]
theorem at_ints {xs:Array (Int × Tok)} {ns:List Int} (e:xs.toList.map (·.1)=ns) {i:Nat} {v:Value} (h:(intItems xs)[i]?=some v):RelV (.int (ns.getD i 0)) v:=by
 obtain ⟨t,rfl⟩:=intItems_at h
 exact ⟨t,by rw [numAt_get e]⟩
theorem ints_size {xs:Array (Int × Tok)} {ns:List Int} (e:xs.toList.map (·.1)=ns):xs.size=ns.length:=by rw [← e]; simp
theorem call_dMax (hc:X.calm=true):CallD X (.builtin "max") (dOfInts maxI):=by
 intro pins s σ H xs us Q I r h
 obtain ⟨W,ds,d,hd,r1,e,q⟩:=h
 obtain ⟨ns,i,rfl,e1,rfl⟩:=dOfInts_eq e
 obtain ⟨x,rfl,p,vs,rfl,h1,n1,q1⟩:=args1 r1
 obtain ⟨u,rfl,ru⟩:=vals1 r
 cases ru
 rw [reps_ints q1] at h1
 obtain ⟨its,r2,ht,hz⟩:=I.list (SqL.of h1)
 obtain ⟨ys,e1',e2⟩:=vals_intsA r2
 have hs:=ints_size e2
 cases ns with
 | nil=>cases e1
 | cons n ns =>
  rw [List.length_cons] at hs
  refine max_intList (I.ok.hd hc) (xs:=ys) (by rw [← e1']; exact ht.isList) (by omega) fun v h' tk hv k=>⟨.int i,H,I.kept k,?_,q _ _ (Same.refl _) rfl⟩
  have hr:=at_ints e2 hv
  obtain ⟨g1,g2⟩:=argBest_gt (numAt ys) (ys.size - 1)
  generalize argBest (fun i j=>decide (numAt ys i > numAt ys j)) (ys.size - 1)=b at *
  have hb:b < (n::ns).length:=by rw [List.length_cons]; omega
  have:(n::ns).getD b 0=i:=by
   cases e1
   obtain ⟨f1,f2⟩:=foldl_max_spec ns n
   have hle:∀ x ∈ n::ns,x≤(n::ns).getD b 0:=fun x hx=>by
    obtain ⟨j,hj,rfl⟩:=List.getElem_of_mem hx
    have:=g2 j (by rw [List.length_cons] at hj; omega)
    rw [numAt_get e2,numAt_get e2] at this
    rw [List.getD_eq_getElem?_getD,List.getElem?_eq_getElem hj] at this
    exact this
   have hmem:(n::ns).getD b 0 ∈ n::ns:=by
    rw [List.getD_eq_getElem?_getD,List.getElem?_eq_getElem hb]
    exact List.getElem_mem hb
   have:=hle _ f1
   have:=f2 _ hmem
   omega
  rw [← this]
  exact hr
end
end L2
end

noncomputable section
set_option Elab.async false
set_option linter.all false
set_option maxRecDepth 100000
namespace L2.Q
open PySem PySem.Spec PySem.SeqAt PyProof.Rows
def dA (kvs:List (List Int × D)):D:=.dT (kvs.map fun p=>iK p.1) (kvs.map (·.2))
def valA (kvs:List (List Int × D)) (t:List Int):Option D:=(kvs.find? fun p=>decide (p.1=t)).map (·.2)
def _root_.L2.D.isDT:D→Option (List (List Key) × List D)
 | .dT ks ds=>some (ks,ds)
 | _=>none
theorem isDT_eq {d:D} {ks:List (List Key)} {ds:List D} (h:d.isDT=some (ks,ds)):d=.dT ks ds:=by
 cases d <;> first | (cases h; rfl) | cases h
def valK (ks:List (List Key)) (ds:List D) (k:List Key):Option D:=((ks.zip ds).find? fun p=>decide (p.1=k)).map (·.2)
theorem isT_eq' {d:D} {es:List D} (h:d.isT=some es):d=.tup es:=by
 cases d <;> first | (cases h; rfl) | cases h
def dKey (a b:D):Option ((List (List Key) × List D) × List Int):=a.isDT.bind fun p=>b.isT.bind fun es=>(dInts es).map fun t=>(p,t)
theorem dKey_eq {a b:D} {ks:List (List Key)} {ds:List D} {t:List Int} (h:dKey a b=some ((ks,ds),t)):a=.dT ks ds∧b=.tup (t.map D.int):=by
 obtain ⟨p,h1,h2⟩:=Option.bind_eq_some_iff.mp h
 obtain ⟨es,h3,h4⟩:=Option.bind_eq_some_iff.mp h2
 obtain ⟨t',h5,h6⟩:=Option.map_eq_some_iff.mp h4
 cases h6
 exact ⟨isDT_eq h1,by rw [isT_eq' h3,dInts_eq h5]⟩
theorem dKey_of {kvs:List (List Int × D)} {t:List Int}:dKey (dA kvs) (.tup (t.map D.int))=some ((kvs.map fun p=>iK p.1,kvs.map (·.2)),t):=by
 show (some _).bind (fun p=>(some (t.map D.int)).bind fun es=>(dInts es).map fun t=>(p,t))=_
 rw [Option.bind_some,Option.bind_some,dInts_map]
 rfl
theorem valK_A {t:List Int}:∀ {kvs:List (List Int × D)},valK (kvs.map fun p=>iK p.1) (kvs.map (·.2)) (iK t)=valA kvs t
 | []=>rfl
 | p::kvs=>by
  have ih:=valK_A (t:=t) (kvs:=kvs)
  unfold valK valA at *
  rw [List.map_cons,List.map_cons,List.zip_cons_cons,List.find?_cons,List.find?_cons]
  by_cases h:p.1=t
  ·rw [decide_eq_true (congrArg iK h),decide_eq_true h]; rfl
  ·rw [decide_eq_false (fun z=>h (iK_inj z)),decide_eq_false h]; exact ih
def dGetT (a b:D):Option D:=(dKey a b).bind fun z=>valK z.1.1 z.1.2 (iK z.2)
theorem dGetT_A {kvs:List (List Int × D)} {t:List Int}:dGetT (dA kvs) (.tup (t.map D.int))=valA kvs t:=by
 unfold dGetT
 rw [dKey_of,Option.bind_some]
 exact valK_A
def dInT (b a:D):Option D:=(dKey a b).map fun z=>.bl (valK z.1.1 z.1.2 (iK z.2)).isSome
section
variable {P:Program} {w:World} {W:Addr→Prop} {H:Hp}
theorem reps_at {k:List Key}:∀ {ks:List (List Key)} {ds:List D} {vs:List V},ks.length=vs.length→RepDs P w W H ds vs→(valV (ks.zip vs) k).isSome=(valK ks ds k).isSome∧∀ d,valK ks ds k=some d→∃ v,valV (ks.zip vs) k=some v∧RepD P w W H d v
 | [],ds,vs,_,_=>by
  unfold valV valK
  rw [List.zip_nil_left,List.zip_nil_left]
  exact ⟨rfl,fun d h=>by cases h⟩
 | k'::ks,[],_,l,h=>by rw [show _=([]:List V) from h] at l; cases l
 | k'::ks,d::ds,_,l,⟨v,r,e,h1,h2⟩=>by
  subst e
  obtain ⟨i1,i2⟩:=reps_at (k:=k) (ks:=ks) (Nat.succ.inj l) h2
  unfold valV valK at *
  rw [List.zip_cons_cons,List.zip_cons_cons,List.find?_cons,List.find?_cons]
  by_cases hk:k'=k
  ·rw [decide_eq_true hk]
   exact ⟨rfl,fun d' e=>by cases e; exact ⟨v,rfl,h1⟩⟩
  ·rw [decide_eq_false hk]
   exact ⟨i1,i2⟩
end
section
variable {X:Cx}
theorem key_at {W:Addr→Prop} {H:Hp} {a b:D} {x y:V} {ks:List (List Key)} {ds:List D} {t:List Int} (h:dKey a b=some ((ks,ds),t)) (r1:Rp X W H a x) (r2:Rp X W H b y):∃ p vs,x=.ref p∧DGet H p y (valV (ks.zip vs) (iK t))∧ks.length=vs.length∧RepDs X.prog X.w W H ds vs:=by
 obtain ⟨rfl,rfl⟩:=dKey_eq h
 obtain ⟨p,vs,rfl,e1,l,n,rs⟩:=r1
 obtain ⟨q,us,rfl,e2,rt⟩:=r2
 rw [L2.reps_ints rt] at e2
 exact ⟨p,vs,rfl,DGet.t e1 (by rw [iK_kV]; exact e2),l,rs⟩
theorem ixd_m (hu:X.A.units+1 < cLine):IxR X (rD2M X dGetT NF):=by
 intro value slice pins s σ H x y v u Q I rx ry h hs
 obtain ⟨W,d1,d2,d,hd,r1,r2,e,q⟩:=h
 obtain ⟨⟨⟨ks,ds⟩,t⟩,h1,h2⟩:=Option.bind_eq_some_iff.mp e
 obtain ⟨p,vs,rfl,g,l,rs⟩:=key_at h1 r1 r2
 obtain ⟨w',hw,rw'⟩:=(reps_at l rs).2 d h2
 rw [hw] at g
 cases (show v=Value.ref p from rx)
 exact tail_any (dict_typeIs I g) PySem.F.slot_dict_getitem.lookup (d_getItem hu I g ry fun u' s' I' r'=>⟨w',H,I',r',q w' H (Same.refl _) rw' fun f=>RepD.flat f rw'⟩) hs
theorem op_dInT (hu:X.A.units+1 < cLine):OpD X (compareOp .In) dInT:=by
 intro pins s σ H x y v u Q I rx ry h
 obtain ⟨W,d1,d2,d,hd,r1,r2,e,q⟩:=h
 obtain ⟨⟨⟨ks,ds⟩,t⟩,h1,rfl⟩:=Option.map_eq_some_iff.mp e
 obtain ⟨p,vs,rfl,g,l,rs⟩:=key_at h1 r2 r1
 cases (show u=Value.ref p from ry)
 refine d_in hu I g rx fun s' I'=>⟨.bl _,H,I',rfl,q _ _ (Same.refl _) ?_⟩
 rw [(reps_at l rs).1]
 rfl
end
theorem own_dA {P:Program} {w:World} {H:Hp} {kvs:List (List Int × D)} {a:Addr} {vs:List V} {A:List Addr} (h:H a=some (.dT ((kvs.map fun p=>iK p.1).zip vs))) (o:Owns P w H (kvs.map (·.2)) vs A):Own P w H (dA kvs) (.ref a) (a::A) :=
 ⟨a,vs,A,rfl,h,by rw [List.length_map,o.length,List.length_map],rfl,o⟩
theorem valV_A {P:Program} {w:World} {H:Hp} {kvs:List (List Int × D)} {vs:List V} {A:List Addr} {t:List Int} (o:Owns P w H (kvs.map (·.2)) vs A) (h:valA kvs t=none):valV ((kvs.map fun p=>iK p.1).zip vs) (iK t)=none:=by
 have:=(reps_at (k:=iK t) (ks:=kvs.map fun p=>iK p.1) (W:=fun _=>False) (by rw [List.length_map,o.length,List.length_map]) (o.rep fun c _ z=>z)).1
 rw [valK_A,h] at this
 exact Option.isNone_iff_eq_none.mp (by rw [← Option.not_isSome,this]; rfl)
section
variable {X:Cx} {C:Cfg} {k e:Expr} {φ φk:PhiQ} {i:Nat} {x:Str} {pos pos' px pc:Pos} {p pk:Bool}
end
end L2.Q
end

noncomputable section
set_option Elab.async false
set_option linter.all false
set_option maxRecDepth 100000
namespace L2
open PySem PySem.Spec PySem.SeqAt PyProof.Rows
def Itn (lo:Int) (n:Nat):It:=⟨fun i _=>i < n,fun i H x H'=>H'=H∧x=.int (lo - i),fun i _=>n≤i⟩
theorem turn_rangeN {P:Program} {w:World} {K:PySem.W.Frag} {tg:Expr} (it:Addr) (lo:Int) (n:Nat):Turn P w K tg (Itn lo n) [it] it (fun i h=>IsRangeIter h it (lo+(i:Nat) * (-1)) ((n:Int) - (i:Nat)) (-1)) where
 mem:=by simp
 obj:=fun i h st b hb=>by
  have e:b=it:=by simpa using hb
  subst e
  exact ⟨_,st,fun v z=>by
   have z':Data.fields _=Data.cell v:=z
   cases z'⟩
 keep:=fun i h h' st k=>k it (by simp) _ st
 item:=by
  intro X hP hw hK hc i pins s σ H E I hf st hg
  subst hP hw hK
  obtain ⟨f0,f1,f2,f3,f4,f5⟩:=hf it (by simp)
  have W:=Walks.range (prog:=X.prog) (w:=X.w) (I.ok.hd hc) it lo (-1) n
  refine W.item i s _ _ hg st fun v h' tk hv st' kk=>?_
  obtain ⟨t,rfl⟩:=hv
  have I1:Inv X pins σ H { s with heap:=h',toks:=tk }:=I.turned (fun b o hb e=>kk b o (by simpa using hb) e) f0 f1 f3 f4 f5
  refine ⟨_,rfl,go_of (s:={ s with heap:=h',toks:=tk }) (n:="range_iterator") st' rfl rfl (by decide) ⟨.int (lo - i),H,I1,⟨t,?_⟩,⟨rfl,rfl⟩,st',fun b hb=>(hf b hb).1⟩⟩
  rw [Int.mul_neg,Int.mul_one]
  rfl
 done:=by
  intro X hP hw hK hc i pins s σ H E I hf st hg
  subst hP hw hK
  obtain ⟨f0,f1,f2,f3,f4,f5⟩:=hf it (by simp)
  exact wpAny_pyNext_range_end (I.ok.hd hc) st (by have:n≤i:=hg; omega) fun h' eb=>⟨rfl,I.turned (t':=s.toks) (fun b o hb e=>eb b o hb e) f0 f1 f3 f4 f5⟩
 self:=fun _ _ _ _ _ st h=>wpAny_pyIter_rangeiter st h
theorem rangeSize_neg (a b:Int):Builtin.Range.rangeSize a b (-1)=if b < a then a - b else 0:=by
 unfold Builtin.Range.rangeSize
 rw [if_neg (by decide)]
 by_cases h:b < a
 ·rw [if_pos h,if_pos h,show -(-1:Int)=1 by decide,Int.ediv_one]; omega
 ·rw [if_neg h,if_neg h]
theorem small_neg {a b:Int} (ha:-(2 ^ 62)≤a) (ha':a < 2 ^ 62) (hb:-(2 ^ 62)≤b) (hb':b < 2 ^ 62):Builtin.Range.small a b (-1)=true:=by
 unfold Builtin.Range.small
 rw [rangeSize_neg]
 simp only [Builtin.Range.rangeFitsLong,Bool.and_eq_true,Bool.or_eq_true,decide_eq_true_eq,beq_iff_eq,show ¬ ((-1:Int) > 0) by decide,if_false]
 split <;> omega
section
variable {X:Cx} {tg:Expr}
theorem range_itN {pins:List (Addr × Obj)} {σ:St} {H:Hp} {s:Shared} {R:It→Hp→Prop} {E:Value→Shared→Prop} {lo hi:Int} {t u v:Tok} {tk:Nat} (I:Inv X pins σ H s) (h1:-(2 ^ 62)≤lo) (h2:lo < 2 ^ 62) (h3:-(2 ^ 62)≤hi) (h4:hi < 2 ^ 62)
  (q:R (Itn lo (lo - hi).toNat) H):wpAny (model X.prog X.w) X.A (pyIter (.ref s.heap.objs.size)) (PIE X pins σ tg R) E { s with heap:=s.heap.push { cls:=.type "range",data:=.fields #[.int lo t,.int hi u,.int (-1) v] },toks:=tk }:=by
 refine wpAny_pyIter_range (IsRange.new ..) (small_neg h1 h2 h3 h4) ?_
 have I1:Inv X pins σ H { s with heap:=s.heap.push { cls:=.type "range",data:=.fields #[.int lo t,.int hi u,.int (-1) v] },toks:=tk }:=I.kept fun b o e=>Heap.get?_push_of_some _ e
 refine ⟨(s.heap.push { cls:=.type "range",data:=.fields #[.int lo t,.int hi u,.int (-1) v] }).objs.size,[(s.heap.push { cls:=.type "range",data:=.fields #[.int lo t,.int hi u,.int (-1) v] }).objs.size],_,_,H,rfl,
  I1.kept (t':=tk) fun b o e=>Heap.get?_push_of_some _ e,turn_rangeN _ lo (lo - hi).toNat,?_,fun b hb=>?_,q⟩
 ·have e1:lo+((0:Nat):Int) * (-1)=lo:=by simp
  have e2:(((lo - hi).toNat:Nat):Int) - ((0:Nat):Int)=Builtin.Range.rangeSize lo hi (-1):=by rw [rangeSize_neg]; split <;> omega
  show IsRangeIter _ _ (lo+((0:Nat):Int) * (-1)) ((((lo - hi).toNat:Nat):Int) - ((0:Nat):Int)) (-1)
  rw [e1,e2]
  exact Heap.get?_push_size _ rfl
 ·have e:b=(s.heap.push { cls:=.type "range",data:=.fields #[.int lo t,.int hi u,.int (-1) v] }).objs.size:=by simpa using hb
  subst e
  exact I1.fpOk (Nat.le_refl _) (I1.hok.fresh (Nat.le_refl _))
def iRngN (ta:TA):TI:=fun σ H R=>ta σ H fun vs H1=>∃ i j:Int,vs=[.int i,.int j,.int (-1)]∧(-(2 ^ 62)≤i∧i < 2 ^ 62∧-(2 ^ 62)≤j∧j < 2 ^ 62)∧R (Itn i (i - j).toNat) H1
theorem pi_rangeN {a b c:Expr} {ta:TA} {p pos:Pos} (hg:Gl X "range") (hm:X.mg "range" = none) (ha:PA X [a,b,c] ta) (hs:starEach [a,b,c] X.env=[(false,eval a X.env),(false,eval b X.env),(false,eval c X.env)]:=by rfl) (hs2:starEach [b,c] X.env=[(false,eval b X.env),(false,eval c X.env)]:=by rfl) :
  PI X tg (.Call (.Name "range" p) [a,b,c] [] pos) (iRngN ta):=by
 intro pins s σ H R I h
 refine Call_ (ld_blt I hg hm boot_range (PyProof.Rows.callWith_type1 (thn (ha pos pins s σ H _ I h) fun us s1 ⟨vs,H1,I1,r1,q1⟩=>?_) (by rw [hs,hs2]) (by rw [hs2]; rfl)))
 obtain ⟨i,j,e,⟨q1,q2,q3,q4⟩,q⟩:=q1
 subst e
 cases r1 with
 | cons r rr =>
  cases rr with
  | cons r' rr =>
   cases rr with
   | cons r'' rr =>
    cases rr
    obtain ⟨t,rfl⟩:=r
    obtain ⟨t',rfl⟩:=r'
    obtain ⟨t'',rfl⟩:=r''
    exact call_range_3 (by decide) (range_itN I1 q1 q2 q3 q4 q) (.inl (PyProof.noPylong_of_log2 (by decide +kernel)))
def rngN (hi:Int) (n:Nat):List D:=(List.range n).map fun (k:Nat)=>D.int (hi - (k:Int))
theorem rngN_get {hi:Int} {n i:Nat} {d:D} (h:(rngN hi n)[i]?=some d):i < n∧d=.int (hi - i):=by
 unfold rngN at h
 rw [List.getElem?_map] at h
 by_cases hi:i < n
 ·rw [List.getElem?_range hi] at h
  cases h
  exact ⟨hi,rfl⟩
 ·rw [List.getElem?_eq_none (by simpa using hi)] at h; cases h
theorem rngN_len {hi:Int} {n:Nat}:(rngN hi n).length=n:=by unfold rngN; simp
theorem itd_rangeN {W:Addr→Prop} {H:Hp} {lo:Int} {n:Nat}:ItD X W (Itn lo n) (rngN lo n) H:=fun _ _ i H' k=>by
 constructor
 ·intro d hd
  obtain ⟨hi,rfl⟩:=rngN_get hd
  refine ⟨hi,fun x H1 y=>?_⟩
  obtain ⟨rfl,rfl⟩:=y
  exact ⟨Same.refl _,rfl⟩
 ·intro hl
  rw [rngN_len] at hl
  exact hl
end
end L2
namespace L2.Q
open PySem PySem.Spec PySem.SeqAt PyProof.Rows
section
variable {X:Cx} {C:Cfg} {tg a b c:Expr} {φs:PhiQS} {p:Bool} {pp pos:Pos}
def iRangeN (φs:PhiQS):PhiQI:=fun β R=>φs β fun ds _ β'=>∃ i j:Int,ds=[.int i,.int j,.int (-1)]∧(-(2 ^ 62)≤i∧i < 2 ^ 62∧-(2 ^ 62)≤j∧j < 2 ^ 62)∧R (rngN i (i - j).toNat) .yng β'
theorem args3 {W:Addr→Prop} {H:Hp} {a b c:D} {xs:List V} (h:Rps X W H [a,b,c] xs):∃ x y z,xs=[x,y,z]∧Rp X W H a x∧Rp X W H b y∧Rp X W H c z:=by
 obtain ⟨x,r,rfl,hx,y,r',rfl,hy,z,r'',rfl,hz,hr⟩:=h
 cases hr
 exact ⟨x,y,z,rfl,hx,hy,hz⟩
theorem pqi_range3 (hm:X.mg "range" = none) (ha:PQA X C p [a,b,c] φs) (hg:Gl X "range" := by rfl) (hs:starEach [a,b,c] X.env=[(false,eval a X.env),(false,eval b X.env),(false,eval c X.env)]:=by rfl) (hs2:starEach [b,c] X.env=[(false,eval b X.env),(false,eval c X.env)]:=by rfl) :
  PQI X C p tg (.Call (.Name "range" pp) [a,b,c] [] pos) (iRangeN φs) :=
 ⟨fun β R R' k q=>ha.mono β _ _ (fun d kd β' h=>by obtain ⟨i,j,e,h1,q⟩:=h; exact ⟨i,j,e,h1,k _ _ _ q⟩) q,(pi_rangeN hg hm ha.pa hs hs2).pre fun σ H R h=>by
  obtain ⟨β,own,s,q⟩:=h
  refine tQS.of ha s q fun ds ks β' vs H1 own1 h o1 r1=>?_
  obtain ⟨i,j,e,h1,q1⟩:=h
  subst e
  obtain ⟨x,y,z,rfl,hx,hy,hz⟩:=args3 r1.reps
  cases hx; cases hy; cases hz
  exact ⟨i,j,rfl,h1,q1 _ _ own1 o1 itd_rangeN⟩⟩
end
end L2.Q
end

noncomputable section
set_option Elab.async false
set_option linter.all false
set_option maxRecDepth 100000
namespace L2.Q
open PySem PySem.Spec PySem.SeqAt PyProof.Rows
structure PQN (X:Cx) (C:Cfg) (tg iter:Expr) (ι:PhiQI):Prop where
 mono:∀ β R R',(∀ d k β,R d k β→R' d k β)→ι β R→ι β R'
 pi:PI X tg iter fun σ H R=>∃ β own,SQ X C σ H β own∧ι β fun ds k β'=>∀ J H',Same H H'→SQ X C σ H' β' own→ItD X (av' C (Wn own) k) J ds H'→R J H'
section
variable {X:Cx} {C:Cfg} {tg a b c:Expr} {φs:PhiQS} {pp pos:Pos} {i:Nat} {x:Str}
theorem pqn_range2 (hm:X.mg "range" = none) (ha:PQA X C true [a,b] φs) (hg:Gl X "range" := by rfl) (hs:starEach [a,b] X.env=[(false,eval a X.env),(false,eval b X.env)]:=by rfl) (hs2:starEach [b] X.env=[(false,eval b X.env)]:=by rfl) :
  PQN X C tg (.Call (.Name "range" pp) [a,b] [] pos) (iRange2 φs) :=
 ⟨fun β R R' k q=>ha.mono β _ _ (fun d kd β' h=>by obtain ⟨i,j,e,h1,q⟩:=h; exact ⟨i,j,e,h1,k _ _ _ q⟩) q,(pi_range2 hg hm ha.pa hs hs2).pre fun σ H R h=>by
  obtain ⟨β,own,s,q⟩:=h
  refine tQS.of ha s q fun ds ks β' vs H1 own1 h o1 r1=>?_
  obtain ⟨i,j,e,h1,q1⟩:=h
  subst e
  obtain ⟨s1,rfl⟩:=o1.pu rfl
  obtain ⟨x,y,rfl,hx,hy⟩:=args2 r1.reps
  cases hx; cases hy
  exact ⟨i,j,rfl,h1,q1 _ _ s1 o1.sq itd_range⟩⟩
end
structure SC (X:Cx) (C:Cfg) (W0:Addr→Prop) (T:List Nat) (σ0:St) (H1:Hp) (a:Addr) (Hb:Hp) (Wb:Addr→Prop) (Ac:Hp→Prop) (β:Bet) (σ':St) (H':Hp) (own:Nat→List Addr):Prop where
 sq:SQ X (C.u fun c=>c=a) σ' H' β own
 sn:Sn (H1,W0) H' (Wn own)
 le:∀ c,Wn own c→Wb c
 ac:Ac H'
 pu:Same H1 H'
 bs:∀ b ob,b≠a→Hb b=some ob→H' b=some ob
 st:∀ j,j ∉ T→σ'[j]?=σ0[j]?
abbrev SCE {α:Type} (X:Cx) (C:Cfg) (W0:Addr→Prop) (T:List Nat) (σ0:St) (H1:Hp) (a:Addr) (Hb:Hp) (Wb:Addr→Prop) (Ac:α→Hp→Prop) (β:Bet) (o:α) (σ':St) (H':Hp):Prop:=∃ own,SC X C W0 T σ0 H1 a Hb Wb (Ac o) β σ' H' own
structure AcOk {α:Type} (a:Addr) (Ac:α→Hp→Prop):Prop where
 same:∀ o H H',Same H H'→Ac o H→Ac o H'
 notup:∀ o H xs,Ac o H→H a≠some (.tup xs)
abbrev tgN (X:Cx) (C:Cfg) (a:Addr) (T:List Nat) (γ:GamQ):TG:=fun v σ H Q=>∃ own β d k,SQ X (C.u fun c=>c=a) σ H β own∧Rp X (av' (C.u fun c=>c=a) (Wn own) k) H d v∧γ d k β fun β'=>∀ σ' own',SQ X (C.u fun c=>c=a) σ' H β' own'→(∀ a,Wn own' a→Wn own a)→(∀ j,j ∉ T→σ'[j]?=σ[j]?)→Q σ' H
abbrev taN (X:Cx) (C:Cfg) (a:Addr) (φ:PhiQ):TAft:=fun N σ H=>tQ X (C.u fun c=>c=a) true φ σ H fun v H1=>∃ xs,H1 a=some (.lst xs)∧xs.length < sizeLine∧N σ (upd H1 a (.lst (xs++[v])))
section
variable {α:Type} {X:Cx} {C:Cfg} {W0:Addr→Prop} {T Tg:List Nat} {σ0:St} {H1:Hp} {a:Addr} {Hb:Hp} {Wb:Addr→Prop} {γ:GamQ} {τ:PhiQB} {φ:PhiQ} {Ac:α→Hp→Prop}
theorem SC.next {o:α} (hA:AcOk a Ac) {β β':Bet} {σ σ':St} {H H':Hp} {own own':Nat→List Addr} (s:SC X C W0 T σ0 H1 a Hb Wb (Ac o) β σ H own) (sq:SQ X (C.u fun c=>c=a) σ' H' β' own') (w:∀ c,Wn own' c→Wn own c) (sm:Same H H') (t:∀ j,j ∉ T→σ'[j]?=σ[j]?) :
  SC X C W0 T σ0 H1 a Hb Wb (Ac o) β' σ' H' own' :=
 ⟨sq,sn_less (s.sn.same sm) w,fun c z=>s.le c (w c z),hA.same o _ _ sm s.ac,s.pu.trans sm,fun b ob n e=>sm _ _ (s.bs b ob n e),fun j hj=>(t j hj).trans (s.st j hj)⟩
theorem SC.put {A:Hp→Prop} {A':Hp→Prop} (h0:C.H0 a=none) (ha:H1 a=none) {β:Bet} {σ:St} {H:Hp} {own:Nat→List Addr} {oa ob:HO} (s:SC X C W0 T σ0 H1 a Hb Wb A β σ H own) (e:H a=some oa) (nt:∀ xs,oa≠.tup xs) (q:A' (upd H a ob)) :
  SC X C W0 T σ0 H1 a Hb Wb A' β σ (upd H a ob) own:=by
 refine ⟨s.sq.setU e nt h0,⟨s.sn.w,s.sn.k.trans ((kp_upd e nt).mono fun b z=>.inr (by rw [z]; exact ha)),fun b z e=>?_⟩,s.le,q,fun b o e=>?_,fun b o n e=>?_,s.st⟩
 ·by_cases hb:b=a
  ·rw [hb,upd_same] at e; cases e
  ·rw [upd_ne hb] at e; exact s.sn.d b z e
 ·rw [upd_ne (fun z'=>by rw [z',ha] at e; cases e)]
  exact s.pu b o e
 ·rw [upd_ne n]
  exact s.bs b o n e
def AcL (P:Program) (w:World) (H1:Hp) (a:Addr) (o:List D) (H:Hp):Prop:=∃ vs A,H a=some (.lst vs)∧Owns P w H o vs A∧A.Nodup∧∀ c ∈ A,H1 c=none∧c≠a
theorem acL_ok {P:Program} {w:World}:AcOk a (AcL P w H1 a):=⟨fun o H H' s h=>by
  obtain ⟨vs,A,h1,h2,h3,h4⟩:=h
  exact ⟨vs,A,s _ _ h1,h2.keep (fun b xs e=>s _ _ e) fun c _ oc e=>s _ _ e,h3,h4⟩,fun o H xs h z=>by
  obtain ⟨vs,A,h1,_⟩:=h
  rw [h1] at z; cases z⟩
def emitQ (φ:PhiQ) (o:List D) (β:Bet) (N:Bet→List D→Prop):Prop:=φ β fun x kx β3=>kFl kx x∧o.length < sizeLine∧N β3 (o++[x])
theorem sc_emit (h0:C.H0 a=none) (ha:H1 a=none) (φm:∀ β R R',(∀ d k β,R d k β→R' d k β)→φ β R→φ β R') {β:Bet} {o:List D} {σ:St} {H:Hp} {N:Bet→List D→Prop} (s:SCE X C W0 T σ0 H1 a Hb Wb (AcL X.prog X.w H1 a) β o σ H) (q:emitQ φ o β N) :
  taN X C a φ (fun σ' H'=>∃ β' o',SCE X C W0 T σ0 H1 a Hb Wb (AcL X.prog X.w H1 a) β' o' σ' H'∧N β' o') σ H:=by
 obtain ⟨own,s⟩:=s
 refine ⟨β,own,s.sq,φm _ _ _ (fun xd kx β6 ⟨f,hz,q⟩ v H6 own6 o6 r6=>?_) q⟩
 obtain ⟨sm,rfl⟩:=o6.pu rfl
 have s6:=s.next acL_ok (o6.sq) (fun _ z=>z) sm (fun _ _=>rfl)
 obtain ⟨B',r1,r2,r3⟩:=r6.fl f
 obtain ⟨vs,A,at',os,nd,nw⟩:=s.ac
 have hav6:H6 a=some (.lst vs):=sm _ _ at'
 have neB:∀ c ∈ B',c≠a:=fun c hc z=>by rw [z] at hc; exact absurd (at'.symm.trans (r3 a hc).1) (fun z=>(nomatch z))
 have kt:∀ b xs,H6 b=some (.tup xs)→upd H6 a (.lst (vs++[v])) b=some (.tup xs):=fun b xs z=>by rw [upd_ne (fun z'=>by rw [z',hav6] at z; cases z)]; exact z
 refine ⟨vs,hav6,by rw [os.length]; exact hz,β6,o++[xd],⟨own6,s6.put h0 ha hav6 (fun xs z=>by cases z) ⟨vs++[v],A++B',upd_same,?_,?_,fun c hc=>?_⟩⟩,q⟩
 ·exact (os.keep (fun b xs e=>kt b xs (sm _ _ e)) fun c hc oc e=>by rw [upd_ne (nw c hc).2]; exact sm _ _ e).append (Owns.one (r1.keep kt fun c hc oc e=>by rw [upd_ne (neB c hc)]; exact e))
 ·refine List.nodup_append.mpr ⟨nd,r2,fun x hx y hy e=>?_⟩
  subst e
  exact (os.dom x hx).1 (r3 x hy).1
 ·rcases List.mem_append.mp hc with hc | hc
  ·exact nw c hc
  ·exact ⟨s.sn.free (r3 c hc).1,neB c hc⟩
def loopN {α:Type} (γ:GamQ) (τ:PhiQB) (Af:α→Bet→(Bet→α→Prop)→Prop) (ds:List D) (k:Kd) (β0:Bet) (o0:α) (F:Bet→α→Prop):Prop:=∃ I:Nat→Bet→α→Prop,I 0 β0 o0 ∧
 (∀ i d β o,ds[i]?=some d→I i β o→γ d (sk k d) β fun β1=>τ β1 fun t β2=>if t=true then Af o β2 (I (i+1)) else I (i+1) β2 o)∧∀ β o,I ds.length β o→F β o
theorem loopN.mono {Af:α→Bet→(Bet→α→Prop)→Prop} {ds:List D} {k:Kd} {β0:Bet} {o0:α} {F F':Bet→α→Prop} (h:∀ β o,F β o→F' β o) (q:loopN γ τ Af ds k β0 o0 F):loopN γ τ Af ds k β0 o0 F':=by
 obtain ⟨I,h0,h1,h2⟩:=q
 exact ⟨I,h0,h1,fun β o z=>h _ _ (h2 β o z)⟩
theorem sc_loop (hA:AcOk a Ac) (hT:∀ j ∈ Tg,j ∈ T) (γm:∀ d k β R R',(∀ r,R r→R' r)→γ d k β R→γ d k β R') (τm:∀ β R R',(∀ d β,R d β→R' d β)→τ β R→τ β R') {J:It} {ds:List D} {k:Kd} {Af:α→Bet→(Bet→α→Prop)→Prop} {ta:TAft} {F:Bet→α→Prop} {End:St→Hp→Prop} {β0:Bet} {o0:α} {σ1:St} {Hs:Hp}
  (it:∀ i β o σ' H',SCE X C W0 T σ0 H1 a Hb Wb Ac β o σ' H'→(∀ d,ds[i]?=some d→J.go i H'∧∀ x H3,J.yld i H' x H3→Same H' H3∧∀ own,(∀ c,Wn own c→Wb c)→RepD X.prog X.w (av' (C.u fun c=>c=a) (Wn own) k) H3 d x)∧(ds.length≤i→J.stop i H'))
  (hta:∀ β o σ' H' N,SCE X C W0 T σ0 H1 a Hb Wb Ac β o σ' H'→Af o β N→ta (fun σ'' H''=>∃ β' o',SCE X C W0 T σ0 H1 a Hb Wb Ac β' o' σ'' H''∧N β' o') σ' H')
  (s0:SCE X C W0 T σ0 H1 a Hb Wb Ac β0 o0 σ1 Hs) (q:loopN γ τ Af ds k β0 o0 F) (fin:∀ β o σ' H',SCE X C W0 T σ0 H1 a Hb Wb Ac β o σ' H'→F β o→End σ' H') :
  tLoop J (tgN X C a Tg γ) (tQB X (C.u fun c=>c=a) true τ) ta End σ1 Hs:=by
 obtain ⟨I,i0,i1,i2⟩:=q
 refine ⟨fun i m σ' H'=>i≤ds.length∧m=ds.length - i∧∃ β o,SCE X C W0 T σ0 H1 a Hb Wb Ac β o σ' H'∧I i β o,⟨_,Nat.zero_le _,rfl,β0,o0,s0,i0⟩,?_⟩
 rintro i m σ2 H2 ⟨hi,rfl,β,o,sE,hl⟩
 obtain ⟨it1,it2⟩:=it i β o σ2 H2 sE
 by_cases hlt:i < ds.length
 ·right
  have hd:ds[i]?=some ds[i]:=List.getElem?_eq_getElem hlt
  obtain ⟨go,yl⟩:=it1 _ hd
  refine ⟨go,fun σ' H'=>∃ β' o',SCE X C W0 T σ0 H1 a Hb Wb Ac β' o' σ' H'∧I (i+1) β' o',fun σ' H' h=>⟨_,by omega,hlt,rfl,h⟩,fun x H3 y=>?_⟩
  obtain ⟨s3,r3⟩:=yl x H3 y
  obtain ⟨own,s⟩:=sE
  refine ⟨own,β,_,_,s.sq.same s3,sk_rep (r3 own s.le),γm _ _ _ _ _ (fun β4 q σ4 own4 s4 w4 t4=>?_) (i1 i _ β o hd hl)⟩
  have sc4:=s.next hA s4 w4 s3 fun j hj=>t4 j fun z=>hj (hT j z)
  refine ⟨β4,own4,s4,τm _ _ _ (fun t β5 q H5 own5 o5=>?_) q⟩
  obtain ⟨sm5,rfl⟩:=o5.pu rfl
  have sc5:=sc4.next hA o5.sq (fun _ z=>z) sm5 fun _ _=>rfl
  cases t with
  | false=>exact ⟨β5,o,⟨_,sc5⟩,q⟩
  | true=>exact hta β5 o σ4 H5 _ ⟨_,sc5⟩ q
 ·left
  have e:i=ds.length:=by omega
  subst e
  exact ⟨it2 (Nat.le_refl _),fin β o σ2 H2 sE (i2 β o hl)⟩
def nestQ {α:Type} (ι:PhiQI) (γ:GamQ) (τ:PhiQB) (Af:α→Bet→(Bet→α→Prop)→Prop) (o:α) (β:Bet) (N:Bet→α→Prop):Prop:=ι β fun ds k β1=>loopN γ τ Af ds k β1 o N
theorem sc_nest (hA:AcOk a Ac) {ι:PhiQI} (hT:∀ j ∈ Tg,j ∈ T) (γm:∀ d k β R R',(∀ r,R r→R' r)→γ d k β R→γ d k β R') (τm:∀ β R R',(∀ d β,R d β→R' d β)→τ β R→τ β R') {Af:α→Bet→(Bet→α→Prop)→Prop} {ta:TAft}
  (hta:∀ Hb Wb β o σ' H' N,SCE X C W0 T σ0 H1 a Hb Wb Ac β o σ' H'→Af o β N→ta (fun σ'' H''=>∃ β' o',SCE X C W0 T σ0 H1 a Hb Wb Ac β' o' σ'' H''∧N β' o') σ' H')
  (ιm:∀ β R R',(∀ d k β,R d k β→R' d k β)→ι β R→ι β R') {β:Bet} {o:α} {σ:St} {H:Hp} {N:Bet→α→Prop} (s:SCE X C W0 T σ0 H1 a Hb Wb Ac β o σ H) (q:nestQ ι γ τ Af o β N) :
  ∃ β own,SQ X (C.u fun c=>c=a) σ H β own∧ι β fun ds k β'=>∀ J H',Same H H'→SQ X (C.u fun c=>c=a) σ H' β' own→ItD X (av' (C.u fun c=>c=a) (Wn own) k) J ds H' →
   tLoop J (tgN X C a Tg γ) (tQB X (C.u fun c=>c=a) true τ) ta (fun σ' H'=>∃ β' o',SCE X C W0 T σ0 H1 a Hb Wb Ac β' o' σ' H'∧N β' o') σ H':=by
 obtain ⟨own,s⟩:=s
 refine ⟨β,own,s.sq,ιm _ _ _ (fun ds k β1 q J H' sm sq itd=>?_) q⟩
 have s1:=s.next hA sq (fun _ z=>z) sm fun _ _=>rfl
 have hu:av' (C.u fun c=>c=a) (Wn own) k a:=.inr rfl
 refine sc_loop (Hb:=H') (Wb:=Wn own) hA hT γm τm (fun i βx ox σx Hx sx=>?_) (fun βx ox σx Hx Nx sx qx=>hta _ _ _ _ _ _ _ sx qx) ⟨own,⟨s1.sq,s1.sn,fun _ z=>z,s1.ac,s1.pu,fun _ _ _ e=>e,s1.st⟩⟩ q fun βx ox σx Hx sx hx=>?_
 ·obtain ⟨ownx,sx⟩:=sx
  have kp:Kp (fun b=>av' (C.u fun c=>c=a) (Wn own) k b∨H' b=none) H' Hx:=⟨fun b ob e n=>sx.bs b ob (fun z=>n (.inl (by rw [z]; exact hu))) e,fun b xs e=>sx.bs b _ (fun z=>hA.notup _ _ _ s1.ac (by rw [← z]; exact e)) e⟩
  obtain ⟨g1,g2⟩:=itd (fun b=>av' (C.u fun c=>c=a) (Wn own) k b∨H' b=none) (fun b z=>z) i Hx kp
  refine ⟨fun d hd=>?_,g2⟩
  obtain ⟨go,yl⟩:=g1 d hd
  refine ⟨go,fun x H3 y=>?_⟩
  obtain ⟨s3,r3⟩:=yl x H3 y
  exact ⟨s3,fun own' le'=>RepD.anti (fun b z=>.inl (avp_mono le' k b z)) r3⟩
 ·obtain ⟨ownx,sx⟩:=sx
  exact ⟨βx,ox,⟨ownx,⟨sx.sq,sx.sn,fun c z=>s.le c (sx.le c z),sx.ac,sx.pu,fun b ob n e=>sx.bs b ob n (s1.bs b ob n e),sx.st⟩⟩,hx⟩
theorem sc_first {lk:List (Option Nat)} {σ:St} {β:Bet} {own:Nat→List Addr} {oa:HO} (hA:AcOk a Ac) {Af:α→Bet→(Bet→α→Prop)→Prop} {ta:TAft} {J:It} {ds:List D} {k:Kd} {o0:α} {K:α→Prop} {End:Hp→Prop}
  (γm:∀ d k β R R',(∀ r,R r→R' r)→γ d k β R→γ d k β R') (τm:∀ β R R',(∀ d β,R d β→R' d β)→τ β R→τ β R') (hTg:∀ j ∈ Tg,j ∈ T)
  (inj:∀ (i i' j:Nat),lk[i]?=some (some j)→lk[i']?=some (some j)→i=i') (hT:∀ i ∈ T,∀ j,lk[i]?≠some (some j))
  (s1:SQ X C σ H1 β own) (ha:H1 a=none) (hk:hold k false) (it:ItD X (av C (Wn own) k) J ds H1) (a0:Ac o0 (upd H1 a oa)) (ent:SQ X (C.u fun c=>c=a) (inSt lk σ) (upd H1 a oa) (inBet lk β) (inOwn lk β own))
  (hta:∀ Hb Wb β' o σ' H' N,C.H0 a=none→SCE X C (Wn (inOwn lk β own)) T (inSt lk σ) H1 a Hb Wb Ac β' o σ' H'→Af o β' N→ta (fun σ'' H''=>∃ β' o',SCE X C (Wn (inOwn lk β own)) T (inSt lk σ) H1 a Hb Wb Ac β' o' σ'' H''∧N β' o') σ' H')
  (q:loopN γ τ Af ds k (inBet lk β) o0 fun βf o=>hndOk (inBet lk β) βf∧K o)
  (fin:∀ o H',K o→Out X C σ H1 own true β H' own→Ac o H'→End H') :
  tLoop J (tgN X C a Tg γ) (tQB X (C.u fun c=>c=a) true τ) ta (fun _ H'=>End H') (inSt lk σ) (upd H1 a oa):=by
 have h0:C.H0 a=none:=Decidable.by_contra fun z=>s1.dmn a z ha
 have sm:Same H1 (upd H1 a oa):=Same.new ha
 refine sc_loop (W0:=Wn (inOwn lk β own)) (T:=T) (σ0:=inSt lk σ) (H1:=H1) (Hb:=H1) (Wb:=Wn (inOwn lk β own)) hA hTg γm τm (fun i βx ox σx Hx sx=>?_) (fun βx ox σx Hx Nx sx qx=>hta _ _ _ _ _ _ _ h0 sx qx)
  ⟨inOwn lk β own,⟨ent,⟨fun b z=>.inl z,sm.kp,fun b z e=>z (sm.free e)⟩,fun _ z=>z,a0,sm,fun b ob n e=>sm _ _ e,fun _ _=>rfl⟩⟩ q fun βx ox σx Hx sx hx=>?_
 ·obtain ⟨ownx,sx⟩:=sx
  have kI:Kp (fun b=>av C (Wn own) k b∨H1 b=none) H1 Hx:=sx.pu.kp
  obtain ⟨g1,g2⟩:=it (fun b=>av C (Wn own) k b∨H1 b=none) (fun b z=>z) i Hx kI
  refine ⟨fun d hd=>?_,g2⟩
  obtain ⟨go,yl⟩:=g1 d hd
  refine ⟨go,fun x H3 y=>?_⟩
  obtain ⟨s3,r3⟩:=yl x H3 y
  exact ⟨s3,fun own' le'=>RepD.anti (fun c z=>z.elim (fun z=>.inl (av_mono (fun c z=>inOwn_le c (le' c z)) k c z)) fun z=>.inr (by rw [z]; exact ha)) r3⟩
 ·obtain ⟨ownx,sx⟩:=sx
  obtain ⟨hh,hK⟩:=hx
  have lv:SQ X C σ Hx β own:=s1.leave sx.sq sx.sn sx.le hh fun j ok i' e1 e2=>sx.st i' fun z=>hT i' z j e2
  exact fin ox Hx hK ⟨lv,⟨fun b z=>.inl z,sx.sn.k.mono fun b z=>z.imp (inOwn_le b) id,sx.sn.d⟩,fun z=>⟨sx.pu,rfl⟩,fun _ z=>z⟩ sx.ac
end
theorem acL_kv {X:Cx} {C:Cfg} {σ:St} {H1 H':Hp} {β:Bet} {own:Nat→List Addr} {a:Addr} {o:List D} (s1:SQ X C σ H1 β own) (ha:H1 a=none) (h:AcL X.prog X.w H1 a o H'):KV X.prog X.w C (H1,Wn own) own H' .own (.lst o) (.ref a):=by
 obtain ⟨vs,A,at',os,nd,nw⟩:=h
 refine ⟨a::A,⟨a,vs,A,rfl,at',rfl,os⟩,List.nodup_cons.mpr ⟨fun z=>(nw a z).2 rfl,nd⟩,fun c hc=>?_⟩
 have hc1:H1 c=none:=by
  rcases List.mem_cons.mp hc with rfl | hc
  ·exact ha
  ·exact (nw c hc).1
 exact ⟨hc1,fun h=>by obtain ⟨j,hj⟩:=h; exact (s1.dm j c hj).1 hc1,Decidable.by_contra fun z=>s1.dmn c z hc1⟩
def qComp2 (lk:List (Option Nat)) (ι:PhiQI) (γ:GamQ) (τ:PhiQB) (ι2:PhiQI) (γ2:GamQ) (τ2:PhiQB) (φ:PhiQ):PhiQ:=fun β R=>ι β fun ds k β1=>hold k false∧loopN γ τ (nestQ ι2 γ2 τ2 (emitQ φ)) ds k (inBet lk β1) [] fun βf o=>hndOk (inBet lk β1) βf∧R (.lst o) .own β1
section
variable {X:Cx} {C:Cfg} {lk:List (Option Nat)} {γ γ2:GamQ} {τ τ2:PhiQB} {φ:PhiQ} {T T2:List Nat}
variable {scope:Scope} {tg it1 tg2 it2 elt:Expr} {ifs ifs2:List Expr} {ι ι2:PhiQI} {pi:Bool} {pos pos' spos:Pos} {y:Str} {i:Nat}
theorem lcB (N':List Str) (lk:List (Option Nat)) (L:linksB X.env.scope.names X.N scope N' lk=true) (hN':N'.Nodup) (hc:X.calm=true) (hi:PQI X C pi tg it1 ι)
  (htg:∀ a cl c s H ex,PBG (compCx X scope N' cl c s H ex) (C.u fun c=>c=a) tg T γ) (hts:∀ a cl c s H ex,PQTs (compCx X scope N' cl c s H ex) (C.u fun c=>c=a) true ifs τ)
  (hi2:∀ a cl c s H ex,PQN (compCx X scope N' cl c s H ex) (C.u fun c=>c=a) tg2 it2 ι2)
  (htg2:∀ a cl c s H ex,PBG (compCx X scope N' cl c s H ex) (C.u fun c=>c=a) tg2 T2 γ2) (hts2:∀ a cl c s H ex,PQTs (compCx X scope N' cl c s H ex) (C.u fun c=>c=a) true ifs2 τ2)
  (hel:∀ a cl c s H ex,PQ (compCx X scope N' cl c s H ex) (C.u fun c=>c=a) true elt φ) (hT:(T++T2).all (fun i=>match lk[i]? with | some (some _)=>false | _=>true)=true:=by rfl)
  (hs:∀ x,foldedSetIterable it1 X.env x=pure x:=by intro _; rfl) (hs2:∀ cl c s H ex x,foldedSetIterable it2 (compCx X scope N' cl c s H ex).env x=pure x:=by intro _ _ _ _ _ _; rfl):PQ X C pi (.ListComp elt [⟨tg,it1,ifs,0⟩,⟨tg2,it2,ifs2,0⟩] scope pos) (qComp2 lk ι γ τ ι2 γ2 τ2 φ):=by
 have L:=Links.of L
 have hT':∀ i ∈ T++T2,∀ j,lk[i]?≠some (some j):=fun i hi j e=>by
  have:=List.all_eq_true.mp hT i hi
  rw [e] at this
  cases this
 have ax:Addr:=0
 have cl0:List (Str × Addr):=[]
 have γm:=(htg 0 [] 0 X.s₀ X.H₀ []).mono
 have τm:=(hts 0 [] 0 X.s₀ X.H₀ []).mono
 have γm2:=(htg2 0 [] 0 X.s₀ X.H₀ []).mono
 have τm2:=(hts2 0 [] 0 X.s₀ X.H₀ []).mono
 have φm:=(hel 0 [] 0 X.s₀ X.H₀ []).mono
 have ιm:=(hi2 0 [] 0 X.s₀ X.H₀ []).mono
 refine ⟨fun β R R' k h=>hi.mono β _ _ (fun ds kd β1 q=>⟨q.1,q.2.mono fun _ _ z=>⟨z.1,k _ _ _ z.2⟩⟩) h,?_⟩
 refine (pe_comp2 (g:=⟨tg,it1,ifs,0⟩) (gs:=[⟨tg2,it2,ifs2,0⟩]) (tg:=fun a=>tgN X C a T γ) (tt:=fun a=>tQB X (C.u fun c=>c=a) true τ)
  (ta:=fun a N σ H=>∃ β own,SQ X (C.u fun c=>c=a) σ H β own∧ι2 β fun ds k β'=>∀ J H',Same H H'→SQ X (C.u fun c=>c=a) σ H' β' own→ItD X (av' (C.u fun c=>c=a) (Wn own) k) J ds H' →
   tLoop J (tgN X C a T2 γ2) (tQB X (C.u fun c=>c=a) true τ2) (taN X C a φ) N σ H')
  L hc new_list rfl rfl (fun _ _=>cf_l20) hi.pi (fun a cl c s H ex=>⟨(htg a cl c s H ex).pg,(hts a cl c s H ex).pt,pa_nest (X:=compCx X scope N' cl c s H ex) (g':=⟨tg2,it2,ifs2,0⟩) rfl hc cf_l21 (hi2 a cl c s H ex).pi (htg2 a cl c s H ex).pg (hts2 a cl c s H ex).pt (pa_emitL (X:=compCx X scope N' cl c s H ex) rfl (hel a cl c s H ex).pe) (hs2 cl c s H ex)⟩) hs).pre fun σ H Q h=>?_
 obtain ⟨β,own,s,h⟩:=h
 refine ⟨β,own,s,hi.mono β _ _ (fun ds k β1 h J H1 own1 o1 it a ha=>?_) h⟩
 obtain ⟨hk,q⟩:=h
 refine sc_first (T:=T++T2) (acL_ok (P:=X.prog) (w:=X.w) (H1:=H1)) γm τm (fun j hj=>List.mem_append_left _ hj) (links_inj L hN') hT' o1.sq ha hk it ⟨[],[],upd_same,(show Owns _ _ _ [] [] [] from ⟨rfl,rfl⟩),List.nodup_nil,fun c hc=>(nomatch hc)⟩ (o1.sq.enter ha (links_inj L hN'))
  (fun Hb Wb βx ox σx Hx Nx h0 sx qx=>sc_nest acL_ok (fun j hj=>List.mem_append_right _ hj) γm2 τm2 (fun Hb Wb βy oy σy Hy Ny sy qy=>sc_emit h0 ha φm sy qy) ιm sx qx) q fun o H' q o2 r=>?_
 refine q _ _ own1 ⟨o2.sq,o1.sn.trans o2.sn,fun z=>⟨(o1.pu z).1.trans (o2.pu rfl).1,(o1.pu z).2⟩,o1.le⟩ ((acL_kv o1.sq ha r).later o1.sn)
end
end L2.Q
end

noncomputable section
set_option Elab.async false
set_option linter.all false
set_option maxRecDepth 100000
namespace L2
open PySem PySem.Spec PySem.SeqAt PyProof.Rows
section
variable {X:Cx}
theorem new_dictT:NewAcc X newDict (.dT []) :=
 ⟨fun pins s σ H Q E I h=>wpAny_newObj_type (h _ _ (Nat.le_refl _) I.fresh (fun b o e=>Heap.get?_push_of_some _ e) (I.laid (t':=s.toks) (fun _ _ q=>Heap.get?_push_of_some _ q) (Nat.le_refl _) (dt_empty _ I.big)))⟩
theorem pa_emitD {k v:Expr} {tk tv:TE} {a:Addr} (hx:X.xe=fun _ _=>False) (hu:X.A.units < cLine) (hk:PE X k tk) (hv:PE X v tv) :
  PAft X (thenK (emitD k v (.ref a) X.env)) (fun N σ H=>tk σ H fun y H1=>tv σ H1 fun v H2=>∃ kvs key b,H2 a=some (.dT kvs)∧y=.ref b∧H2 b=some (.tup (key.map kV))∧kvs.length < sizeLine∧N σ (upd H2 a (.dT (putK kvs key v)))):=by
 intro pins s σ H N kk Q E I h hN
 unfold thenK emitD
 refine wpAny_bind (wpAny_bind (thn (nox_any hx (hk pins s σ H _ I h)) fun u s1 ⟨y,H1,I1,r1,q⟩=>?_))
 refine wpAny_bind (wpAny_holding (thn (nox_any hx (hv pins s1 σ H1 _ I1 q)) fun w' s2 ⟨v,H2,I2,r2,kvs,key,b,e,ey,eb,l,q2⟩=>?_))
 subst ey
 cases (show u=Value.ref b from r1)
 refine wpAny_bind (wpAny_standAt (wpAny_holding ?_))
 obtain ⟨z,hd,xs,rel,dd⟩:=dt_of I2.hok e
 have hz:xs.length≤sizeLine:=by rw [← Paired.length rel]; exact z
 have hl:(putK kvs key v).length≤sizeLine:=by have:=length_putK kvs key v; omega
 refine wpAny_dictSet_heap (hsz:=hz) (knd:=tupleKind (mixKind X.prog X.w)) hu (key_of I2.hok eb) dd fun h' dd' hs=>hN σ _ _ ?_ q2
 obtain ⟨q,es,ep,hq,h2,h3,h4,_,h5⟩:=dd'
 refine d_write I2 (by rw [e]; exact True.intro) hs ⟨q,hq⟩ ⟨hl,hd,_,(rel.put key eb r2).keeps fun c ys ec=>?_,q,es,ep,hq,h2,h3,h4,h5⟩
 rw [upd_ne (ne_of ec e (fun z=>nomatch z))]
 exact ec
end
end L2
namespace L2.Q
open PySem PySem.Spec PySem.SeqAt PyProof.Rows
def AcD (P:Program) (w:World) (a:Addr) (o:List (List Int × D)) (H:Hp):Prop:=∃ vs,H a=some (.dT ((o.map fun p=>iK p.1).zip vs))∧Owns P w H (o.map (·.2)) vs []
theorem acD_ok {P:Program} {w:World} {a:Addr}:AcOk a (AcD P w a):=⟨fun o H H' s h=>by
  obtain ⟨vs,h1,h2⟩:=h
  exact ⟨vs,s _ _ h1,h2.keep (fun b xs e=>s _ _ e) fun c hc=>(nomatch hc)⟩,fun o H xs h z=>by
  obtain ⟨vs,h1,_⟩:=h
  rw [h1] at z; cases z⟩
abbrev taD (X:Cx) (C:Cfg) (a:Addr) (φk φ:PhiQ):TAft:=fun N σ H=>tQ X (C.u fun c=>c=a) true φk σ H fun y H1=>tQ X (C.u fun c=>c=a) true φ σ H1 fun v H2=>∃ kvs key b,H2 a=some (.dT kvs)∧y=.ref b∧H2 b=some (.tup (key.map kV))∧kvs.length < sizeLine∧N σ (upd H2 a (.dT (putK kvs key v)))
def emitDQ (φk φ:PhiQ) (o:List (List Int × D)) (β:Bet) (N:Bet→List (List Int × D)→Prop):Prop:=φk β fun kd _ β2=>φ β2 fun x _ β3=>∃ t,kd=.tup (t.map D.int)∧x.flat=true∧valA o t=none∧o.length < sizeLine∧N β3 (o++[(t,x)])
section
variable {X:Cx} {C:Cfg} {W0:Addr→Prop} {T:List Nat} {σ0:St} {H1:Hp} {a:Addr} {Hb:Hp} {Wb:Addr→Prop} {φ φk:PhiQ}
theorem sc_emitD (h0:C.H0 a=none) (ha:H1 a=none) (φkm:∀ β R R',(∀ d k β,R d k β→R' d k β)→φk β R→φk β R') (φm:∀ β R R',(∀ d k β,R d k β→R' d k β)→φ β R→φ β R') {β:Bet} {o:List (List Int × D)} {σ:St} {H:Hp} {N:Bet→List (List Int × D)→Prop} (s:SCE X C W0 T σ0 H1 a Hb Wb (AcD X.prog X.w a) β o σ H) (q:emitDQ φk φ o β N) :
  taD X C a φk φ (fun σ' H'=>∃ β' o',SCE X C W0 T σ0 H1 a Hb Wb (AcD X.prog X.w a) β' o' σ' H'∧N β' o') σ H:=by
 obtain ⟨own,s⟩:=s
 refine ⟨β,own,s.sq,φkm _ _ _ (fun kd kk β5 q v5 H5 own5 o5 r5=>?_) q⟩
 obtain ⟨sm5,rfl⟩:=o5.pu rfl
 refine ⟨β5,_,o5.sq,φm _ _ _ (fun xd kx β6 ⟨t,e1,f,hn,hz,q2⟩ v H6 own6 o6 r6=>?_) q⟩
 obtain ⟨sm,rfl⟩:=o6.pu rfl
 have s6:=s.next acD_ok o6.sq (fun _ z=>z) (sm5.trans sm) (fun _ _=>rfl)
 subst e1
 obtain ⟨b,us,rfl,hb,rt⟩:=r5.rep
 rw [L2.reps_ints rt] at hb
 obtain ⟨vs,at',os⟩:=s6.ac
 have r6':Own X.prog X.w H6 xd v []:=own_flat f r6.rep
 have l:(o.map fun p=>iK p.1).length=vs.length:=by rw [List.length_map,os.length,List.length_map]
 have hnew:putK ((o.map fun p=>iK p.1).zip vs) (iK t) v=((o++[(t,xd)]).map fun p=>iK p.1).zip (vs++[v]):=by
  rw [putK_new v (valV_A os hn),List.map_append,List.zip_append l]
  rfl
 have kt:∀ c xs,H6 c=some (.tup xs)→upd H6 a (.dT (putK ((o.map fun p=>iK p.1).zip vs) (iK t) v)) c=some (.tup xs):=fun c xs z=>by rw [upd_ne (fun z'=>by rw [z',at'] at z; cases z)]; exact z
 refine ⟨_,iK t,b,at',rfl,by rw [iK_kV]; exact sm _ _ hb,by rw [List.length_zip,← l,Nat.min_self,List.length_map]; exact hz,β6,o++[(t,xd)],⟨_,s6.put h0 ha at' (fun xs z=>by cases z) ⟨vs++[v],by rw [upd_same,hnew],?_⟩⟩,q2⟩
 rw [List.map_append]
 exact (os.keep kt (A:=[]) fun c hc=>by cases hc).append (Owns.one (r6'.keep kt (A:=[]) fun c hc=>by cases hc))
end
def qCompD (lk:List (Option Nat)) (ι:PhiQI) (γ:GamQ) (τ:PhiQB) (φk φ:PhiQ):PhiQ:=fun β R=>ι β fun ds k β1=>hold k false∧loopN γ τ (emitDQ φk φ) ds k (inBet lk β1) [] fun βf o=>hndOk (inBet lk β1) βf∧R (dA o) .own β1
section
variable {X:Cx} {C:Cfg} {lk:List (Option Nat)} {γ:GamQ} {τ:PhiQB} {φ φk:PhiQ} {T:List Nat}
variable {scope:Scope} {tg it1 ke elt:Expr} {ifs:List Expr} {ι:PhiQI} {pi:Bool} {pos pos' spos:Pos} {y:Str} {i:Nat}
theorem dcA (hu:X.A.units < cLine) (N':List Str) (lk:List (Option Nat)) (L:linksB X.env.scope.names X.N scope N' lk=true) (hN':N'.Nodup) (hc:X.calm=true) (hi:PQI X C pi tg it1 ι)
  (htg:∀ a cl c s H ex,PBG (compCx X scope N' cl c s H ex) (C.u fun c=>c=a) tg T γ) (hts:∀ a cl c s H ex,PQTs (compCx X scope N' cl c s H ex) (C.u fun c=>c=a) true ifs τ)
  (hke:∀ a cl c s H ex,PQ (compCx X scope N' cl c s H ex) (C.u fun c=>c=a) true ke φk) (hel:∀ a cl c s H ex,PQ (compCx X scope N' cl c s H ex) (C.u fun c=>c=a) true elt φ) (hT:T.all (fun i=>match lk[i]? with | some (some _)=>false | _=>true)=true:=by rfl)
  (hs:∀ x,foldedSetIterable it1 X.env x=pure x:=by intro _; rfl):PQ X C pi (.DictComp ke elt [⟨tg,it1,ifs,0⟩] scope pos) (qCompD lk ι γ τ φk φ):=by
 have L:=Links.of L
 have hT':∀ i ∈ T,∀ j,lk[i]?≠some (some j):=fun i hi j e=>by
  have:=List.all_eq_true.mp hT i hi
  rw [e] at this
  cases this
 have γm:=(htg 0 [] 0 X.s₀ X.H₀ []).mono
 have τm:=(hts 0 [] 0 X.s₀ X.H₀ []).mono
 have φm:=(hel 0 [] 0 X.s₀ X.H₀ []).mono
 have φkm:=(hke 0 [] 0 X.s₀ X.H₀ []).mono
 refine ⟨fun β R R' k h=>hi.mono β _ _ (fun ds kd β1 q=>⟨q.1,q.2.mono fun _ _ z=>⟨z.1,k _ _ _ z.2⟩⟩) h,?_⟩
 refine (pe_comp2 (g:=⟨tg,it1,ifs,0⟩) (gs:=[]) (tg:=fun a=>tgN X C a T γ) (tt:=fun a=>tQB X (C.u fun c=>c=a) true τ) (ta:=fun a=>taD X C a φk φ)
  L hc new_dictT rfl rfl (fun _ _=>cf_d1) hi.pi (fun a cl c s H ex=>⟨(htg a cl c s H ex).pg,(hts a cl c s H ex).pt,pa_emitD (X:=compCx X scope N' cl c s H ex) rfl hu (hke a cl c s H ex).pe (hel a cl c s H ex).pe⟩) hs).pre fun σ H Q h=>?_
 obtain ⟨β,own,s,h⟩:=h
 refine ⟨β,own,s,hi.mono β _ _ (fun ds k β1 h J H1 own1 o1 it a ha=>?_) h⟩
 obtain ⟨hk,q⟩:=h
 refine sc_first (T:=T) (acD_ok (P:=X.prog) (w:=X.w)) γm τm (fun j hj=>hj) (links_inj L hN') hT' o1.sq ha hk it ⟨[],upd_same,(show Owns _ _ _ [] [] [] from ⟨rfl,rfl⟩)⟩ (o1.sq.enterS (fun xs z=>by cases z) ha (links_inj L hN'))
  (fun Hb Wb βx ox σx Hx Nx h0 sx qx=>sc_emitD h0 ha φkm φm sx qx) q fun o H' q o2 r=>?_
 refine q _ _ own1 ⟨o2.sq,o1.sn.trans o2.sn,fun z=>⟨(o1.pu z).1.trans (o2.pu rfl).1,(o1.pu z).2⟩,o1.le⟩ ?_
 obtain ⟨vs,at',os⟩:=r
 refine ⟨[a],own_dA at' os,by simp,fun c hc=>?_⟩
 rw [List.mem_singleton.mp hc]
 exact ⟨Decidable.by_contra fun z=>o1.sn.d a z ha,fun h=>by obtain ⟨j,hj⟩:=h; exact (o1.sq.dm j a hj).1 ha,Decidable.by_contra fun z=>o1.sq.dmn a z ha⟩
end
end L2.Q
end



noncomputable section
set_option Elab.async false
set_option linter.all false
set_option maxRecDepth 100000
namespace L2.Q
open PySem PySem.Spec PySem.SeqAt PyProof.Rows
section
variable {X:Cx} {C:Cfg} {e a st:Expr} {φ:PhiQ} {p:Bool} {pos p2 p3 p4:Pos} {j:Nat}
theorem pe_revL {te:TE} (he:PE X e te):PE X (.Subscript e (.Slice none none (some (.UnaryOp .USub (.Constant (.int 1) j p3) p4)) p2) pos) (fun σ H Q=>te σ H fun x H1=>∃ a xs,x=.ref a∧H1 a=some (.lst xs)∧∀ p,H1 p=none→Q (.ref p) (upd H1 p (.lst xs.reverse))):=by
 intro pins s σ H Q I h
 refine Subscript_ (thn (he pins s σ H _ I h) fun v s1 ⟨x,H1,I1,r1,q1⟩=>?_)
 refine wpAny_Slice ?_
 rw [evalPart_none]
 refine wpAny_pure (wpAny_pure ?_)
 rw [evalPart_some]
 refine thn (pe_un (X:=X) (pos:=p4) un_neg (pe_int (i:=1) (j:=j) (pos:=p3)) pins s1 σ H1 (fun v H'=>v=.int (-1)∧H'=H1) I1 ⟨1,rfl,rfl,rfl⟩) fun u s3 ⟨y,H3,I3,r3,ey,eH⟩=>?_
 subst ey eH
 obtain ⟨tk,rfl⟩:=(show ∃ t,u=Value.int (-1) t from r3)
 have I4:Inv X pins σ H3 { s3 with heap:=s3.heap.push { cls:=.type "slice",data:=.fields #[.none,.none,.int (-1) tk] } }:=I3.kept (t':=s3.toks) fun b ob q=>Heap.get?_push_of_some _ q
 have hsl:(s3.heap.push { cls:=.type "slice",data:=.fields #[.none,.none,.int (-1) tk] }).IsSliceOf s3.heap.objs.size .none .none (.int (-1) tk):=Heap.IsSliceOf.new ..
 generalize hs4:({ s3 with heap:=s3.heap.push { cls:=.type "slice",data:=.fields #[.none,.none,.int (-1) tk] } }:Shared)=s4 at I4 ⊢
 have hsl4:s4.heap.IsSliceOf s3.heap.objs.size .none .none (.int (-1) tk):=by rw [← hs4]; exact hsl
 have main:∃ T id,typeLookup (.type T) "__getitem__" = pure (some (.builtin id))∧s4.TypeIs v T∧wpAny (model X.prog X.w) X.A (getItem v (.ref s3.heap.objs.size)) (EP X pins σ Q) X.xe s4:=by
  obtain ⟨a,xs,rfl,hx,q⟩:=q1
  cases (show v=Value.ref a from r1)
  obtain ⟨its,r,ht,hz⟩:=I4.list (SqL.of hx)
  have hlen:=r.length
  refine ⟨"list",_,slot_list_getitem.lookup,ht.isList.typeIs,?_⟩
  refine wpAny_getItem_list_slice ht.isList hsl4 .none .none (.int (-1) tk) (by simp) ?_ (by rw [List.size_toArray] <;> lia)
  rw [HT.slicePick_rev]
  refine ⟨.ref s4.heap.objs.size,_,I4.laid (t':=s4.toks) (o:=.lst xs.reverse) (fun b ob q=>Heap.get?_push_of_some _ q) (Nat.le_refl _) ?_,rfl,q _ (I4.hok.fresh (Nat.le_refl _))⟩
  exact ⟨by rw [List.length_reverse]; lia,_,0,by simpa using Vals.rev r,Heap.get?_push_size _ rfl⟩
 obtain ⟨T,id,hT,ht,hg⟩:=main
 show wpAny (model X.prog X.w) X.A (subscriptTail e (.Slice none none (some (.UnaryOp .USub (.Constant (.int 1) j p3) p4)) p2) v (.ref s3.heap.objs.size)) (EP X pins σ Q) X.xe s4
 exact tail_any (ops:=[v,.ref s3.heap.objs.size]) ht hT hg (by with_unfolding_all rfl)
def dRevL:D→Option D
 | .lst ds=>some (.lst ds.reverse)
 | _=>none
def qRevL (φ:PhiQ):PhiQ:=fun β R=>φ β fun x k β1=>∃ d,dRevL x=some d∧kN NL d k.wk fun k'=>R d k' β1
theorem pq_revL {j:Nat} (ha:PQ X C p a φ):PQ X C p (.Subscript a (.Slice none none (some (.UnaryOp .USub (.Constant (.int 1) j p3) p4)) p2) pos) (qRevL φ) :=
 ⟨fun β R R' k h=>ha.mono β _ _ (fun x kx β1 h=>by obtain ⟨d,e,q⟩:=h; exact ⟨d,e,q.mono fun _ z=>k _ _ _ z⟩) h,
  (pe_revL ha.pe).pre fun σ H Q h=>by
    obtain ⟨β,own,s,h⟩:=h
    refine tQ.of ha s h fun d k β1 v H1 own1 h o1 r1=>?_
    obtain ⟨d',e,q⟩:=h
    have rr:=RepD.anti av_wk r1.rep
    cases d with
    | lst ds =>
      cases e
      obtain ⟨c,vs,rfl,h1,n1,rs⟩:=rr
      refine ⟨c,vs,rfl,h1,fun p hp=>?_⟩
      have sm:Same H1 (upd H1 p (.lst vs.reverse)):=Same.new hp
      have hw:¬ av C (Wn own1) k.wk p:=fun z=>o1.sq.dmK _ p z hp
      have r2:RepD X.prog X.w (av C (Wn own1) k.wk) (upd H1 p (.lst vs.reverse)) (.lst ds.reverse) (.ref p):=⟨p,_,rfl,upd_same,hw,(RepDs.rev rs).same sm⟩
      obtain ⟨k',q,r⟩:=KV.kN (Z:=(H,Wn own)) wk_wk r2 (fun n=>own_new (H:=H1) o1.sq.dmW o1.sq.dmn (fun a z e=>o1.sn.d a z e) n ⟨p,_,rfl,upd_same,fun z=>z hp,RepDs.flat n ((RepDs.rev rs).same sm)⟩) q
      exact q _ _ own1 (o1.same sm) r
    | _=>cases e⟩
end
end L2.Q
end

noncomputable section
set_option Elab.async false
set_option linter.all false
set_option maxRecDepth 100000
namespace L2.Q
open PySem PySem.Spec PySem.SeqAt PyProof.Rows
section
variable {X:Cx} {C:Cfg} {a:Expr} {φ:PhiQ} {p:Bool}
def qTru (φ:PhiQ):PhiQB:=fun β R=>φ β fun d _ β'=>∃ ds,d=.lst ds∧R (!ds.isEmpty) β'
theorem pqt_tru (ha:PQ X C p a φ) (he:∀ whole,isTrue a X.env whole=(do let v ← whole; standAt a.pos; holding [v] (truthy v)):=by intro _; rfl):PQT X C p a (qTru φ) :=
 ⟨fun β R R' k h=>ha.mono β _ _ (fun d kd β' h=>by obtain ⟨b,e,q⟩:=h; exact ⟨b,e,k _ _ q⟩) h,(pt_truth ha.pe he).pre fun σ H Q h=>by
  obtain ⟨β,own,s,h⟩:=h
  refine tQ.of ha s h fun d k β' v H1 own1 h o1 r1=>?_
  obtain ⟨ds,e,q⟩:=h
  subst e
  obtain ⟨c,vs,rfl,h1,n1,rs⟩:=r1.rep
  refine ⟨!ds.isEmpty,.inl ⟨vs,SqL.of h1,?_⟩,q H1 own1 o1⟩
  have:=rs.length
  cases ds <;> cases vs <;> first | rfl | cases this⟩
end
end L2.Q
end

noncomputable section
set_option Elab.async false
set_option linter.all false
set_option maxRecDepth 100000
namespace L2.Q
open PySem PySem.Spec PySem.SeqAt PyProof.Rows
def noS:Option B→Option B
 | some (.shl _ _)=>none
 | b=>b
def inBetO (lk:List (Option Nat)) (β:Bet):Bet:=lk.map fun l=>match l with | some j=>(match β[j]? with | some b=>noS b | none=>none) | none=>none
def isO:Option (Option B)→Bool
 | some (some (.hand _))=>true
 | some (some (.own _))=>true
 | _=>false
def inOwnO (lk:List (Option Nat)) (β:Bet) (own:Nat→List Addr) (i:Nat):List Addr:=match lk[i]? with
 | some (some j)=>if isO β[j]?=true then own j else []
 | _=>[]
def okO:Bet→Bet→Prop
 | [],_=>True
 | some (.hand ok)::a,c=>c.head?=some (some (.hand ok))∧okO a c.tail
 | some (.own _)::a,c=>(∃ d,c.head?=some (some (.own d)))∧okO a c.tail
 | _::a,c=>okO a c.tail
theorem okO.tl {x:Option B} {a c:Bet} (h:okO (x::a) c):okO a c.tail:=by
 cases x with
 | none=>exact h
 | some x=>cases x <;> first | exact h | exact h.2
theorem okO.hnd:∀ {a c:Bet} {i:Nat} {ok:List Int→Prop},okO a c→a[i]?=some (some (.hand ok))→c[i]?=some (some (.hand ok))
 | [],_,_,_,_,e=>by simp at e
 | x::a,c,0,ok,h,e=>by
  simp at e
  subst e
  rw [← List.head?_eq_getElem?]
  exact h.1
 | x::a,c,i+1,ok,h,e=>by
  have:=okO.hnd (i:=i) h.tl (by simpa using e)
  rwa [List.getElem?_tail] at this
theorem okO.own:∀ {a c:Bet} {i:Nat} {d:D},okO a c→a[i]?=some (some (.own d))→∃ d',c[i]?=some (some (.own d'))
 | [],_,_,_,_,e=>by simp at e
 | x::a,c,0,d,h,e=>by
  simp at e
  subst e
  rw [← List.head?_eq_getElem?]
  exact h.1
 | x::a,c,i+1,d,h,e=>by
  obtain ⟨d',e'⟩:=okO.own (i:=i) h.tl (by simpa using e)
  rw [List.getElem?_tail] at e'
  exact ⟨d',e'⟩
def outB (lk:List (Option Nat)) (βi:Bet) (j:Nat):Option B→Option B
 | some (.own d)=>(match lk.findIdx? (· == some j) with | some i=>(match βi[i]? with | some x=>x | none=>none) | none=>some (.own d))
 | b=>b
def outGo (lk:List (Option Nat)) (βi:Bet):Nat→Bet→Bet
 | _,[]=>[]
 | j,b::r=>outB lk βi j b::outGo lk βi (j+1) r
def outBet (lk:List (Option Nat)) (β βi:Bet):Bet:=outGo lk βi 0 β
theorem outGo_len {lk:List (Option Nat)} {βi:Bet}:∀ {j:Nat} {β:Bet},(outGo lk βi j β).length=β.length
 | _,[]=>rfl
 | j,b::r=>by show (outGo lk βi (j+1) r).length+1=_; rw [outGo_len]; rfl
theorem outGo_get {lk:List (Option Nat)} {βi:Bet}:∀ {j i:Nat} {β:Bet},(outGo lk βi j β)[i]?=(β[i]?).map (outB lk βi (j+i))
 | _,_,[]=>by simp [outGo]
 | j,0,b::r=>by simp [outGo]
 | j,i+1,b::r=>by
  show (outGo lk βi (j+1) r)[i]?=_
  rw [outGo_get,List.getElem?_cons_succ,show j+1+i=j+(i+1) by omega]
theorem outBet_get {lk:List (Option Nat)} {β βi:Bet} {j:Nat}:(outBet lk β βi)[j]?=(β[j]?).map (outB lk βi j):=by
 unfold outBet
 rw [outGo_get,Nat.zero_add]
def capt (lk:List (Option Nat)) (j:Nat):Option Nat:=lk.findIdx? (· == some j)
theorem capt_some {lk:List (Option Nat)} {j i:Nat} (h:capt lk j=some i):lk[i]?=some (some j):=by
 obtain ⟨hi,h1,_⟩:=List.findIdx?_eq_some_iff_getElem.mp h
 rw [List.getElem?_eq_getElem hi,eq_of_beq h1]
theorem capt_none {lk:List (Option Nat)} {j i:Nat} (h:capt lk j=none):lk[i]?≠some (some j):=fun e=>by
 have:=List.findIdx?_eq_none_iff.mp h (some j) (List.mem_of_getElem? e)
 simp at this
theorem outB_own {lk:List (Option Nat)} {βi:Bet} {j:Nat} {d:D}:outB lk βi j (some (.own d))=(match capt lk j with | some i=>(match βi[i]? with | some x=>x | none=>none) | none=>some (.own d)):=rfl
section
variable {P:Program} {w:World} {C:Cfg} {σ σ':St} {H H' H1:Hp} {β βi:Bet} {own owni:Nat→List Addr} {lk:List (Option Nat)} {a:Addr}
theorem inOwnO_sub {i:Nat} {c:Addr} (h:c ∈ inOwnO lk β own i):∃ j,lk[i]?=some (some j)∧isO β[j]?=true∧c ∈ own j:=by
 unfold inOwnO at h
 split at h
 ·next j e =>
  by_cases q:isO β[j]?=true
  ·rw [if_pos q] at h; exact ⟨j,e,q,h⟩
  ·rw [if_neg q] at h; cases h
 ·cases h
theorem inOwnO_le:∀ c,Wn (inOwnO lk β own) c→Wn own c:=fun c ⟨i,h⟩=>let ⟨j,_,_,h⟩:=inOwnO_sub h; ⟨j,h⟩
theorem inOwnO_at {i j:Nat} (e:lk[i]?=some (some j)) (h:isO β[j]?=true):inOwnO lk β own i=own j:=by
 unfold inOwnO
 rw [e]
 exact if_pos h
theorem inBetO_get {i:Nat} {b:B} (h:(inBetO lk β)[i]?=some (some b)):∃ j,lk[i]?=some (some j)∧β[j]?=some (some b)∧noS (some b)=some b:=by
 unfold inBetO at h
 rw [List.getElem?_map] at h
 cases q:lk[i]? with
 | none=>rw [q] at h; cases h
 | some l =>
  rw [q] at h
  cases l with
  | none=>cases h
  | some j =>
   simp only [Option.map_some] at h
   cases q2:β[j]? with
   | none=>rw [q2] at h; cases h
   | some b2 =>
    rw [q2] at h
    simp only [Option.some.injEq] at h
    cases b2 with
    | none=>cases h
    | some b2 =>
     cases b2 with
     | shl y d=>cases h
     | _=>cases h; exact ⟨j,rfl,q2,rfl⟩
theorem inBetO_at {i j:Nat} {b:B} (e:lk[i]?=some (some j)) (h:β[j]?=some (some b)) (hb:noS (some b)=some b:=by rfl):(inBetO lk β)[i]?=some (some b):=by
 unfold inBetO
 rw [List.getElem?_map,e]
 simp only [Option.map_some]
 rw [h]
 exact congrArg some hb
theorem SQ'.enterO (s:SQ' P w C σ H β own) (ha:H a=none) (inj:∀ (i i' j:Nat),lk[i]?=some (some j)→lk[i']?=some (some j)→i=i') :
  SQ' P w (C.u fun c=>c=a) (inSt lk σ) (upd H a (.lst [])) (inBetO lk β) (inOwnO lk β own):=by
 have sm:Same H (upd H a (.lst [])):=Same.new ha
 have na:∀ {i c},c ∈ own i→c≠a:=fun {i c} hc z=>(s.dm i c hc).1 (by rw [z]; exact ha)
 have gr:∀ k,∀ c,av' (C.u fun c=>c=a) (Wn (inOwnO lk β own)) k c→av' C (Wn own) k c∨H c=none:=fun k c z=>by
  rcases z with z | z
  ·exact .inl (.inl (av_mono inOwnO_le k c z))
  ·exact .inr (by rw [z]; exact ha)
 refine ⟨by unfold inBetO inSt; simp,fun i y d e=>?_,fun i d e=>?_,fun i ok e=>?_,fun i c h=>?_,fun i i' c h1 h2=>?_,fun i=>?_,s.kp.trans sm.kp,fun c z e=>s.dmn c z (sm.free e),fun i y d e=>by
  obtain ⟨j,e1,e2,e3⟩:=inBetO_get e
  cases e3⟩
 ·obtain ⟨j,e1,e2,e3⟩:=inBetO_get e
  obtain ⟨v,h1,h2⟩:=s.val j y d e2
  exact ⟨v,inSt_get e1 h1,(RepD.grow (gr _) h2).same sm⟩
 ·obtain ⟨j,e1,e2,e3⟩:=inBetO_get e
  obtain ⟨v,h1,h2,h3⟩:=s.ow j d e2
  rw [inOwnO_at e1 (by rw [e2]; rfl)]
  exact ⟨v,inSt_get e1 h1,h2.keep (fun _ _ e=>sm _ _ e) (fun c _ o e=>sm c o e),h3⟩
 ·obtain ⟨j,e1,e2,e3⟩:=inBetO_get e
  obtain ⟨h,ns,h1,h2,h3,h4,h5⟩:=s.hnd j ok e2
  exact ⟨h,ns,inSt_get e1 h1,sm _ _ h2,h3,by rw [inOwnO_at e1 (by rw [e2]; rfl)]; exact h4,h5⟩
 ·obtain ⟨j,q1,q2,q3⟩:=inOwnO_sub h
  obtain ⟨g1,g2,g3,g4⟩:=s.dm j c q3
  rw [upd_ne (na q3)]
  exact ⟨g1,g2,g3,na q3⟩
 ·obtain ⟨j,q1,q2,q3⟩:=inOwnO_sub h1
  obtain ⟨j',q1',q2',q3'⟩:=inOwnO_sub h2
  have:=s.dis j j' c q3 q3'
  subst this
  exact inj _ _ _ q1 q1'
 ·unfold inOwnO
  split
  ·next j e =>
   split
   ·exact s.nod j
   ·exact List.nodup_nil
  ·exact List.nodup_nil
def ownO (lk:List (Option Nat)) (β:Bet) (own owni:Nat→List Addr) (j:Nat):List Addr:=match β[j]? with
 | some (some (.own _))=>(match capt lk j with | some i=>owni i | none=>own j)
 | _=>own j
theorem SQ'.leaveO (s:SQ' P w C σ H1 β own) (i:SQ' P w (C.u fun c=>c=a) σ' H' βi owni) (n:Sn (H1,Wn (inOwnO lk β own)) H' (Wn owni)) (le:∀ c,Wn owni c→Wn (inOwnO lk β own) c)
  (inj:∀ (i i' j:Nat),lk[i]?=some (some j)→lk[i']?=some (some j)→i=i')
  (hh:okO (inBetO lk β) βi) (hσ:∀ (j i:Nat),lk[i]?=some (some j)→σ'[i]?=(inSt lk σ)[i]?):SQ' P w C σ H' (outBet lk β βi) (ownO lk β own owni)∧∀ c,Wn (ownO lk β own owni) c→Wn own c:=by
 have off:∀ {j c},c ∈ own j→¬ Wn (inOwnO lk β own) c→∀ o,H1 c=some o→H' c=some o:=fun {j c} hc nw o e=>n.k.out c o e fun z=>z.elim nw fun z=>(s.dm j c hc).1 z
 have sep:∀ {j c},c ∈ own j→capt lk j=none∨isO β[j]?=false→¬ Wn (inOwnO lk β own) c:=fun {j c} hc q hq=>by
  obtain ⟨i',hi'⟩:=hq
  obtain ⟨j',q1,q2,q3⟩:=inOwnO_sub hi'
  have:=s.dis j j' c hc q3
  subst this
  rcases q with q | q
  ·exact capt_none q q1
  ·rw [q] at q2; cases q2
 have at_:∀ {j c},c ∈ ownO lk β own owni j→(∃ d i',β[j]?=some (some (.own d))∧capt lk j=some i'∧c ∈ owni i')∨(c ∈ own j∧((∃ d,β[j]?=some (some (.own d)))→capt lk j=none)):=fun {j c} h=>by
  unfold ownO at h
  split at h
  ·next d e =>
   cases q:capt lk j with
   | none=>rw [q] at h; exact .inr ⟨h,fun _=>rfl⟩
   | some i'=>rw [q] at h; exact .inl ⟨d,i',e,rfl,h⟩
  ·next e =>
   refine .inr ⟨h,fun ⟨d,z⟩=>(e d z).elim⟩
 have lo:∀ c,Wn (ownO lk β own owni) c→Wn own c:=fun c ⟨j,h⟩=>by
  rcases at_ h with ⟨d,i',e,q,h⟩ | ⟨h,_⟩
  ·exact inOwnO_le c (le c ⟨i',h⟩)
  ·exact ⟨j,h⟩
 have hN:∀ (j:Nat) (ok:List Int→Prop),β[j]?=some (some (B.hand ok))→∃ a ns,σ[j]?=some (some (V.ref a))∧H' a=some (.lst (ns.map V.int))∧ok ns∧own j=[a]∧((∀ b,¬ C.IO b)∨C.IO a):=fun j ok e=>by
  obtain ⟨h,ns,h1,h2,h3,h4,h5⟩:=s.hnd j ok e
  cases q:capt lk j with
  | none=>exact ⟨h,ns,h1,off (j:=j) (by rw [h4]; simp) (sep (by rw [h4]; simp) (.inl q)) _ h2,h3,h4,h5⟩
  | some i' =>
   have q1:=capt_some q
   obtain ⟨h',ns',g1,g2,g3,g4,g5⟩:=i.hnd i' ok (hh.hnd (inBetO_at q1 e))
   rw [hσ j i' q1,inSt_get q1 h1] at g1
   cases g1
   exact ⟨h,ns',h1,g2,g3,h4,h5⟩
 have ho:∀ {j:Nat} {b:B},(outBet lk β βi)[j]?=some (some b)→(∃ d d' i',β[j]?=some (some (.own d))∧capt lk j=some i'∧βi[i']?=some (some (.own d'))∧b=.own d')∨(β[j]?=some (some b)∧((∃ d,b=.own d)→capt lk j=none)):=fun {j b} e=>by
  rw [outBet_get] at e
  obtain ⟨b0,e0,e1⟩:=Option.map_eq_some_iff.mp e
  cases b0 with
  | none=>cases e1
  | some b0 =>
   cases b0 with
   | own d =>
    rw [outB_own] at e1
    cases q:capt lk j with
    | none=>rw [q] at e1; cases e1; exact .inr ⟨e0,fun _=>rfl⟩
    | some i' =>
     obtain ⟨d',e2⟩:=hh.own (inBetO_at (capt_some q) e0)
     rw [q] at e1
     dsimp only at e1
     rw [e2] at e1
     cases e1
     exact .inl ⟨d,d',i',e0,rfl,e2,rfl⟩
   | val y d=>cases e1; exact .inr ⟨e0,fun ⟨_,z⟩=>by cases z⟩
   | hand ok=>cases e1; exact .inr ⟨e0,fun ⟨_,z⟩=>by cases z⟩
   | shl y d=>cases e1; exact .inr ⟨e0,fun ⟨_,z⟩=>by cases z⟩
 refine ⟨⟨by rw [show (outBet lk β βi).length=β.length from outGo_len]; exact s.len,fun j y d e=>?_,fun j d e=>?_,fun j ok e=>?_,fun j c hc=>?_,fun j j' c h1 h2=>?_,fun j=>?_,i.kp,i.dmn,fun j y d e=>by
  rcases ho e with ⟨_,_,_,_,_,_,z⟩ | ⟨e,_⟩
  ·cases z
  obtain ⟨v,h1,h2,h3⟩:=s.shl j y d e
  have eo:ownO lk β own owni j=own j:=by unfold ownO; rw [e]
  rw [eo]
  refine ⟨v,h1,h2.map (fun c hc o eo=>off hc (sep hc (.inr (by rw [e]; rfl))) o eo) (fun ds vs r=>?_),h3⟩
  have g:RepDs P w (fun c=>av' C (Wn own) (yk y) c∨H1 c=none) H1 ds vs:=RepDs.grow (fun c z=>z) r
  refine RepDs.anti (fun c z=>.inl (avp_mono lo _ c z)) (g.keep (n.k.mono fun c z=>z.imp (fun z=>?_) id))
  cases y with
  | true=>exact .inl (.inl (inOwnO_le c z))
  | false=>exact .inl (inOwnO_le c z)⟩,lo⟩
 ·rcases ho e with ⟨_,_,_,_,_,_,z⟩ | ⟨e,_⟩
  ·cases z
  obtain ⟨v,h1,h2⟩:=s.val j y d e
  have g:RepD P w (fun c=>av' C (Wn own) (yk y) c∨H1 c=none) H1 d v:=RepD.grow (fun c z=>z) h2
  refine ⟨v,h1,RepD.anti (fun c z=>.inl (avp_mono lo _ c z)) (g.keep (n.k.mono fun c z=>z.imp (fun z=>?_) id))⟩
  cases y with
  | true=>exact .inl (.inl (inOwnO_le c z))
  | false=>exact .inl (inOwnO_le c z)
 ·rcases ho e with ⟨d0,d',i',e0,q,e1,z⟩ | ⟨e,q⟩
  ·cases z
   have q1:=capt_some q
   obtain ⟨v,h1,h2,h3⟩:=i.ow i' d e1
   obtain ⟨v0,g1,_,_⟩:=s.ow j d0 e0
   rw [hσ j i' q1,inSt_get q1 g1] at h1
   cases h1
   refine ⟨v,g1,?_⟩
   unfold ownO
   rw [e0]
   simp only [q]
   exact ⟨h2,h3⟩
  ·have q:=q ⟨d,rfl⟩
   obtain ⟨v,h1,h2,h3⟩:=s.ow j d e
   refine ⟨v,h1,?_⟩
   unfold ownO
   rw [e]
   simp only [q]
   exact ⟨h2.keep n.k.tup (fun c hc o eo=>off hc (sep hc (.inl q)) o eo),h3⟩
 ·rcases ho e with ⟨_,_,_,_,_,_,z⟩ | ⟨e,_⟩
  ·cases z
  obtain ⟨h,ns,h1,h2,h3,h4,h5⟩:=hN j ok e
  refine ⟨h,ns,h1,h2,h3,?_,h5⟩
  unfold ownO
  rw [e]
  exact h4
 ·rcases at_ hc with ⟨d,i',e,q,h⟩ | ⟨h,hq⟩
  ·obtain ⟨g1,g2,g3,g4⟩:=i.dm i' c h
   obtain ⟨j',hj'⟩:=inOwnO_le c (le c ⟨i',h⟩)
   exact ⟨g1,g2,g3,(s.dm j' c hj').2.2.2⟩
  ·obtain ⟨g1,g2,g3,g4⟩:=s.dm j c h
   by_cases q:capt lk j=none∨isO β[j]?=false
   ·cases e:H1 c with
    | none=>exact absurd e g1
    | some o=>rw [off h (sep h q) o e]; exact ⟨fun z=>(nomatch z),fun xs z=>g2 xs (by rw [e]; exact z),g3,g4⟩
   ·have q1:isO β[j]?=true:=by cases z:isO β[j]? with | true=>rfl | false=>exact (q (.inr z)).elim
    cases e:β[j]? with
    | none=>rw [e] at q1; cases q1
    | some b =>
     rw [e] at q1
     cases b with
     | none=>cases q1
     | some b =>
      cases b with
      | val y d=>cases q1
      | shl y d=>cases q1
      | own d=>exact (q (.inl (hq ⟨d,e⟩))).elim
      | hand ok =>
       obtain ⟨h',ns,k1,k2,k3,k4,k5⟩:=hN j ok e
       rw [k4] at h
       rw [List.mem_singleton.mp h] at g3 g4 ⊢
       rw [k2]
       exact ⟨fun z=>(nomatch z),fun xs z=>(by cases z),g3,g4⟩
 ·have key:∀ {j j' c},c ∈ ownO lk β own owni j→c ∈ ownO lk β own owni j'→(∃ d i',β[j]?=some (some (.own d))∧capt lk j=some i'∧c ∈ owni i')→j=j':=fun {j j' c} h1 h2 ⟨d,i',e,q,h⟩=>by
   rcases at_ h2 with ⟨d2,i2,e2,q2,h2⟩ | ⟨h2,hq2⟩
   ·have:=i.dis i' i2 c h h2
    subst this
    have a1:=capt_some q
    rw [capt_some q2] at a1
    cases a1
    rfl
   ·obtain ⟨i3,hi3⟩:=le c ⟨i',h⟩
    obtain ⟨j3,p1,p2,p3⟩:=inOwnO_sub hi3
    have:=s.dis j' j3 c h2 p3
    subst this
    cases e3:β[j']? with
    | none=>rw [e3] at p2; cases p2
    | some b =>
     rw [e3] at p2
     cases b with
     | none=>cases p2
     | some b =>
      cases b with
      | val y d=>cases p2
      | shl y d=>cases p2
      | own d=>exact (capt_none (hq2 ⟨d,e3⟩) p1).elim
      | hand ok =>
       have e4:=hh.hnd (inBetO_at p1 e3)
       obtain ⟨h',ns,k1,k2,k3,k4,k5⟩:=s.hnd j' ok e3
       obtain ⟨h'',ns',g1,g2,g3,g4,g5⟩:=i.hnd i3 ok e4
       rw [hσ j' i3 p1,inSt_get p1 k1] at g1
       cases g1
       have:c ∈ owni i3:=by rw [g4,← k4]; exact h2
       have:=i.dis i' i3 c h this
       subst this
       have a1:=capt_some q
       rw [p1] at a1
       cases a1
       rfl
  rcases at_ h1 with z1 | ⟨z1,_⟩
  ·exact key h1 h2 z1
  ·rcases at_ h2 with z2 | ⟨z2,_⟩
   ·exact (key h2 h1 z2).symm
   ·exact s.dis j j' c z1 z2
 ·unfold ownO
  split
  ·cases capt lk j with
   | none=>exact s.nod j
   | some i'=>exact i.nod i'
  ·exact s.nod j
end
def loopO (γ:GamQ) (τ:PhiQB) (φ:PhiQ) (ds:List D) (k:Kd) (β0:Bet) (K:List D→Bet→Prop):Prop:=∃ I:Nat→Bet→List D→Prop,I 0 β0 [] ∧
 (∀ i d β o,ds[i]?=some d→I i β o→γ d (sk k d) β fun β1=>τ β1 fun t β2=>if t=true then φ β2 fun x kx β3=>kFl kx x∧o.length < sizeLine∧I (i+1) β3 (o++[x]) else I (i+1) β2 o)∧∀ β o,I ds.length β o→okO β0 β∧K o β
theorem loopO.mono {γ:GamQ} {τ:PhiQB} {φ:PhiQ} {ds:List D} {k:Kd} {β0:Bet} {K K':List D→Bet→Prop} (h:∀ o β,K o β→K' o β) (q:loopO γ τ φ ds k β0 K):loopO γ τ φ ds k β0 K':=let ⟨I,h0,h1,h2⟩:=q; ⟨I,h0,h1,fun β o z=>⟨(h2 β o z).1,h _ _ (h2 β o z).2⟩⟩
def qCompO (lk:List (Option Nat)) (ι:PhiQI) (γ:GamQ) (τ:PhiQB) (φ:PhiQ):PhiQ:=fun β R=>ι β fun ds k β1=>hold k false∧loopO γ τ φ ds k (inBetO lk β1) fun o βi=>R (.lst o) .own (outBet lk β1 βi)
section
variable {X:Cx} {C:Cfg} {lk:List (Option Nat)} {γ:GamQ} {τ:PhiQB} {φ:PhiQ} {T:List Nat} {pc pe:Bool}
theorem comp_coreO {σ:St} {H1:Hp} {β:Bet} {own:Nat→List Addr} {a:Addr} {J:It} {ds:List D} {k:Kd} {K:List D→Bet→Prop} {End:Hp→Prop}
  (γm:∀ d k β R R',(∀ r,R r→R' r)→γ d k β R→γ d k β R') (τm:∀ β R R',(∀ d β,R d β→R' d β)→τ β R→τ β R') (φm:∀ β R R',(∀ d k β,R d k β→R' d k β)→φ β R→φ β R')
  (inj:∀ (i i' j:Nat),lk[i]?=some (some j)→lk[i']?=some (some j)→i=i') (hT:∀ i ∈ T,∀ j,lk[i]?≠some (some j))
  (s1:SQ X C σ H1 β own) (ha:H1 a=none) (hk:hold k false) (it:ItD X (av C (Wn own) k) J ds H1) (q:loopO γ τ φ ds k (inBetO lk β) K)
  (fin:∀ o H' βi own',K o βi→Out X C σ H1 own false (outBet lk β βi) H' own'→KV X.prog X.w C (H1,Wn own) own' H' .own (.lst o) (.ref a)→End H') :
  tLoop J (fun v σ H Q=>∃ own β d k,SQ X (C.u fun c=>c=a) σ H β own∧Rp X (av' (C.u fun c=>c=a) (Wn own) k) H d v∧γ d k β fun β'=>∀ σ' own',SQ X (C.u fun c=>c=a) σ' H β' own'→(∀ a,Wn own' a→Wn own a)→(∀ j,j ∉ T→σ'[j]?=σ[j]?)→Q σ' H)
   (tQB X (C.u fun c=>c=a) pc τ) (fun N σ H=>tQ X (C.u fun c=>c=a) pe φ σ H fun v H1=>∃ xs,H1 a=some (.lst xs)∧xs.length < sizeLine∧N σ (upd H1 a (.lst (xs++[v]))))
   (fun _ H'=>End H') (inSt lk σ) (upd H1 a (.lst [])):=by
 obtain ⟨I,i0,i1,i2⟩:=q
 have h0:C.H0 a=none:=Decidable.by_contra fun z=>s1.dmn a z ha
 have sm:Same H1 (upd H1 a (.lst [])):=Same.new ha
 have nWa:∀ c,Wn (inOwnO lk β own) c→c≠a:=fun c z e=>by
  obtain ⟨j,hj⟩:=inOwnO_le c z
  exact (s1.dm j c hj).1 (by rw [e]; exact ha)
 let S:Nat→St→Hp→Prop:=fun i σ' H'=>∃ βi owni vs o A,SQ X (C.u fun c=>c=a) σ' H' βi owni∧Sn (H1,Wn (inOwnO lk β own)) H' (Wn owni)∧(∀ c,Wn owni c→Wn (inOwnO lk β own) c)∧H' a=some (.lst vs)∧Owns X.prog X.w H' o vs A∧A.Nodup∧(∀ c ∈ A,H1 c=none∧c≠a) ∧
  ((pc && pe)=true→Same H1 H')∧(∀ j,j ∉ T→σ'[j]?=(inSt lk σ)[j]?)∧I i βi o
 have W':Addr→Prop:=fun b=>av C (Wn own) k b∨H1 b=none
 have itw:=it (fun b=>av C (Wn own) k b∨H1 b=none) fun b z=>z
 have kI:∀ {H':Hp} {owni:Nat→List Addr},Sn (H1,Wn (inOwnO lk β own)) H' (Wn owni)→((pc && pe)=true→Same H1 H')→Kp (fun b=>av C (Wn own) k b∨H1 b=none) H1 H':=fun n pu=>by
  cases k with
  | own=>exact n.k.mono fun b z=>z.imp (fun z=>.inl (inOwnO_le b z)) id
  | yng=>exact n.k.mono fun b z=>z.imp (fun z=>.inl (inOwnO_le b z)) id
  | old=>exact n.k.mono fun b z=>z.imp (inOwnO_le b) id
  | bor=>exact hk.elim
 refine ⟨fun i m σ' H'=>i≤ds.length∧m=ds.length - i∧S i σ' H',⟨_,Nat.zero_le _,rfl,inBetO lk β,inOwnO lk β own,[],[],[],s1.enterO ha inj,⟨fun b z=>.inl z,sm.kp,fun b z e=>z (sm.free e)⟩,fun _ z=>z,upd_same,⟨rfl,rfl⟩,List.nodup_nil,fun c hc=>(nomatch hc),fun _=>sm,fun _ _=>rfl,i0⟩,?_⟩
 rintro i m σ2 H2 ⟨hi,rfl,βi,owni,vs,o,A,sq,sn,le,hav,os,nd,nw,pu,st,hl⟩
 obtain ⟨it1,it2⟩:=itw i H2 (kI sn pu)
 by_cases hlt:i < ds.length
 ·right
  have hd:ds[i]?=some ds[i]:=List.getElem?_eq_getElem hlt
  obtain ⟨go,yl⟩:=it1 _ hd
  refine ⟨go,fun σ' H'=>S (i+1) σ' H',fun σ' H' h=>⟨_,by omega,hlt,rfl,h⟩,fun x H3 y=>?_⟩
  obtain ⟨s3,r3⟩:=yl x H3 y
  have avs:∀ {owni:Nat→List Addr},(∀ c,Wn owni c→Wn (inOwnO lk β own) c)→∀ c,av' (C.u fun c=>c=a) (Wn owni) k c→av C (Wn own) k c∨H1 c=none:=fun le c z=>z.elim (fun z=>.inl (av_mono (fun c z=>inOwnO_le c (le c z)) k c z)) fun z=>.inr (by rw [z]; exact ha)
  refine ⟨owni,βi,_,_,sq.same s3,sk_rep (RepD.anti (avs le) r3),γm _ _ _ _ _ (fun β4 q σ4 own4 s4 w4 t4=>?_) (i1 i _ βi o hd hl)⟩
  have le4:∀ c,Wn own4 c→Wn (inOwnO lk β own) c:=fun c z=>le c (w4 c z)
  refine ⟨β4,own4,s4,τm _ _ _ (fun t β5 q H5 own5 o5=>?_) q⟩
  have na5:∀ c,Wn own5 c→Wn (inOwnO lk β own) c:=fun c z=>le4 c (o5.le c z)
  have keep5:∀ c,c ∈ a::A→∀ oc,H2 c=some oc→H5 c=some oc:=fun c hc oc e=>by
   refine o5.sn.k.out c oc (s3 c oc e) fun z=>?_
   rcases z with z | z
   ·rcases List.mem_cons.mp hc with rfl | hc
    ·exact nWa _ (le4 _ z) rfl
    ·obtain ⟨j,hj⟩:=inOwnO_le c (le4 c z)
     exact (s1.dm j c hj).1 (nw c hc).1
   ·exact absurd ((s3 c oc e).symm.trans z) (fun z=>(nomatch z))
  have kt5:∀ b xs,H2 b=some (.tup xs)→H5 b=some (.tup xs):=fun b xs e=>o5.sn.k.tup b xs (s3 b _ e)
  have os5:Owns X.prog X.w H5 o vs A:=os.keep kt5 fun c hc oc e=>keep5 c (by simp [hc]) oc e
  have sn5:Sn (H1,Wn (inOwnO lk β own)) H5 (Wn own5):=(sn_less (sn.same s3) w4).trans o5.sn
  have pu5:(pc && pe)=true→Same H1 H5:=fun z=>((pu z).trans s3).trans (o5.pu (andL z)).1
  have st4:∀ j,j ∉ T→σ4[j]?=(inSt lk σ)[j]?:=fun j hj=>(t4 j hj).trans (st j hj)
  cases t with
  | false=>exact ⟨β5,own5,vs,o,A,o5.sq,sn5,na5,keep5 a (by simp) _ hav,os5,nd,nw,pu5,st4,q⟩
  | true =>
   refine ⟨β5,own5,o5.sq,φm _ _ _ (fun xd kx β6 ⟨f,hz,q⟩ v H6 own6 o6 r6=>?_) q⟩
   obtain ⟨B',r1,r2,r3'⟩:=r6.fl f
   have hav5:H5 a=some (.lst vs):=keep5 a (by simp) _ hav
   have keep6:∀ c,c ∈ a::A→∀ oc,H5 c=some oc→H6 c=some oc:=fun c hc oc e=>by
    refine o6.sn.k.out c oc e fun z=>?_
    rcases z with z | z
    ·rcases List.mem_cons.mp hc with rfl | hc
     ·exact nWa _ (na5 _ z) rfl
     ·obtain ⟨j,hj⟩:=inOwnO_le c (na5 c z)
      exact (s1.dm j c hj).1 (nw c hc).1
    ·exact absurd (e.symm.trans z) (fun z=>(nomatch z))
   have hav6:H6 a=some (.lst vs):=keep6 a (by simp) _ hav5
   have os6:Owns X.prog X.w H6 o vs A:=os5.keep o6.sn.k.tup fun c hc oc e=>keep6 c (by simp [hc]) oc e
   have neA:∀ c ∈ A,c≠a:=fun c hc=>(nw c hc).2
   have neB:∀ c ∈ B',c≠a:=fun c hc z=>by rw [z] at hc; exact absurd (hav5.symm.trans (r3' a hc).1) (fun z=>(nomatch z))
   have kt:∀ b xs,H6 b=some (.tup xs)→upd H6 a (.lst (vs++[v])) b=some (.tup xs):=fun b xs z=>by rw [upd_ne (fun z'=>by rw [z',hav6] at z; cases z)]; exact z
   refine ⟨vs,hav6,by rw [os6.length]; exact hz,β6,own6,vs++[v],o++[xd],A++B',o6.sq.setU hav6 (fun xs z=>by cases z) h0,?_,fun c z=>na5 c (o6.le c z),upd_same,?_,?_,fun c hc=>?_,fun z=>?_,st4,q⟩
   ·have m:=sn5.trans o6.sn
    refine ⟨m.w,m.k.trans ((kp_upd hav6 (fun xs z=>by cases z)).mono fun b z=>.inr (by rw [z]; exact ha)),fun b z e=>?_⟩
    by_cases hb:b=a
    ·rw [hb,upd_same] at e; cases e
    ·rw [upd_ne hb] at e; exact m.d b z e
   ·exact (os6.keep kt fun c hc oc e=>by rw [upd_ne (neA c hc)]; exact e).append (Owns.one (r1.keep kt fun c hc oc e=>by rw [upd_ne (neB c hc)]; exact e))
   ·refine List.nodup_append.mpr ⟨nd,r2,fun x hx y hy e=>?_⟩
    subst e
    have:=(r3' x hy).1
    exact (os5.dom x hx).1 this
   ·rcases List.mem_append.mp hc with hc | hc
    ·exact nw c hc
    ·exact ⟨sn5.free (r3' c hc).1,neB c hc⟩
   ·refine fun b ob e=>?_
    rw [upd_ne (fun z'=>by rw [z',ha] at e; cases e)]
    exact (o6.pu (andR z)).1 b ob (pu5 z b ob e)
 ·left
  have e:i=ds.length:=by omega
  subst e
  obtain ⟨hh,q⟩:=i2 βi o hl
  obtain ⟨lv,lo⟩:=s1.leaveO sq sn le inj hh fun j i' e2=>st i' fun z=>hT i' z j e2
  refine ⟨it2 (Nat.le_refl _),fin o H2 βi _ q ⟨lv,⟨fun b z=>.inl (lo b z),sn.k.mono fun b z=>z.imp (inOwnO_le b) id,sn.d⟩,fun z=>(nomatch z),lo⟩ ⟨a::A,⟨a,vs,A,rfl,hav,rfl,os⟩,List.nodup_cons.mpr ⟨fun z=>(nw a z).2 rfl,nd⟩,fun c hc=>?_⟩⟩
  have hc1:H1 c=none:=by
   rcases List.mem_cons.mp hc with rfl | hc
   ·exact ha
   ·exact (nw c hc).1
  exact ⟨hc1,fun hq5=>by obtain ⟨j,hj⟩:=lo c hq5; exact (s1.dm j c hj).1 hc1,Decidable.by_contra fun z=>s1.dmn c z hc1⟩
variable {scope:Scope} {N':List Str} {tg it1 elt:Expr} {ifs:List Expr} {ι:PhiQI} {pi:Bool} {pos pos' spos:Pos} {y:Str} {i:Nat}
theorem pq_lcO (L:Links X scope N' lk) (hN':N'.Nodup) (hT:T.all (fun i=>match lk[i]? with | some (some _)=>false | _=>true)=true) (hc:X.calm=true) (hi:PQI X C pi tg it1 ι)
  (htg:∀ a cl c s H ex,PBG (compCx X scope N' cl c s H ex) (C.u fun c=>c=a) tg T γ) (hts:∀ a cl c s H ex,PTs (compCx X scope N' cl c s H ex) ifs (tQB (compCx X scope N' cl c s H ex) (C.u fun c=>c=a) pc τ)) (τm:∀ β R R',(∀ d β,R d β→R' d β)→τ β R→τ β R')
  (hel:∀ a cl c s H ex,PQ (compCx X scope N' cl c s H ex) (C.u fun c=>c=a) pe elt φ) (γm:∀ d k β R R',(∀ r,R r→R' r)→γ d k β R→γ d k β R') (φm:∀ β R R',(∀ d k β,R d k β→R' d k β)→φ β R→φ β R')
  (hs:∀ x,foldedSetIterable it1 X.env x=pure x:=by intro _; rfl):PQ X C false (.ListComp elt [⟨tg,it1,ifs,0⟩] scope pos) (qCompO lk ι γ τ φ):=by
 have hT':∀ i ∈ T,∀ j,lk[i]?≠some (some j):=fun i hi j e=>by
  have:=List.all_eq_true.mp hT i hi
  rw [e] at this
  cases this
 refine ⟨fun β R R' k h=>hi.mono β _ _ (fun ds kd β1 q=>⟨q.1,q.2.mono fun o β z=>k _ _ _ z⟩) h,?_⟩
 refine (pe_comp2 (g:=⟨tg,it1,ifs,0⟩) (gs:=[]) (tg:=fun a v σ H Q=>∃ own β d k,SQ X (C.u fun c=>c=a) σ H β own∧Rp X (av' (C.u fun c=>c=a) (Wn own) k) H d v∧γ d k β fun β'=>∀ σ' own',SQ X (C.u fun c=>c=a) σ' H β' own'→(∀ a,Wn own' a→Wn own a)→(∀ j,j ∉ T→σ'[j]?=σ[j]?)→Q σ' H)
  (tt:=fun a=>tQB X (C.u fun c=>c=a) pc τ) (ta:=fun a N σ H=>tQ X (C.u fun c=>c=a) pe φ σ H fun v H1=>∃ xs,H1 a=some (.lst xs)∧xs.length < sizeLine∧N σ (upd H1 a (.lst (xs++[v]))))
  L hc new_list rfl rfl (fun _ _=>cf_l1) hi.pi (fun a cl c s H ex=>⟨(htg a cl c s H ex).pg,hts a cl c s H ex,pa_emitL rfl (hel a cl c s H ex).pe⟩) hs).pre fun σ H Q ⟨β,own,s,h⟩=>?_
 refine ⟨β,own,s,hi.mono β _ _ (fun ds k β1 ⟨hk,q⟩ J H1 own1 o1 it a ha=>?_) h⟩
 exact comp_coreO γm τm φm (links_inj L hN') hT' o1.sq ha hk it q fun o H' βi own2 q o2 r=>q _ _ own2 (o1.tr2 o2 fun z=>(nomatch z)) (r.later o1.sn)
theorem lcO (N':List Str) (lk:List (Option Nat)) (L:linksB X.env.scope.names X.N scope N' lk=true) (hN':N'.Nodup) (hc:X.calm=true) (hi:PQI X C pi tg it1 ι)
  (htg:∀ U cl c s H ex,PBG (compCx X scope N' cl c s H ex) (C.u U) tg T γ) (hts:∀ U cl c s H ex,PQTs (compCx X scope N' cl c s H ex) (C.u U) pc ifs τ) (hel:∀ U cl c s H ex,PQ (compCx X scope N' cl c s H ex) (C.u U) pe elt φ)
  (hT:T.all (fun i=>match lk[i]? with | some (some _)=>false | _=>true)=true:=by rfl) (hs:∀ x,foldedSetIterable it1 X.env x=pure x:=by intro _; rfl):PQ X C false (.ListComp elt [⟨tg,it1,ifs,0⟩] scope pos) (qCompO lk ι γ τ φ) :=
 pq_lcO (Links.of L) hN' hT hc hi (fun a=>htg _) (fun a cl c s H ex=>(hts _ cl c s H ex).pt) (hts (fun _=>False) [] 0 X.s₀ X.H₀ []).mono (fun a=>hel _) (htg (fun _=>False) [] 0 X.s₀ X.H₀ []).mono (hel (fun _=>False) [] 0 X.s₀ X.H₀ []).mono hs
end
end L2.Q
end

noncomputable section
set_option Elab.async false
set_option linter.all false
set_option maxRecDepth 100000
namespace Dp
open PySem PySem.Spec PyProof.Rows
theorem entry_loop:entryFor table "dict.update.loop" = some Builtin.«dict.update.loop»:=entryFor_of_tree (by kernel_rfl)
theorem plain_loop:plainId "dict.update.loop" = true:=by decide +kernel
theorem miss_keys:typeLookup (.type "list") "keys" = pure none:=am_miss_of_fast (by decide +kernel)
section
variable {prog:Program} {w:World} {A:Around} {E:Value→Shared→Prop} {s:Shared}
theorem getAttr?_miss {a:Addr} {o:Obj} {xs:Array Value} {k:Nat} {name:Str} {Q:Option Value→Shared→Prop}
  (hx:s.heap.get? a=some o) (hc:o.cls=.type "list") (hdat:o.data=.seq xs k) (hd:o.dict=none) (hmiss:typeLookup (.type "list") name=pure none) (hname:(["__module__","__name__","__qualname__","__doc__","__annotations__"]:List Str).contains name=false) (hA:A.handled=none)
  (h:∀ h' tk,(∀ b ob,s.heap.get? b=some ob→h'.get? b=some ob)→Q none { s with heap:=h',toks:=tk }) (hsz:name.length+100≤sizeLine:=by size_fits) :
  wpAny (model prog w) A (getAttr? (.ref a) name) Q E s:=by
 obtain ⟨c,dct,dat,sl⟩:=o
 simp only at hc hdat hd
 subst hc hdat hd
 obtain ⟨hp,g,d,tk,os⟩:=s
 have hT:∀ tk',(⟨hp,g,d,tk',os⟩:Shared).TypeIs (.ref a) "list" := fun _=>⟨_,hx,rfl⟩
 have f1:=sub_AttributeError
 have f3:=F.slot_list_getattribute.lookup
 have f4:=F.slot_list_getattribute.bind (.ref a)
 have f5:=am_list_getattr_none
 unfold getAttr? getAttrBy? getAttrBy
 repeat (any_goals (first | assumption | exact hT _ | ((with_reducible show wpAny _ _ (call (Value.builtin "list.__getattribute__") _ _) _ _ _); refine call_meets F.slot_list_getattribute (hT _) am_entry_list_getattribute (F.args_list_getattribute_2 _ _) (meets_getattribute_miss_list a xs k sl name _ hmiss hname hsz) ⟨hx,hA,fun h' tk' e hx'=>?_⟩) | wp_step))
 obtain ⟨t',u',he⟩:=hx'.there
 show wpAny _ _ (getattributeRaised _ _ _ _ _ _ _) _ _ _
 unfold getattributeRaised
 repeat (any_goals (first | assumption | wp_step))
 exact h _ _ hx'.keeps
end
section
variable {prog:Program} {w:World} {A:Around} {R:Result→Shared→Prop} {I l d:Addr} {K:Type} [DecidableEq K] {knd:HeapKind prog w K} {ps:List (Addr × K × Addr × Value)}
def PairAt (knd:HeapKind prog w K) (h:Heap) (p:Addr × K × Addr × Value):Prop:=IsTup h p.1 #[.ref p.2.2.1,p.2.2.2]∧knd.is h p.2.1 p.2.2.1
def put (xs:List (K × Addr × Value)) (p:Addr × K × Addr × Value):List (K × Addr × Value):=storedH xs p.2.1 p.2.2.1 p.2.2.2
def From (ps:List (Addr × K × Addr × Value)) (xs:List (K × Addr × Value)):Prop:=∀ x ∈ xs,∃ p ∈ ps,x.1=p.2.1∧x.2.1=p.2.2.1
theorem From.put {xs:List (K × Addr × Value)} {p:Addr × K × Addr × Value} (f:From ps xs) (hp:p ∈ ps):From ps (Dp.put xs p):=fun x hx=>by
 unfold Dp.put storedH at hx
 split at hx
 ·obtain ⟨y,hy,rfl⟩:=List.mem_map.mp hx
  obtain ⟨q,hq,e1,e2⟩:=f y hy
  refine ⟨q,hq,?_⟩
  unfold putAt
  split
  ·exact ⟨e1,e2⟩
  ·exact ⟨e1,e2⟩
 ·rcases List.mem_append.mp hx with h | h
  ·exact f x h
  ·rw [List.mem_singleton.mp h]; exact ⟨p,hp,rfl,rfl⟩
theorem put_len {xs:List (K × Addr × Value)} {p:Addr × K × Addr × Value}:(Dp.put xs p).length≤xs.length+1:=by
 unfold Dp.put storedH
 split
 ·rw [List.length_map]; lia
 ·simp
theorem dict_kept {h h':Heap} {xs:List (K × Addr × Value)} (m:h.DictOfH knd d xs) (f:From ps xs) (k:∀ o,h.get? d=some o→h'.get? d=some o) (hP:∀ p ∈ ps,PairAt knd h' p):h'.DictOfH knd d xs:=by
 obtain ⟨o,es,ep,h1,h2,h3,h4,h5,h6⟩:=m
 refine ⟨o,es,ep,k o h1,h2,h3,h4,fun x hx=>?_,h6⟩
 obtain ⟨p,hp,e1,e2⟩:=f x hx
 rw [e1,e2]
 exact (hP p hp).2
theorem loop (hh:A.handled=none) (hu:knd.room A.in1) (nI:l≠I) (nd:d≠I) (nl:l≠d) (hP:∀ h h',(∀ p ∈ ps,PairAt knd h p)→(∀ b o,b≠I→b≠d→h.get? b=some o→h'.get? b=some o)→∀ p ∈ ps,PairAt knd h' p) :
  ∀ (r j:Nat) (s:Shared) (xs:List (K × Addr × Value)),ps.length=j+r→xs.length+r≤sizeLine→From ps xs→(∀ p ∈ ps,PairAt knd s.heap p)→s.heap.IsListIter I l j→s.heap.IsList l (ps.map fun x=>Value.ref x.1).toArray→s.heap.DictOfH knd d xs →
  (∀ h' tk,(∀ b o,b≠I→b≠d→s.heap.get? b=some o→h'.get? b=some o)→h'.DictOfH knd d ((ps.drop j).foldl put xs)→R (.ok (.ret .none)) { s with heap:=h',toks:=tk }) →
  codeAny (model prog w) A (.builtin "dict.update.loop" ⟨[.ref d,.ref I,rawInt j,.none],[]⟩) R s:=by
 have W:=Walks.list (prog:=prog) (w:=w) (A:=A.in1) hh I l nI (ps.map fun x=>Value.ref x.1).toArray
 intro r
 induction r with
 | zero =>
  intro j s xs e1 ez ef eP e2 e3 e4 k
  have ej:j=(ps.map fun x=>Value.ref x.1).toArray.size:=by simp; lia
  rw [List.drop_of_length_le (by lia)] at k
  refine codeAny_builtin entry_loop ?_
  rw [Around.under_plainId plain_loop _]
  show wpAny _ _ (pyNext (.ref I) >>= _) _ _ s
  refine wpAny_bind (W.done s _ _ (by rw [← ej]; exact ⟨e2,e3⟩) fun h' tk g=>?_)
  have gP:=hP _ h' eP fun b o b1 b2 e=>g b o (by simpa using b1) e
  exact wpAny_bind (wpAny_pure (wpAny_pure (k _ tk (fun b o b1 b2 e=>g b o (by simpa using b1) e) (dict_kept e4 ef (fun o e=>g d o (by simpa using nd) e) gP))))
 | succ r ih =>
  intro j s xs e1 ez ef eP e2 e3 e4 k
  have hj:j < ps.length:=by lia
  have hd:ps.drop j=ps[j]::ps.drop (j+1):=List.drop_eq_getElem_cons hj
  rw [hd,List.foldl_cons] at k
  have hm:ps[j] ∈ ps:=List.getElem_mem hj
  refine codeAny_builtin entry_loop ?_
  rw [Around.under_plainId plain_loop _]
  show wpAny _ _ (pyNext (.ref I) >>= _) _ _ s
  refine wpAny_bind (W.item j s _ _ (by simpa using hj) ⟨e2,e3⟩ fun v h' tk hv g2 g=>?_)
  have ev:v=.ref ps[j].1:=by
   rw [show (ps.map fun x=>Value.ref x.1).toArray[j]?=some (.ref ps[j].1) by simp [hj]] at hv
   exact (Option.some.inj hv).symm
  subst ev
  have gP:=hP _ h' eP fun b o b1 b2 e=>g b o (by simpa using b1) e
  have g4:=dict_kept e4 ef (fun o e=>g d o (by simpa using nd) e) gP
  obtain ⟨⟨o,t1,t2,n,t3⟩,hk⟩:=gP ps[j] hm
  show wpAny _ _ (holding [.ref ps[j].1] (tryCatch (Builtin.Dict.pairItems (.ref ps[j].1)) _ >>= _) >>= _) _ _ _
  refine wpAny_bind (wpAny_holding (wpAny_bind (wpAny_tryCatch ?_)))
  unfold Builtin.Dict.pairItems
  refine wpAny_bind (wpAny_typeOf ⟨o,t1,t2⟩ ?_)
  rw [if_pos (by decide)]
  refine wpAny_bind (wpAny_seqItems t1 t3 (wpAny_pure ?_))
  show wpAny _ _ (holding [.ref ps[j].2.2.1,ps[j].2.2.2] (dictSet d (.ref ps[j].2.2.1) ps[j].2.2.2)) _ _ _
  refine wpAny_holding (wpAny_dictSet_heap hu hk g4 (fun h2 m2 sb=>?_) (hsz:=by lia))
  have kp:∀ b ob,b≠I→b≠d→s.heap.get? b=some ob→h2.get? b=some ob:=fun b ob b1 b2 e=>(sb.2 b b2).trans (g b ob (by simpa using b1) e)
  have sI:∀ ob,h'.get? I=some ob→h2.get? I=some ob:=fun ob e=>(sb.2 I (Ne.symm nd)).trans e
  have sl:∀ ob,h'.get? l=some ob→h2.get? l=some ob:=fun ob e=>(sb.2 l nl).trans e
  refine wpAny_pure ⟨plainId_quiet plain_loop _,?_⟩
  have:=ih (j+1) { s with heap:=h2,toks:=tk+knd.draws ps[j].2.1 } (put xs ps[j]) (by lia) (by have:=put_len (xs:=xs) (p:=ps[j]); lia) (ef.put hm) (hP _ _ eP kp) (g2.1.at sI) (g2.2.at sl) m2 fun h3 tk3 q3 m3=>k h3 tk3 (fun b ob b1 b2 e=>q3 b ob b1 b2 (kp b ob b1 b2 e)) m3
  rw [show (((j+1:Nat):Int))=(j:Int)+1 from rfl] at this
  exact this
end
section
variable {prog:Program} {w:World} {A:Around} {E:Value→Shared→Prop} {s:Shared} {l:Addr} {K:Type} [DecidableEq K] {knd:HeapKind prog w K} {ps:List (Addr × K × Addr × Value)}
theorem call_pairs {Q:Value→Shared→Prop} {o:Obj} {n:Nat} (hh:A.handled=none) (hu:knd.room A.in1.in1) (ho:s.heap.get? l=some o) (hc:o.cls=.type "list") (hdt:o.data=.seq (ps.map fun x=>Value.ref x.1).toArray n) (hdn:o.dict=none) (hz:ps.length≤sizeLine)
  (hP:∀ p ∈ ps,PairAt knd s.heap p) (hi:∀ (h h':Heap) (k:K) (a:Addr),knd.is h k a→(∀ o,h.get? a=some o→h'.get? a=some o)→knd.is h' k a) (hb:∀ p ∈ ps,∃ o,s.heap.get? p.2.2.1=some o)
  (h:∀ h' tk,(∀ b o,s.heap.get? b=some o→h'.get? b=some o)→h'.DictOfH knd s.heap.objs.size (ps.foldl put [])→Q (.ref s.heap.objs.size) { s with heap:=h',toks:=tk }) :
  wpAny (model prog w) A (call (.type "dict") [.ref l]) Q E s:=by
 have lt:l < s.heap.objs.size:=Heap.lt_size ho
 refine callType_codes (Q₁:=fun obj s₁=>obj=.ref s.heap.objs.size∧s₁={ s with heap:=s.heap.push { cls:=.type "dict",data:=.dict #[] } }) F.kt_called_dict (F.kt_typeCall_dict_1 _) F.entry_dict_init (kt_code_dict_new _ ⟨rfl,rfl⟩) ?_
 rintro obj s₁ ⟨rfl,rfl⟩
 have hnew:(s.heap.push { cls:=.type "dict",data:=.dict #[] }).DictOfH knd s.heap.objs.size []:=Heap.DictOfH.new s.heap
 have up:∀ b o,s.heap.get? b=some o→(s.heap.push { cls:=.type "dict",data:=.dict #[] }).get? b=some o:=fun b o e=>Heap.get?_push_of_some _ e
 refine ⟨hnew.typeIs,F.args_dict_init_2 _ _,?_⟩
 unfold Builtin.«dict.__init__»
 refine wpAny_bind ?_
 unfold Builtin.Dict.selfAndRest
 refine wpAny_bind (wpAny_notOrdered_dict hnew.typeIs ?_)
 show wpAny _ _ (pure (s.heap.objs.size,[Value.ref l])) _ _ _
 refine wpAny_pure ?_
 show wpAny _ _ (Builtin.Dict.updateFrom "dict.__init__" s.heap.objs.size (.ref l) [] .none) _ _ _
 unfold Builtin.Dict.updateFrom
 refine wpAny_bind (wpAny_typeOf ⟨o,up _ _ ho,hc⟩ ?_)
 rw [if_pos (by decide)]
 refine wpAny_bind (getAttr?_miss (up _ _ ho) hc hdt hdn miss_keys (by decide) (by exact hh) fun h1 tk1 k1=>?_)
 rw [if_pos (show (none:Option Value).isNone=true from rfl)]
 refine wpAny_bind (wpAny_rule ?_)
 have lo:h1.get? l=some o:=k1 _ _ (up _ _ ho)
 have hl:h1.IsList l (ps.map fun x=>Value.ref x.1).toArray:=⟨o,lo,hc,n,hdt⟩
 refine wpAny_bind (wpAny_pyIter_list hl ?_)
 have dsz:s.heap.objs.size < h1.objs.size:=by
  obtain ⟨od,_,_,g,_⟩:=hnew
  exact Heap.lt_size (k1 _ _ g)
 have u1:∀ b ob,s.heap.get? b=some ob→h1.get? b=some ob:=fun b ob e=>k1 _ _ (up _ _ e)
 have u2:∀ b ob,s.heap.get? b=some ob→(h1.push { cls:=.type "list_iterator",data:=.fields #[.ref l,.int 0 0] }).get? b=some ob:=fun b ob e=>Heap.get?_push_of_some _ (u1 b ob e)
 have P1:∀ p ∈ ps,PairAt knd (h1.push { cls:=.type "list_iterator",data:=.fields #[.ref l,.int 0 0] }) p:=fun p hp=>by
  obtain ⟨⟨o,t1,t2⟩,hkk⟩:=hP p hp
  exact ⟨⟨o,u2 _ _ t1,t2⟩,hi _ _ _ _ hkk fun o e=>u2 _ _ e⟩
 have pl:∀ p ∈ ps,p.1 < s.heap.objs.size∧p.2.2.1 < s.heap.objs.size:=fun p hp=>by
  obtain ⟨⟨o,t1,t2⟩,hkk⟩:=hP p hp
  obtain ⟨o',t1'⟩:=hb p hp
  exact ⟨Heap.lt_size t1,Heap.lt_size t1'⟩
 refine wpAny_pure ⟨plainId_quiet plain_loop _,?_⟩
 refine loop (A:=A.in1) (ps:=ps) (knd:=knd) (I:=h1.objs.size) (d:=s.heap.objs.size) (l:=l) hh hu (Nat.ne_of_lt (Nat.lt_trans lt dsz)) (Nat.ne_of_lt dsz) (Nat.ne_of_lt lt) (fun h h' hh' kp=>?_) ps.length 0 _ [] (by lia) (by simpa using hz) (fun x hx=>by cases hx) P1
  ⟨_,Heap.get?_push_size _ rfl,rfl,rfl⟩ (hl.push _) ?_ fun h' tk q m=>?_
 ·intro p hp
  obtain ⟨⟨o,t1,t2⟩,hkk⟩:=hh' p hp
  obtain ⟨l1,l2⟩:=pl p hp
  exact ⟨⟨o,kp _ _ (Nat.ne_of_lt (Nat.lt_trans l1 dsz)) (Nat.ne_of_lt l1) t1,t2⟩,hi _ _ _ _ hkk fun o e=>kp _ _ (Nat.ne_of_lt (Nat.lt_trans l2 dsz)) (Nat.ne_of_lt l2) e⟩
 ·obtain ⟨od,es,ep,g1,g2,g3,g4,g5,g6⟩:=hnew
  exact ⟨od,es,ep,Heap.get?_push_of_some _ (k1 _ _ g1),g2,g3,g4,(fun x hx=>by cases hx),g6⟩
 ·exact ⟨rfl,h h' tk (fun b ob e=>q b ob (Nat.ne_of_lt (Nat.lt_trans (Heap.lt_size e) dsz)) (Nat.ne_of_lt (Heap.lt_size e)) (u2 b ob e)) m⟩
end
end Dp
namespace L2.Q
open PySem PySem.Spec PySem.SeqAt PyProof.Rows
def prD1 (t:List Int):D:=.tup [kD t,.bl true]
def prOf (e:D):Option (List Int):=e.isT.bind fun l=>match l with
 | [k,.bl true]=>k.isT.bind dInts
 | _=>none
def prs:List D→Option (List (List Int))
 | []=>some []
 | e::es=>(prOf e).bind fun t=>(prs es).map (t::·)
theorem prOf_eq {e:D} {t:List Int} (h:prOf e=some t):e=prD1 t:=by
 obtain ⟨l,h1,h2⟩:=Option.bind_eq_some_iff.mp h
 rw [isT_eq' h1]
 split at h2
 ·obtain ⟨es,h3,h4⟩:=Option.bind_eq_some_iff.mp h2
  rw [isT_eq' h3,dInts_eq h4]
  rfl
 ·cases h2
theorem prs_eq:∀ {es:List D} {ts:List (List Int)},prs es=some ts→es=ts.map prD1
 | [],_,h=>by cases h; rfl
 | e::es,ts,h=>by
  obtain ⟨t,h1,h2⟩:=Option.bind_eq_some_iff.mp h
  obtain ⟨r,h3,rfl⟩:=Option.map_eq_some_iff.mp h2
  rw [prOf_eq h1,prs_eq h3]
  rfl
theorem prs_map:∀ ts:List (List Int),prs (ts.map prD1)=some ts
 | []=>rfl
 | t::ts=>by
  have e:prOf (prD1 t)=some t:=by
   show (some (t.map D.int)).bind dInts=some t
   rw [Option.bind_some,dInts_map]
  show (prOf (prD1 t)).bind _=_
  rw [e,Option.bind_some,prs_map ts]
  rfl
def dDictP:List D→Option D
 | [d]=>d.lst?.bind fun es=>(prs es).map fun ts=>dP (ts.foldl addT []) true
 | _=>none
theorem dDictP_of (ts:List (List Int)):dDictP [.lst (ts.map prD1)]=some (dP (ts.foldl addT []) true):=by
 show (some (ts.map prD1)).bind (fun es=>(prs es).map fun ts=>dP (ts.foldl addT []) true)=_
 rw [Option.bind_some,prs_map]
 rfl
theorem dDictP_eq {ds:List D} {d:D} (h:dDictP ds=some d):∃ ts:List (List Int),ds=[.lst (ts.map prD1)]∧d=dP (ts.foldl addT []) true:=by
 cases ds with
 | nil=>cases h
 | cons x r =>
  cases r with
  | cons _ _=>cases h
  | nil =>
   obtain ⟨es,h1,h2⟩:=Option.bind_eq_some_iff.mp h
   obtain ⟨ts,h3,rfl⟩:=Option.map_eq_some_iff.mp h2
   exact ⟨ts,by rw [D.lst?_eq h1,prs_eq h3],rfl⟩
section
variable {P:Program} {w:World} {W:Addr→Prop} {H:Hp}
theorem prs_reps:∀ {ts:List (List Int)} {vs:List V},RepDs P w W H (ts.map prD1) vs→∃ qs:List (Addr × List Int × Addr),vs=qs.map (fun q=>V.ref q.1)∧ts=qs.map (·.2.1)∧∀ q ∈ qs,H q.1=some (.tup [.ref q.2.2,.bl true])∧H q.2.2=some (.tup (q.2.1.map V.int))
 | [],_,h=>⟨[],h,rfl,fun _ z=>(nomatch z)⟩
 | t::ts,_,h=>by
  obtain ⟨v,r,rfl,h1,h2⟩:=h
  obtain ⟨qs,e1,e2,e3⟩:=prs_reps h2
  obtain ⟨a,us,rfl,ha,x,r1,rfl,hx,y,r2,rfl,hy,hr⟩:=h1
  obtain ⟨b,ws,rfl,hb,hw⟩:=hx
  rw [L2.reps_ints hw] at hb
  cases (show y=V.bl true from hy)
  cases (show r2=[] from hr)
  refine ⟨(a,t,b)::qs,by rw [e1]; rfl,by rw [e2]; rfl,fun q hq=>?_⟩
  rcases List.mem_cons.mp hq with rfl | hq
  ·exact ⟨ha,hb⟩
  ·exact e3 q hq
end
abbrev ofQ (q:Addr × List Int × Addr):Addr × List Key × Addr × Value:=(q.1,iK q.2.1,q.2.2,Value.bool true)
theorem kt_fold {H:Hp}:∀ (qs:List (Addr × List Int × Addr)) {acc:List (List Int)} {xs:List (List Key × Addr × Value)},(∀ q ∈ qs,H q.2.2=some (.tup (q.2.1.map V.int)))→KT H ((acc.map iK).map fun k=>(k,V.bl true)) xs →
  KT H ((((qs.map (·.2.1)).foldl addT acc).map iK).map fun k=>(k,V.bl true)) ((qs.map ofQ).foldl Dp.put xs)
 | [],_,_,_,r=>r
 | q::qs,acc,xs,h,r=>by
  rw [List.map_cons,List.map_cons,List.foldl_cons,List.foldl_cons]
  refine kt_fold qs (fun q' hq=>h q' (List.mem_cons_of_mem _ hq)) ?_
  have:=r.put (iK q.2.1) (b:=q.2.2) (y:=V.bl true) (u:=Value.bool true) (by rw [iK_kV]; exact h q (by simp)) rfl
  rw [put_rep] at this
  exact this
theorem fold_addT_le:∀ (ts:List (List Int)) (acc:List (List Int)),(ts.foldl addT acc).length≤acc.length+ts.length
 | [],acc=>by simp
 | t::ts,acc=>by
  rw [List.foldl_cons,List.length_cons]
  have h1:=fold_addT_le ts (addT acc t)
  have h2:(addT acc t).length≤acc.length+1:=by unfold addT; split <;> simp
  lia
variable {X:Cx}
theorem call_dDict (hc:X.calm=true) (hu:X.A.units+2 < cLine):CallD X (.type "dict") dDictP:=by
 intro pins s σ H xs us Q I r h
 obtain ⟨W,ds,d,hd,r1,e,q⟩:=h
 obtain ⟨ts,rfl,rfl⟩:=dDictP_eq e
 obtain ⟨x,rfl,p,vs,rfl,h1,n1,q1⟩:=args1 r1
 obtain ⟨u,rfl,ru⟩:=vals1 r
 cases ru
 obtain ⟨qs,rfl,rfl,T⟩:=prs_reps q1
 obtain ⟨hz,its,n,r2,hl⟩:ObjOk X.prog X.w H s.heap p (.lst _):=I.hok p _ h1
 have ei:its=(qs.map ofQ).map fun x=>Value.ref x.1:=by
  have key:∀ (qs:List (Addr × List Int × Addr)) (its:List Value),Vals (qs.map fun q=>V.ref q.1) its→its=(qs.map ofQ).map fun x=>Value.ref x.1:=fun qs=>by
   induction qs with
   | nil=>intro its r; cases r; rfl
   | cons q qs ih =>
    intro its r
    cases r with
    | cons a b=>cases a; rw [ih _ b]; rfl
  exact key qs its r2
 subst ei
 have hlen:qs.length≤sizeLine:=by rw [List.length_map] at hz; exact hz
 have hP:∀ x ∈ qs.map ofQ,Dp.PairAt (tupleKind (mixKind X.prog X.w)) s.heap x:=fun x hx=>by
  obtain ⟨q,hq,rfl⟩:=List.mem_map.mp hx
  obtain ⟨t1,t2⟩:=T q hq
  refine ⟨?_,key_of I.hok (by rw [iK_kV]; exact t2)⟩
  obtain ⟨_,its,r,hi⟩:ObjOk X.prog X.w H s.heap q.1 (.tup _):=I.hok q.1 _ t1
  obtain ⟨u1,u2,rfl,e1,e2⟩:=vals2 r
  cases e1
  cases e2
  exact hi
 have hb:∀ x ∈ qs.map ofQ,∃ o,s.heap.get? x.2.2.1=some o:=fun x hx=>by
  obtain ⟨q,hq,rfl⟩:=List.mem_map.mp hx
  obtain ⟨_,its,r,o,hi,_⟩:ObjOk X.prog X.w H s.heap q.2.2 (.tup _):=I.hok q.2.2 _ (T q hq).2
  exact ⟨o,hi⟩
 refine Dp.call_pairs (ps:=qs.map ofQ) (knd:=tupleKind (mixKind X.prog X.w)) (I.ok.hd hc) hu hl rfl rfl rfl (by rw [List.length_map]; exact hlen) hP (fun h h' k a hk kp=>?_) hb fun h' tk kp m=>?_
 ·obtain ⟨o,items,n,g1,g2⟩:=hk
  exact ⟨o,items,n,kp o g1,g2⟩
 ·have fr:H s.heap.objs.size=none:=I.hok.fresh (Nat.le_refl _)
  have kt:=kt_fold (H:=H) qs (acc:=[]) (xs:=[]) (fun q hq=>(T q hq).2) .nil
  obtain ⟨o,es,ep,g1,g2,g3,g4,_,g6⟩:=m
  have le:=fold_addT_le (qs.map (·.2.1)) []
  rw [List.length_map,List.length_nil] at le
  have new:ObjOk X.prog X.w (upd H s.heap.objs.size (.dT ((((qs.map (·.2.1)).foldl addT []).map iK).map fun k=>(k,V.bl true)))) h' s.heap.objs.size (.dT ((((qs.map (·.2.1)).foldl addT []).map iK).map fun k=>(k,V.bl true))):=by
   refine ⟨by rw [List.length_map,List.length_map]; lia,beq_eq_false_iff_ne.mpr (Ne.symm (Nat.ne_of_lt I.big)),_,kt.keeps fun b ys eb=>?_,o,es,ep,g1,g2,g3,g4,g6⟩
   rw [upd_ne (fun z=>by rw [z,fr] at eb; cases eb)]
   exact eb
  refine ⟨.ref s.heap.objs.size,_,I.laid kp (Nat.le_refl _) new,rfl,q _ _ (Same.new fr) ?_⟩
  exact (own_dP (P:=X.prog) (w:=X.w) (H:=upd H s.heap.objs.size _) upd_same).rep fun c hc z=>by
   rw [List.mem_singleton.mp hc] at z
   exact hd _ z fr
end L2.Q
end

noncomputable section
set_option Elab.async false
set_option linter.all false
set_option maxRecDepth 100000
namespace L2.Q
open PySem PySem.Spec PySem.SeqAt PyProof.Rows
section
variable {X:Cx} {C:Cfg} {lk:List (Option Nat)} {γ γ2:GamQ} {τ τ2:PhiQB} {φ:PhiQ} {T T2:List Nat}
variable {scope:Scope} {tg it1 tg2 it2 elt:Expr} {ifs ifs2:List Expr} {ι ι2:PhiQI} {pi:Bool} {pos pos' spos:Pos} {y:Str} {i:Nat}
theorem sLcB (o:Bool) (N':List Str) (lk:List (Option Nat)) (L:linksB X.env.scope.names X.N scope N' lk=true) (hN':N'.Nodup) (hc:X.calm=true) (hi:∀ U,PQI X (C.u U) pi tg it1 ι)
  (htg:∀ U cl c s H ex,PBG (compCx X scope N' cl c s H ex) (C.u U) tg T γ) (hts:∀ U cl c s H ex,PQTs (compCx X scope N' cl c s H ex) (C.u U) true ifs τ)
  (hi2:∀ U cl c s H ex,PQN (compCx X scope N' cl c s H ex) (C.u U) tg2 it2 ι2)
  (htg2:∀ U cl c s H ex,PBG (compCx X scope N' cl c s H ex) (C.u U) tg2 T2 γ2) (hts2:∀ U cl c s H ex,PQTs (compCx X scope N' cl c s H ex) (C.u U) true ifs2 τ2)
  (hel:∀ U cl c s H ex,PQ (compCx X scope N' cl c s H ex) (C.u U) true elt φ)
  (hN:X.N.Nodup) (hT:(T++T2).all (fun i=>match lk[i]? with | some (some _)=>false | _=>true)=true:=by rfl) (hy:X.N[i]?=some y:=by rfl) (hx:Loc X.env.scope y:=by first | exact .inl rfl | exact .inr rfl) (hf:X.fn y=true∨X.env.scope.names.lookup y=some .local:=by first | exact .inl rfl | exact .inr rfl | assumption)
  (hsw:swapsWith (.ListComp elt [⟨tg,it1,ifs,0⟩,⟨tg2,it2,ifs2,0⟩] scope pos) (some (.Name y pos')) spos.line X.env=pure true:=by rfl)
  (hev:evalThenUse (.ListComp elt [⟨tg,it1,ifs,0⟩,⟨tg2,it2,ifs2,0⟩] scope pos) X.env (assign (.Name y pos') X.env)=(do let _ ← comprehension (.ListComp elt [⟨tg,it1,ifs,0⟩,⟨tg2,it2,ifs2,0⟩] scope pos) scope X.env (firstIterPos [⟨tg,it1,ifs,0⟩,⟨tg2,it2,ifs2,0⟩] pos) (newList []) false (eval it1 X.env) (some (assign (.Name y pos') X.env)); pure ()):=by first | rfl | exact arm_evalThenUse_ListComp ..)
  (hs:∀ x,foldedSetIterable it1 X.env x=pure x:=by intro _; rfl) (hs2:∀ cl c s H ex x,foldedSetIterable it2 (compCx X scope N' cl c s H ex).env x=pure x:=by intro _ _ _ _ _ _; rfl) :
  PB X C (.Assign [.Name y pos'] (.ListComp elt [⟨tg,it1,ifs,0⟩,⟨tg2,it2,ifs2,0⟩] scope pos) spos) (fun E β=>qComp2 lk ι γ τ ι2 γ2 τ2 φ β fun d _ β'=>E.nx (β'.set i (some (match o with | true=>.own d | false=>.val true d)))):=by
 have L:=Links.of L
 have hT':∀ i ∈ T++T2,∀ j,lk[i]?≠some (some j):=fun i hi j e=>by
  have:=List.all_eq_true.mp hT i hi
  rw [e] at this
  cases this
 have γm:=(htg (fun _=>False) [] 0 X.s₀ X.H₀ []).mono
 have τm:=(hts (fun _=>False) [] 0 X.s₀ X.H₀ []).mono
 have φm:=(hel (fun _=>False) [] 0 X.s₀ X.H₀ []).mono
 have γm2:=(htg2 (fun _=>False) [] 0 X.s₀ X.H₀ []).mono
 have τm2:=(hts2 (fun _=>False) [] 0 X.s₀ X.H₀ []).mono
 have ιm:=(hi2 (fun _=>False) [] 0 X.s₀ X.H₀ []).mono
 refine ⟨fun E E' β l h=>(hi fun _=>False).mono β _ _ (fun ds kd β1 q=>⟨q.1,q.2.mono fun _ _ z=>⟨z.1,l.nx _ z.2⟩⟩) h,fun pins s σ H D I0 hh=>?_⟩
 obtain ⟨Z,E,β,⟨own,sq,n⟩,h,ok⟩:=hh
 refine ps_comp2 (g:=⟨tg,it1,ifs,0⟩) (gs:=[⟨tg2,it2,ifs2,0⟩]) (tg:=fun a=>tgN X C a T γ) (tt:=fun a=>tQB X (C.u fun c=>c=a) true τ) (ta:=fun a N σ H=>∃ β own,SQ X (C.u fun c=>c=a) σ H β own∧ι2 β fun ds k β'=>∀ J H',Same H H'→SQ X (C.u fun c=>c=a) σ H' β' own→ItD X (av' (C.u fun c=>c=a) (Wn own) k) J ds H' →
   tLoop J (tgN X C a T2 γ2) (tQB X (C.u fun c=>c=a) true τ2) (taN X C a φ) N σ H')
  L hc new_list hsw hev rfl hN hy hx hf (fun _ _=>cf_l20) (hi fun a=>H a=none).pi (fun a cl c s H ex=>⟨(htg _ cl c s H ex).pg,(hts _ cl c s H ex).pt,pa_nest (X:=compCx X scope N' cl c s H ex) (g':=⟨tg2,it2,ifs2,0⟩) rfl hc cf_l21 (hi2 _ cl c s H ex).pi (htg2 _ cl c s H ex).pg (hts2 _ cl c s H ex).pt (pa_emitL (X:=compCx X scope N' cl c s H ex) rfl (hel _ cl c s H ex).pe) (hs2 cl c s H ex)⟩) hs pins s σ H D I0 ?_
 refine ⟨β,own,sq.withU (C:=C.z) (U:=fun a=>H a=none) fun a z=>z,(hi fun _=>False).mono β _ _ (fun ds k β1 h J H1 own1 o1 it a ha=>?_) h⟩
 obtain ⟨hk,q⟩:=h
 refine sc_first (C:=C.u fun a=>H a=none) (T:=T++T2) (acL_ok (P:=X.prog) (w:=X.w) (H1:=H1)) γm τm (fun j hj=>List.mem_append_left _ hj) (links_inj L hN') hT' o1.sq ha hk it ⟨[],[],upd_same,(show Owns _ _ _ [] [] [] from ⟨rfl,rfl⟩),List.nodup_nil,fun c hc=>(nomatch hc)⟩ (o1.sq.enter ha (links_inj L hN'))
  (fun Hb Wb βx ox σx Hx Nx h0 sx qx=>sc_nest acL_ok (fun j hj=>List.mem_append_right _ hj) γm2 τm2 (fun Hb Wb βy oy σy Hy Ny sy qy=>sc_emit h0 ha φm sy qy) ιm sx qx) q fun ol H' q o2 r=>?_
 have r':=(acL_kv o1.sq ha r).later o1.sn
 have sn2:=o1.sn.trans o2.sn
 have m:=n.trans sn2
 cases o with
 | false=>exact ok.nx _ _ _ ⟨_,(SQ'.noU o2.sq).setVal (RepD.anti (fun a z=>z.elim id fun z=>z.elim) (KV.rep r')),sn_frz m⟩ q
 | true =>
  obtain ⟨A,h1,h2,h3⟩:=r'
  refine ok.nx _ _ _ ⟨_,o2.sq.setOwn h1 h2 fun c hc=>⟨(h3 c hc).2.2,(h3 c hc).2.1,(h3 c hc).1⟩,?_⟩ q
  exact ⟨fun b hq=>by
   obtain ⟨j,hj⟩:=hq
   by_cases hij:i=j
   ·rw [← hij,os_eq] at hj
    exact .inr (n.free (h3 b hj).1)
   ·rw [os_ne hij] at hj
    exact m.w b ⟨j,hj⟩,m.k,m.d⟩
end
end L2.Q
end

noncomputable section
set_option Elab.async false
set_option linter.all false
set_option maxRecDepth 100000
namespace L2.Q
open PySem PySem.Spec PySem.SeqAt PyProof.Rows
section
variable {X:Cx} {C:Cfg} {a b:Expr} {p p' pos pos':Pos}
theorem its_rng {i:Int} {n:Nat} {acc:Array Value} (h:ItemsOf (fun k v=>∃ t,v=Value.int (i+k * 1) t) acc n):Vals ((List.range n).map fun k:Nat=>V.int (i+(k:Int))) acc.toList:=by
 have key:∀ (l:List Value) (i:Int),(∀ j v,l[j]?=some v→∃ t,v=Value.int (i+((j:Nat):Int)) t)→Vals ((List.range l.length).map fun k:Nat=>V.int (i+(k:Int))) l:=fun l=>by
  induction l with
  | nil=>intro i _; exact .nil
  | cons x r ih =>
   intro i h
   rw [List.length_cons,List.range_succ_eq_map,List.map_cons,List.map_map]
   obtain ⟨t,rfl⟩:=h 0 x rfl
   refine .cons ⟨t,rfl⟩ ?_
   have:=ih (i+1) fun j v e=>by
    obtain ⟨t,e'⟩:=h (j+1) v (by simpa using e)
    exact ⟨t,by rw [e']; congr 1; omega⟩
   refine (show (fun k:Nat=>V.int (i+(k:Int))) ∘ Nat.succ=fun k:Nat=>V.int (i+1+(k:Int)) from ?_) ▸ this
   funext k
   show V.int (i+((k+1:Nat):Int))=_
   congr 1
   omega
 have:=key acc.toList i fun j v e=>by
  obtain ⟨t,e'⟩:=h.2 j v (by simpa using e)
  exact ⟨t,by rw [e',Int.mul_one]⟩
 rwa [Array.length_toList,h.1] at this
theorem pe_listRange {ta:TA} (hc:X.calm=true) (hgl:Gl X "list") (hml:X.mg "list" = none) (hg:Gl X "range") (hm:X.mg "range" = none) (ha:PA X [a,b] ta) (hs:starEach [a,b] X.env=[(false,eval a X.env),(false,eval b X.env)]:=by rfl) (hs2:starEach [b] X.env=[(false,eval b X.env)]:=by rfl)
  (hl:starEach [.Call (.Name "range" p) [a,b] [] pos] X.env=[(false,eval (.Call (.Name "range" p) [a,b] [] pos) X.env)]:=by rfl) :
  PE X (.Call (.Name "list" p') [.Call (.Name "range" p) [a,b] [] pos] [] pos') (fun σ H Q=>ta σ H fun vs H1=>∃ i j:Int,vs=[.int i,.int j]∧(-(2 ^ 62)≤i∧i < 2 ^ 62∧-(2 ^ 62)≤j∧j < 2 ^ 62)∧(j - i).toNat≤2 ^ 24∧∀ p,H1 p=none→Q (.ref p) (upd H1 p (.lst ((List.range (j - i).toNat).map fun k:Nat=>V.int (i+(k:Int)))))):=by
 intro pins s σ H Q I h
 refine wpAny_Call_Name_kw (ld_blt I hgl hml bt_list ?_ (by decide) (by decide))
 refine PyProof.Rows.callWith_type1 ?_ hl rfl
 rw [hl]
 show wpAny _ _ (spliced ((false,eval (.Call (.Name "range" p) [a,b] [] pos) X.env)::[])) _ _ s
 refine Calls.spliced_cons ?_
 refine wpAny_Call_Name_kw (ld_blt I hg hm boot_range ?_ (by decide) (by decide))
 refine PyProof.Rows.callWith_type1 (thn (ha pos pins s σ H _ I h) fun us s1 h1=>?_) (by rw [hs,hs2]) (by rw [hs2]; rfl)
 obtain ⟨vs,H1,I1,r1,i,j,rfl,⟨q1,q2,q3,q4⟩,hz,q⟩:=h1
 obtain ⟨u1,u2,rfl,⟨t1,rfl⟩,⟨t2,rfl⟩⟩:=vals2 r1
 refine call_range_2 (Calls.spliced_nil ?_)
 have up:∀ b o,s1.heap.get? b=some o→(s1.heap.push { cls:=.type "range",data:=.fields #[.int i t1,.int j t2,.int 1 s1.toks] }).get? b=some o:=fun b o e=>Heap.get?_push_of_some _ e
 have e2:Builtin.Range.rangeSize i j 1=(((j - i).toNat:Nat):Int):=by rw [rangeSize_one]; split <;> omega
 refine call_list_range (n:=(j - i).toNat) (I.ok.hd hc) (IsRange.new ..) (small_one q1 q2 q3 q4) e2 hz fun h' tk acc c kp hS ha=>?_
 have I2:Inv X pins σ H1 { s1 with heap:=s1.heap.push { cls:=.type "range",data:=.fields #[.int i t1,.int j t2,.int 1 s1.toks] },toks:=s1.toks+1 }:=I1.kept up
 have fr:H1 (s1.heap.push { cls:=.type "range",data:=.fields #[.int i t1,.int j t2,.int 1 s1.toks] }).objs.size=none:=I2.hok.fresh (Nat.le_refl _)
 refine ⟨.ref (s1.heap.push { cls:=.type "range",data:=.fields #[.int i t1,.int j t2,.int 1 s1.toks] }).objs.size,_,I2.laid (o:=.lst _) kp (Nat.le_refl _) ⟨?_,acc.toList,c,its_rng ha,?_⟩,rfl,q _ fr⟩
 ·rw [List.length_map,List.length_range]; exact hz
 ·simpa using hS
def qListRng (φs:PhiQS):PhiQ:=fun β R=>φs β fun ds _ β1=>∃ i j:Int,ds=[.int i,.int j]∧(-(2 ^ 62)≤i∧i < 2 ^ 62∧-(2 ^ 62)≤j∧j < 2 ^ 62)∧(j - i).toNat≤2 ^ 24∧R (.lst (rngD i (j - i).toNat)) .own β1
theorem rng_owns {P:Program} {w:World} {H:Hp} {i:Int}:∀ (l:List Nat),Owns P w H (l.map fun k:Nat=>D.int (i+(k:Int))) (l.map fun k:Nat=>V.int (i+(k:Int))) []
 | []=>⟨rfl,rfl⟩
 | k::l=>⟨_,_,[],[],rfl,rfl,⟨rfl,rfl⟩,rng_owns l⟩
theorem pq_listRange {φs:PhiQS} {q:Bool} (hc:X.calm=true) (hml:X.mg "list" = none) (hm:X.mg "range" = none) (ha:PQA X C q [a,b] φs) (hgl:Gl X "list" := by rfl) (hg:Gl X "range" := by rfl) (hs:starEach [a,b] X.env=[(false,eval a X.env),(false,eval b X.env)]:=by rfl) (hs2:starEach [b] X.env=[(false,eval b X.env)]:=by rfl)
  (hl:starEach [.Call (.Name "range" p) [a,b] [] pos] X.env=[(false,eval (.Call (.Name "range" p) [a,b] [] pos) X.env)]:=by rfl):PQ X C q (.Call (.Name "list" p') [.Call (.Name "range" p) [a,b] [] pos] [] pos') (qListRng φs) :=
 ⟨fun β R R' k h=>ha.mono β _ _ (fun ds ks β1 h=>by obtain ⟨i,j,e,h1,h2,q⟩:=h; exact ⟨i,j,e,h1,h2,k _ _ _ q⟩) h,(pe_listRange hc hgl hml hg hm ha.pa hs hs2 hl).pre fun σ H Q h=>by
  obtain ⟨β,own,s,h⟩:=h
  refine tQS.of ha s h fun ds ks β1 vs H1 own1 h o1 r1=>?_
  obtain ⟨i,j,rfl,h1,h2,q⟩:=h
  obtain ⟨x,r,rfl,rx,y,r',rfl,ry,rr⟩:=r1.reps
  cases (show x=V.int i from rx)
  cases (show y=V.int j from ry)
  cases (show r'=[] from rr)
  refine ⟨i,j,rfl,h1,h2,fun p hp=>q _ _ own1 (o1.same (Same.new hp)) ⟨[p],⟨p,_,[],rfl,upd_same,rfl,rng_owns _⟩,by simp,fun c hc=>?_⟩⟩
  rw [List.mem_singleton.mp hc]
  exact ⟨Decidable.by_contra fun z=>o1.sn.d p z hp,fun z=>o1.sq.dmW p z hp,Decidable.by_contra fun z=>o1.sq.dmn p z hp⟩⟩
end
end L2.Q
end




noncomputable section
set_option Elab.async false
set_option linter.all false
set_option maxRecDepth 100000
namespace L2.Q
open PySem PySem.Spec PySem.SeqAt PyProof.Rows
section
variable {X:Cx} {C:Cfg} {p:Bool} {e:Expr} {φ:PhiQ} {i:Nat} {x:Str} {px tp pos:Pos}
theorem pb_retP {j} (he:PQ X C.z p e φ) (hN:X.N[i]?=some x:=by rfl) (hv:Vis X.env.scope x:=by first | exact .inl rfl | exact .inr (.inl rfl) | exact .inr (.inr rfl)) (hd:(x == ("__debug__" : Str))=false:=by decide) (hcd:(x == ("__classdict__" : Str))=false:=by decide)
  (hs1:starEach [e,.Name x px] X.env=(false,eval e X.env)::starEach [.Name x px] X.env:=by rfl) (hs2:starEach [.Name x px] X.env=(false,eval (.Name x px) X.env)::starEach [] X.env:=by rfl) :
  PB X C (.Return (some (.Tuple [e,.Name x px] j tp)) pos) (fun E β=>φ β fun d0 _ β1=>d0.flat=true∧∃ d,β1[i]?=some (some (.own d))∧E.rt (.tup [d0,d]) β1) :=
 ⟨fun E E' β l q=>he.mono _ _ _ (fun d0 k β1 h=>by obtain ⟨f,d,h1,q⟩:=h; exact ⟨f,d,h1,l.rt _ _ q⟩) q,(ps_ret (pe_tup (pa_cons he.pe (pa_cons (pe_var (pos:=px) hN hv hd hcd) pa_nil hs2) hs1))).pre fun D σ H hq=>by
  obtain ⟨Z,E,β,⟨own,s,n⟩,q,ok⟩:=hq
  refine tQ.of he s q fun d0 k β1 v0 H1 own1 h o1 r1=>?_
  obtain ⟨f,d,hb,q⟩:=h
  obtain ⟨v,e1,r,h0⟩:=o1.sq.ow i d hb
  refine ⟨v,e1,(by show 2≤sizeLine; decide),fun p hp=>ok.rt _ _ _ _ _ ((o1.same (Same.new hp)).sb n) ?_ q⟩
  have sm:Same H1 (upd H1 p (.tup [v0,v])):=Same.new hp
  have r':Own X.prog X.w (upd H1 p (.tup [v0,v])) d v (own1 i):=r.keep (fun b xs e=>sm _ _ e) (fun c _ o e=>sm c o e)
  have oo:Own X.prog X.w (upd H1 p (.tup [v0,v])) (.tup [d0,d]) (.ref p) (own1 i):=⟨p,_,rfl,upd_same,v0,[v],[],own1 i,rfl,rfl,own_flat f (RepD.same sm r1.rep),v,[],own1 i,[],rfl,by simp,r',rfl,rfl⟩
  cases hr:C.ro with
  | true=>exact ⟨_,oo,o1.sq.nod i,h0⟩
  | false=>exact oo.rep fun c hc z=>z (h0 c hc)⟩
end
end L2.Q
end



noncomputable section
set_option Elab.async false
set_option linter.all false
set_option maxRecDepth 100000
namespace L2
open PySem PySem.Spec PySem.SeqAt PyProof.Rows
theorem flat_kD (t:List Int):(kD t).flat=true:=by
 have:=flats_kD [t]
 show D.flats (t.map D.int)=true
 have h:(D.flats (t.map D.int) && true)=true:=this
 rwa [Bool.and_true] at h
end L2
end

noncomputable section
set_option Elab.async false
set_option linter.all false
set_option maxRecDepth 100000
namespace L2.Q
open PySem PySem.Spec PySem.SeqAt PyProof.Rows
structure Bs3 (mg:Str→Option Value):Prop extends Bs2 mg where
 sum:mg "sum" = none
def tI (p:Nat × Nat):List Int:=[(p.1:Int),(p.2:Int)]
theorem tI_inj {p q:Nat × Nat} (h:tI p=tI q):p=q:=by
 unfold tI at h
 injection h with h1 h2
 injection h2 with h2 _
 exact Prod.ext (Int.ofNat.inj h1) (Int.ofNat.inj h2)
def tsD (ps:List (Nat × Nat)):D:=.lst (ps.map fun p=>kD (tI p))
def rwD (n:Nat) (ps:List (Nat × Nat)):D:=.tup [.int n,tsD ps]
structure OkR (n:Nat) (ps:List (Nat × Nat)):Prop where
 lt:∀ p ∈ ps,p.1 < p.2∧p.2 < n
 nd:ps.Nodup
 le:n≤80
 sm:ps.length≤400
def intsD (l:List Nat):List D:=l.map fun (k:Nat)=>D.int (k:Int)
def prt (ps:List (Nat × Nat)) (i:Nat):List Nat:=(ps.filter fun p=>decide (p.1=i)).map (·.2)
theorem mem_prt {ps:List (Nat × Nat)} {i k:Nat}:k ∈ prt ps i ↔ (i,k) ∈ ps:=by
 unfold prt
 rw [List.mem_map]
 constructor
 ·rintro ⟨p,hp,rfl⟩
  obtain ⟨h1,h2⟩:=List.mem_filter.mp hp
  rw [← of_decide_eq_true h2]
  exact h1
 ·intro h
  exact ⟨(i,k),List.mem_filter.mpr ⟨h,by simp⟩,rfl⟩
def ptD (n:Nat) (ps:List (Nat × Nat)):D:=.lst ((List.range n).map fun i=>.lst (intsD (prt ps i)))
def wD (ps:List (Nat × Nat)) (w:Nat × Nat→Int):D:=dA (ps.map fun p=>(tI p,.int (w p)))
theorem val_wD {ps:List (Nat × Nat)} {w:Nat × Nat→Int} {p:Nat × Nat} (h:p ∈ ps):valA (ps.map fun p=>(tI p,.int (w p))) (tI p)=some (.int (w p)):=by
 unfold valA
 induction ps with
 | nil=>cases h
 | cons q ps ih =>
  rw [List.map_cons,List.find?_cons]
  by_cases e:q=p
  ·rw [e,decide_eq_true rfl]; rfl
  ·rw [decide_eq_false fun z=>e (tI_inj z)]
   exact ih ((List.mem_cons.mp h).resolve_left fun z=>e z.symm)
theorem none_wD {ps:List (Nat × Nat)} {w:Nat × Nat→Int} {p:Nat × Nat} (h:p ∉ ps):valA (ps.map fun p=>(tI p,.int (w p))) (tI p)=none:=by
 unfold valA
 rw [Option.map_eq_none_iff,List.find?_eq_none]
 intro x hx
 obtain ⟨q,hq,rfl⟩:=List.mem_map.mp hx
 simp only [decide_eq_true_eq]
 intro e
 exact h (tI_inj e ▸ hq)
theorem get_wD {ps:List (Nat × Nat)} {w:Nat × Nat→Int} {i k:Nat} (h:(i,k) ∈ ps):dGetT (wD ps w) (.tup [.int (i:Int),.int (k:Int)])=some (.int (w (i,k))):=by
 have:=dGetT_A (kvs:=ps.map fun p=>(tI p,D.int (w p))) (t:=tI (i,k))
 rw [val_wD h] at this
 exact this
theorem rng_get {α:Type} {n i:Nat} {f:Nat→α} (h:i < n):((List.range n).map f)[i]?=some (f i):=by
 rw [List.getElem?_map,List.getElem?_range h]
 rfl
theorem ixInt {ds:List D} {x:Int} {i:Nat} {d:D} (hx:x=(i:Int)) (h:ds[i]?=some d):dIx (.lst ds) (.int x)=some d:=by rw [hx]; exact dIx_lst h
theorem ixPt {n:Nat} {ps:List (Nat × Nat)} {x:Int} {i:Nat} (hx:x=(i:Int)) (h:i < n):dIx (ptD n ps) (.int x)=some (.lst (intsD (prt ps i))):=ixInt hx (rng_get h)
def tRow (L:Nat) (T:Nat→Int):List D:=(List.range L).map fun l=>.int (T l)
def tabD (n:Nat) (L:Nat→Nat) (T:Nat→Nat→Int):D:=.lst ((List.range (n+1)).map fun i=>.lst (tRow (L i) fun l=>T l i))
theorem ixRow {L:Nat} {T:Nat→Int} {x:Int} {l:Nat} (hx:x=(l:Int)) (h:l < L):dIx (.lst (tRow L T)) (.int x)=some (.int (T l)):=ixInt hx (rng_get h)
theorem ixTab {n:Nat} {L:Nat→Nat} {T:Nat→Nat→Int} {x:Int} {i:Nat} (hx:x=(i:Int)) (h:i≤n):dIx (tabD n L T) (.int x)=some (.lst (tRow (L i) fun l=>T l i)):=ixInt hx (rng_get (by omega))
def lnum (ps:List (Nat × Nat)) (w:Nat × Nat→Int) (T:Nat→Nat→Int) (i j:Nat):Int:=(maxI ((((prt ps i).filter fun k=>decide (k < j)).map fun k=>w (i,k)+T (k - i - 1) (i+1)+T (j - k - 1) (k+1))++[T (j - i - 1) (i+1)])).getD 0
theorem maxI_some {l:List Int} {x:Int}:maxI (l++[x])=some ((maxI (l++[x])).getD 0):=by
 cases l with
 | nil=>rfl
 | cons a l=>rfl
theorem lnum_congr {ps:List (Nat × Nat)} {w:Nat × Nat→Int} {T T':Nat→Nat→Int} {i j:Nat} (hp:∀ p ∈ ps,p.1 < p.2) (hj:i < j) (h:∀ l,l < j - i→∀ a,T l a=T' l a):lnum ps w T i j=lnum ps w T' i j:=by
 unfold lnum
 have e:((prt ps i).filter fun k=>decide (k < j)).map (fun k=>w (i,k)+T (k - i - 1) (i+1)+T (j - k - 1) (k+1))=((prt ps i).filter fun k=>decide (k < j)).map fun k=>w (i,k)+T' (k - i - 1) (i+1)+T' (j - k - 1) (k+1):=by
  refine List.map_congr_left fun k hk=>?_
  obtain ⟨h1,h2⟩:=List.mem_filter.mp hk
  have h3:=hp _ (mem_prt.mp h1)
  have h4:=of_decide_eq_true h2
  dsimp only at h3
  rw [h _ (by omega),h _ (by omega)]
 rw [e,h (j - i - 1) (by omega)]
def tWf (ps:List (Nat × Nat)) (w:Nat × Nat→Int):Nat→Nat→Nat→Int
 | 0,_,_=>0
 | _+1,0,_=>0
 | n+1,l+1,i=>lnum ps w (tWf ps w n) i (i+l+1)
theorem tWf_fuel {ps:List (Nat × Nat)} {w:Nat × Nat→Int} (hp:∀ p ∈ ps,p.1 < p.2):∀ {n m l i:Nat},l≤n→l≤m→tWf ps w n l i=tWf ps w m l i
 | 0,0,_,_,_,_=>rfl
 | 0,m+1,0,_,_,_=>rfl
 | 0,m+1,l+1,_,h,_=>by omega
 | n+1,0,0,_,_,_=>rfl
 | n+1,0,l+1,_,_,h=>by omega
 | n+1,m+1,0,_,_,_=>rfl
 | n+1,m+1,l+1,i,h1,h2=>by
  unfold tWf
  exact lnum_congr hp (by omega) fun l' hl a=>tWf_fuel hp (by omega) (by omega)
def tW (ps:List (Nat × Nat)) (w:Nat × Nat→Int) (l i:Nat):Int:=tWf ps w l l i
theorem tW_succ {ps:List (Nat × Nat)} {w:Nat × Nat→Int} (hp:∀ p ∈ ps,p.1 < p.2) {l i:Nat}:tW ps w (l+1) i=lnum ps w (tW ps w) i (i+l+1):=by
 show tWf ps w (l+1) (l+1) i=_
 unfold tWf
 exact lnum_congr hp (by omega) fun l' hl a=>tWf_fuel hp (by omega) (by omega)
def rowS (n a:Nat):List (Nat × Nat):=(List.range (a+1)).map fun b=>(n - 1 - a,n - a+b)
def strR (n:Nat):List (Nat × Nat):=(List.range n).flatMap (rowS n)
def prD (p:Nat × Nat):D:=.tup [.int (p.1:Int),.int (p.2:Int)]
def restS (n a b:Nat):List (Nat × Nat):=(rowS n a).drop b++((List.range n).drop (a+1)).flatMap (rowS n)
theorem restS_next {n a b:Nat} (h:b≤a):restS n a b=(n - 1 - a,n - a+b)::restS n a (b+1):=by
 unfold restS rowS
 rw [List.drop_eq_getElem_cons (by rw [List.length_map,List.length_range]; omega)]
 simp
theorem drop_flat {n a:Nat} (h:a < n):((List.range n).drop a).flatMap (rowS n)=restS n a 0:=by
 unfold restS
 rw [List.drop_eq_getElem_cons (by rw [List.length_range]; exact h)]
 simp
theorem restS_end {n a:Nat} (h:a+1 < n):restS n a (a+1)=restS n (a+1) 0:=by
 rw [← drop_flat h]
 unfold restS rowS
 simp
theorem restS_last {n a:Nat} (h:n≤a+1):restS n a (a+1)=[]:=by
 unfold restS rowS
 rw [List.drop_eq_nil_of_le (by simp),List.drop_eq_nil_of_le (by simpa using h)]
 rfl
theorem strR_rest {n:Nat} (h:0 < n):strR n=restS n 0 0:=by rw [← drop_flat h]; rfl
end L2.Q
end

noncomputable section
set_option Elab.async false
set_option linter.all false
set_option maxRecDepth 100000
namespace L2.Q
open PySem PySem.Spec PySem.SeqAt PyProof.Rows
theorem loop1A {α:Type} {γ:GamQ} {τ:PhiQB} {φ:PhiQ} {l:List α} {f:α→D} {k:Kd} {cap:Bet} {K:List D→Prop} (t:α→Bool) (g:α→D) (h0:hndOk cap cap) (hl:l.length≤sizeLine)
  (h:∀ x ∈ l,∀ (x0:Option B) (o:List D) (J:Bet→List D→Prop),o.length < sizeLine→(t x=true→∀ x0,J (x0::cap) (o++[g x]))→(t x=false→∀ x0,J (x0::cap) o)→γ (f x) (sk k (f x)) (x0::cap) fun β1=>τ β1 fun t β2=>if t=true then φ β2 fun x kx β3=>kFl kx x∧o.length < sizeLine∧J β3 (o++[x]) else J β2 o)
  (q:K ((l.filter t).map g)):loopQ γ τ φ (l.map f) k (none::cap) K:=by
 refine ⟨fun i β o=>i≤l.length∧(∃ x0,β=x0::cap)∧o=((l.take i).filter t).map g,⟨Nat.zero_le _,⟨_,rfl⟩,rfl⟩,?_,?_⟩
 ·rintro i d β o hd ⟨hi,⟨x0,rfl⟩,rfl⟩
  rw [List.getElem?_map] at hd
  obtain ⟨x,hx,rfl⟩:=Option.map_eq_some_iff.mp hd
  have hlt:i < l.length:=(List.getElem?_eq_some_iff.mp hx).1
  have hle:(((l.take i).filter t).map g).length < sizeLine:=by
   rw [List.length_map]
   have:=List.length_filter_le t (l.take i)
   rw [List.length_take] at this
   omega
  have e:l.take (i+1)=l.take i++[x]:=by rw [List.take_add_one,hx]; rfl
  refine h x (List.mem_of_getElem? hx) x0 _ (fun β o=>i+1≤l.length∧(∃ x0,β=x0::cap)∧o=((l.take (i+1)).filter t).map g) hle (fun ht x0=>?_) fun ht x0=>?_
  ·exact ⟨hlt,⟨_,rfl⟩,by rw [e,List.filter_append,List.map_append,List.filter_cons,if_pos ht]; rfl⟩
  ·exact ⟨hlt,⟨_,rfl⟩,by rw [e,List.filter_append,List.map_append,List.filter_cons,if_neg (by rw [ht]; simp)]; simp⟩
 ·rintro β o ⟨_,⟨x0,rfl⟩,rfl⟩
  rw [List.length_map,List.take_length]
  exact ⟨h0,q⟩
theorem filter_true {α:Type} {l:List α}:l.filter (fun _=>true)=l:=List.filter_eq_self.mpr fun _ _=>rfl
theorem dAdd_lst {a b:List D} (h:a.length+b.length≤1000000):dAdd (.lst a) (.lst b)=some (.lst (a++b)):=by
 show (if a.length+b.length≤sizeLine then _ else _)=_
 rw [if_pos (Nat.le_trans h (by decide))]
theorem flats_int {α:Type} {f:α→Int}:∀ {l:List α},D.flats (l.map fun x=>D.int (f x))=true
 | []=>rfl
 | _::l=>flats_int (l:=l)
theorem flats_app:∀ {a b:List D},D.flats a=true→D.flats b=true→D.flats (a++b)=true
 | [],_,_,h=>h
 | d::a,b,h,h'=>by
  have f':(d.flat && D.flats a)=true:=h
  rw [Bool.and_eq_true] at f'
  show (d.flat && D.flats (a++b))=true
  rw [f'.1,flats_app f'.2 h']
  rfl
theorem max_ints {α:Type} {f:α→Int} {l:List α} {x:Int}:dOfInts maxI [.lst ((l.map fun k=>D.int (f k))++[D.int x])]=some (.int ((maxI (l.map f++[x])).getD 0)):=by
 have e:(l.map fun k=>D.int (f k))++[D.int x]=(l.map f++[x]).map D.int:=by simp
 rw [e]
 exact dOfInts_of maxI_some
theorem nd_take {α:Type} {l:List α} {m:Nat} {x:α} (h:l.Nodup) (hx:l[m]?=some x):x ∉ l.take m:=fun z=>by
 obtain ⟨i,hi⟩:=List.mem_iff_getElem?.mp z
 rw [List.getElem?_take] at hi
 split at hi
 ·next hlt =>
  have:=(List.getElem?_inj (List.getElem?_eq_some_iff.mp hi).1 h).mp (hi.trans hx.symm)
  omega
 ·cases hi
def fStr:FD:=fun ds R=>∃ n:Nat,ds=[.int n]∧n≤80∧R (.lst ((strR n).map prD))
theorem fStr.mono:Mono fStr:=fun ds R R' k h=>by obtain ⟨n,e,h1,q⟩:=h; exact ⟨n,e,h1,k _ q⟩
def fPart:FD:=fun ds R=>∃ n ps,ds=[rwD n ps]∧OkR n ps∧R (ptD n ps)
theorem fPart.mono:Mono fPart:=fun ds R R' k h=>by obtain ⟨n,ps,e,h1,q⟩:=h; exact ⟨n,ps,e,h1,k _ q⟩
def fNumW:FD:=fun ds R=>∃ (n:Nat) (ps:List (Nat × Nat)) (w:Nat × Nat→Int) (L:Nat→Nat) (T:Nat→Nat→Int) (i k j:Nat),ds=[wD ps w,tabD n L T,.int i,.int k,.int j]∧(i,k) ∈ ps∧i < k∧k < j∧j≤n∧k - i - 1 < L (i+1)∧j - k - 1 < L (k+1) ∧
 R (.int (w (i,k)+T (k - i - 1) (i+1)+T (j - k - 1) (k+1)))
theorem fNumW.mono:Mono fNumW:=fun ds R R' k h=>by obtain ⟨n,ps,w,L,T,i,k',j,e,h1,h2,h3,h4,h5,h6,q⟩:=h; exact ⟨n,ps,w,L,T,i,k',j,e,h1,h2,h3,h4,h5,h6,k _ q⟩
def fLeast:FD:=fun ds R=>∃ (n:Nat) (ps:List (Nat × Nat)) (w:Nat × Nat→Int) (L:Nat→Nat) (T:Nat→Nat→Int) (i j:Nat),ds=[ptD n ps,wD ps w,tabD n L T,.int i,.int j]∧OkR n ps∧i < j∧j≤n∧(∀ a,i < a→a≤n→n+1 - a≤L a)∧R (.int (lnum ps w T i j))
theorem fLeast.mono:Mono fLeast:=fun ds R R' k h=>by obtain ⟨n,ps,w,L,T,i,j,e,h1,h2,h3,h4,q⟩:=h; exact ⟨n,ps,w,L,T,i,j,e,h1,h2,h3,h4,k _ q⟩
abbrev fullT (n:Nat) (T:Nat→Nat→Int):D:=tabD n (fun i=>n+1 - i) T
def fGreat:FD:=fun ds R=>∃ (n:Nat) (ps:List (Nat × Nat)) (w:Nat × Nat→Int),ds=[rwD n ps,wD ps w]∧OkR n ps∧R (fullT n (tW ps w))
theorem fGreat.mono:Mono fGreat:=fun ds R R' k h=>by obtain ⟨n,ps,w,e,h1,q⟩:=h; exact ⟨n,ps,w,e,h1,k _ q⟩
def w1:Nat × Nat→Int:=fun _=>1
def fOne:FD:=fun ds R=>∃ (n:Nat) (ps:List (Nat × Nat)),ds=[rwD n ps]∧OkR n ps∧R (wD ps w1)
theorem fOne.mono:Mono fOne:=fun ds R R' k h=>by obtain ⟨n,ps,e,h1,q⟩:=h; exact ⟨n,ps,e,h1,k _ q⟩
def fTable:FD:=fun ds R=>∃ (n:Nat) (ps:List (Nat × Nat)),ds=[rwD n ps]∧OkR n ps∧R (fullT n (tW ps w1))
theorem fTable.mono:Mono fTable:=fun ds R R' k h=>by obtain ⟨n,ps,e,h1,q⟩:=h; exact ⟨n,ps,e,h1,k _ q⟩
theorem sz_le {n:Nat} (h:n≤1000):n≤sizeLine:=Nat.le_trans h (by decide)
theorem sz_lt {n:Nat} (h:n≤1000):n < sizeLine:=Nat.lt_of_le_of_lt h (by decide)
theorem ixNn {n i:Nat} {x:Int} (hx:x=(i:Int)) (h:i < n):ixN n x=some i:=by
 subst hx
 unfold ixN
 rw [if_pos (by omega),if_pos (by omega)]
 simp
theorem set_rng {α:Type} {n i:Nat} {f:Nat→α} {y:α} (h:i < n):((List.range n).map f).set i y=(List.range n).map fun k=>if k=i then y else f k:=by
 refine List.ext_getElem? fun k=>?_
 rw [List.getElem?_set]
 by_cases hk:k < n
 ·rw [rng_get hk,rng_get hk,List.length_map,List.length_range]
  by_cases e:i=k
  ·rw [if_pos e,if_pos (e ▸ hk),if_pos e.symm]
  ·rw [if_neg e,if_neg (Ne.symm e)]
 ·rw [List.getElem?_eq_none (l:=(List.range n).map f) (by simpa using hk),List.getElem?_eq_none (l:=(List.range n).map fun k=>if k=i then y else f k) (by simpa using hk),if_neg (by omega)]
theorem set_pt {n i k:Nat} {ps:List (Nat × Nat)} (h:i < n):((List.range n).map fun j=>D.lst (intsD (prt ps j))).set i (.lst (intsD (prt ps i)++[D.int k]))=(List.range n).map fun j=>D.lst (intsD (prt (ps++[(i,k)]) j)):=by
 rw [set_rng h]
 refine List.map_congr_left fun j _=>?_
 unfold prt intsD
 rw [List.filter_append,List.map_append,List.map_append]
 by_cases e:j=i
 ·rw [if_pos e,e]; simp
 ·rw [if_neg e,List.filter_cons,if_neg (by simpa using Ne.symm e)]; simp
theorem prt_len {ps:List (Nat × Nat)} {i:Nat}:(prt ps i).length≤ps.length:=by
 unfold prt
 rw [List.length_map]
 exact List.length_filter_le _ _
def lenT (n a b:Nat) (i:Nat):Nat:=if n - 1 - a < i then n+1 - i else if i=n - 1 - a then b+1 else 1
theorem set_tab {n a b:Nat} {T:Nat→Nat→Int} (ha:a < n) (hb:b≤a) :
  ((List.range (n+1)).map fun i=>D.lst (tRow (lenT n a b i) fun l=>T l i)).set (n - 1 - a) (.lst (tRow (b+1) (fun l=>T l (n - 1 - a))++[D.int (T (b+1) (n - 1 - a))]))=(List.range (n+1)).map fun i=>D.lst (tRow (lenT n a (b+1) i) fun l=>T l i):=by
 rw [set_rng (by omega)]
 refine List.map_congr_left fun i _=>?_
 unfold lenT
 by_cases e:i=n - 1 - a
 ·rw [if_pos e,e,if_neg (by omega),if_pos rfl]
  unfold tRow
  rw [List.range_succ (n:=b+1),List.map_append]
  rfl
 ·rw [if_neg e,if_neg e,if_neg e]
theorem lenT_next {n a:Nat} (h:a+1 < n) (i:Nat) (hi:i≤n):lenT n a (a+1) i=lenT n (a+1) 0 i:=by
 unfold lenT
 by_cases h1:n - 1 - a < i
 ·rw [if_pos h1,if_pos (by omega)]
 ·rw [if_neg h1]
  by_cases h2:i=n - 1 - a
  ·rw [if_pos h2,if_pos (by omega)]; omega
  ·rw [if_neg h2,if_neg (by omega)]
   split <;> rfl
theorem lenT_end {n a:Nat} (h:n=a+1) (i:Nat) (hi:i≤n):lenT n a (a+1) i=n+1 - i:=by
 unfold lenT
 split
 ·rfl
 ·split <;> omega
theorem lenT_start {n:Nat} (h:0 < n) (i:Nat) (hi:i≤n):lenT n 0 0 i=1:=by
 unfold lenT
 split
 ·omega
 ·split <;> rfl
theorem tab_congr {n:Nat} {L L':Nat→Nat} {T:Nat→Nat→Int} (h:∀ i,i≤n→L i=L' i):tabD n L T=tabD n L' T:=by
 unfold tabD
 congr 1
 refine List.map_congr_left fun i hi=>?_
 rw [h i (by have:=List.mem_range.mp hi; omega)]
def DoneT (n idx:Nat) (L:Nat→Nat):Prop:=(n=0∧L 0=1)∨∃ a b,a < n∧b≤a+1∧(∀ i,i≤n→L i=lenT n a b i)∧(strR n).drop idx=restS n a b
theorem doneT_start {n:Nat}:DoneT n 0 fun _=>1:=by
 rcases Nat.eq_zero_or_pos n with h | h
 ·exact .inl ⟨h,rfl⟩
 ·exact .inr ⟨0,0,h,Nat.zero_le _,fun i hi=>(lenT_start h i hi).symm,strR_rest h⟩
theorem doneT_end {n:Nat} {L:Nat→Nat} (h:DoneT n (strR n).length L):∀ i,i≤n→L i=n+1 - i:=by
 rcases h with ⟨rfl,h⟩ | ⟨a,b,h1,h2,h3,h4⟩
 ·intro i hi
  rw [show i=0 by omega,h]
 ·intro i hi
  rw [List.drop_length] at h4
  have hb:b=a+1:=by
   rcases Nat.lt_or_ge a b with q | q
   ·omega
   ·rw [restS_next q] at h4; cases h4
  have ha:n=a+1:=by
   rcases Nat.lt_or_ge (a+1) n with q | q
   ·rw [hb,restS_end q,restS_next (Nat.zero_le _)] at h4; cases h4
   ·omega
  rw [h3 i hi,hb]
  exact lenT_end ha i hi
theorem doneT_step {n idx:Nat} {L:Nat→Nat} {p:Nat × Nat} (h:DoneT n idx L) (hp:(strR n)[idx]?=some p):∃ a b,a < n∧b≤a∧p=(n - 1 - a,n - a+b)∧(∀ i,i≤n→L i=lenT n a b i)∧(strR n).drop (idx+1)=restS n a (b+1):=by
 have hd:(strR n).drop idx=p::(strR n).drop (idx+1):=by
  obtain ⟨h1,h2⟩:=List.getElem?_eq_some_iff.mp hp
  rw [List.drop_eq_getElem_cons h1,h2]
 rcases h with ⟨rfl,h⟩ | ⟨a,b,h1,h2,h3,h4⟩
 ·cases hp
 ·have key:∃ a b,a < n∧b≤a∧(∀ i,i≤n→L i=lenT n a b i)∧(strR n).drop idx=restS n a b:=by
   rcases Nat.lt_or_ge a b with q | q
   ·have e:b=a+1:=by omega
    rcases Nat.lt_or_ge (a+1) n with q2 | q2
    ·exact ⟨a+1,0,q2,Nat.zero_le _,fun i hi=>by rw [h3 i hi,e,lenT_next q2 i hi],by rw [h4,e,restS_end q2]⟩
    ·rw [h4,e,restS_last q2] at hd; cases hd
   ·exact ⟨a,b,h1,q,h3,h4⟩
  obtain ⟨a,b,h1,h2,h3,h4⟩:=key
  rw [h4,restS_next h2] at hd
  injection hd with e1 e2
  exact ⟨a,b,h1,h2,e1.symm,h3,e2.symm⟩
theorem rowS_len {n a:Nat}:(rowS n a).length=a+1:=by unfold rowS; simp
theorem rowS_take {n a b:Nat} (h:b < a+1):(rowS n a).take (b+1)=(rowS n a).take b++[(n - 1 - a,n - a+b)]:=by
 rw [List.take_add_one]
 unfold rowS
 rw [rng_get h]
 rfl
theorem rowS_all {n a:Nat}:(rowS n a).take (a+1)=rowS n a:=List.take_of_length_le (by rw [rowS_len]; exact Nat.le_refl _)
theorem flat_len {n:Nat}:∀ a:Nat,a≤n→(((List.range n).take a).flatMap (rowS n)).length≤a * a
 | 0,_=>by simp
 | a+1,h=>by
  have:=flat_len (n:=n) a (by omega)
  rw [List.take_add_one,List.getElem?_range (show a < n by omega),List.flatMap_append,List.length_append]
  have e:((some a).toList.flatMap (rowS n)).length=a+1:=by simp [rowS_len]
  rw [e,Nat.mul_add,Nat.add_mul]
  omega
theorem str_size {n a b:Nat} (hn:n≤80) (ha:a < n) (hb:b < a+1):(((List.range n).take a).flatMap (rowS n)).length+((rowS n a).take b).length < sizeLine:=by
 have h1:=flat_len (n:=n) a (by omega)
 have h2:((rowS n a).take b).length≤b:=by rw [List.length_take]; exact Nat.min_le_left _ _
 have h3:a * a≤80 * 80:=Nat.mul_le_mul (by omega) (by omega)
 have h4:80 * 80+80 < sizeLine:=by decide
 omega
end L2.Q
end


noncomputable section
set_option Elab.async false
set_option linter.all false
set_option maxRecDepth 100000
namespace L2.Q
open Mx
theorem maxI_spec {l:List Int} {x:Int}:(maxI (l++[x])).getD 0 ∈ l++[x]∧∀ y ∈ l++[x],y≤(maxI (l++[x])).getD 0:=by
 cases l with
 | nil=>exact foldl_max_spec [] x
 | cons a l=>exact foldl_max_spec (l++[x]) a
theorem lnum_spec {ps:List (Nat × Nat)} {w:Nat × Nat→Int} {T:Nat→Nat→Int} {i j:Nat} :
  (lnum ps w T i j=T (j - i - 1) (i+1)∨∃ k,(i,k) ∈ ps∧k < j∧lnum ps w T i j=w (i,k)+T (k - i - 1) (i+1)+T (j - k - 1) (k+1)) ∧
  T (j - i - 1) (i+1)≤lnum ps w T i j∧∀ k,(i,k) ∈ ps→k < j→w (i,k)+T (k - i - 1) (i+1)+T (j - k - 1) (k+1)≤lnum ps w T i j:=by
 obtain ⟨h1,h2⟩:=maxI_spec (l:=((prt ps i).filter fun k=>decide (k < j)).map fun k=>w (i,k)+T (k - i - 1) (i+1)+T (j - k - 1) (k+1)) (x:=T (j - i - 1) (i+1))
 refine ⟨?_,h2 _ (by simp),fun k hk hj=>h2 _ (List.mem_append_left _ (List.mem_map.mpr ⟨k,List.mem_filter.mpr ⟨mem_prt.mpr hk,decide_eq_true hj⟩,rfl⟩))⟩
 rcases List.mem_append.mp h1 with h | h
 ·obtain ⟨k,hk,e⟩:=List.mem_map.mp h
  obtain ⟨q1,q2⟩:=List.mem_filter.mp hk
  exact .inr ⟨k,mem_prt.mp q1,of_decide_eq_true q2,e.symm⟩
 ·exact .inl (List.mem_singleton.mp h)
end L2.Q
end

noncomputable section
set_option Elab.async false
set_option linter.all false
set_option maxRecDepth 100000
namespace L2.Q
open PySem PySem.Spec PySem.SeqAt PyProof.Rows
def oD:Option Nat→D
 | none=>.non
 | some k=>.int (k:Int)
def parts (i:Nat) (k:Option Nat) (j:Nat):List (Nat × Nat):=match k with
 | none=>[(i+1,j)]
 | some k=>[(i+1,k),(k+1,j)]
def bestC (ps:List (Nat × Nat)) (w:Nat × Nat→Int) (T:Nat→Nat→Int) (i j:Nat):List (Option Nat) :=
 ((prt ps i).filter fun k=>decide (k < j) && decide (w (i,k)+T (k - i - 1) (i+1)+T (j - k - 1) (k+1)=T (j - i) i)).map some++(if T (j - i - 1) (i+1)=T (j - i) i then [none] else [])
def okC (ps:List (Nat × Nat)) (w:Nat × Nat→Int) (T:Nat→Nat→Int) (i j:Nat):Option Nat→Prop
 | none=>T (j - i - 1) (i+1)=T (j - i) i
 | some k=>(i,k) ∈ ps∧k < j∧w (i,k)+T (k - i - 1) (i+1)+T (j - k - 1) (k+1)=T (j - i) i
theorem mem_bestC {ps:List (Nat × Nat)} {w:Nat × Nat→Int} {T:Nat→Nat→Int} {i j:Nat} {c:Option Nat} (h:c ∈ bestC ps w T i j):okC ps w T i j c:=by
 unfold bestC at h
 rcases List.mem_append.mp h with h | h
 ·obtain ⟨k,hk,rfl⟩:=List.mem_map.mp h
  obtain ⟨h1,h2⟩:=List.mem_filter.mp hk
  rw [Bool.and_eq_true,decide_eq_true_eq,decide_eq_true_eq] at h2
  exact ⟨mem_prt.mp h1,h2.1,h2.2⟩
 ·split at h
  ·next e=>rw [List.mem_singleton.mp h]; exact e
  ·cases h
theorem bestC_ne {ps:List (Nat × Nat)} {w:Nat × Nat→Int} (hp:∀ p ∈ ps,p.1 < p.2) {i j:Nat} (h:i < j):bestC ps w (tW ps w) i j≠[]:=by
 have e:tW ps w (j - i) i=lnum ps w (tW ps w) i j:=by rw [show j - i=(j - i - 1)+1 by omega,tW_succ hp,show i+(j - i - 1)+1=j by omega]
 obtain ⟨h1,_,_⟩:=lnum_spec (ps:=ps) (w:=w) (T:=tW ps w) (i:=i) (j:=j)
 rw [← e] at h1
 unfold bestC
 intro z
 obtain ⟨z1,z2⟩:=List.append_eq_nil_iff.mp z
 rcases h1 with q | ⟨k,hk,hj,q⟩
 ·rw [if_pos q.symm] at z2; cases z2
 ·have:k ∈ (prt ps i).filter fun k=>decide (k < j) && decide (w (i,k)+tW ps w (k - i - 1) (i+1)+tW ps w (j - k - 1) (k+1)=tW ps w (j - i) i):=List.mem_filter.mpr ⟨mem_prt.mpr hk,by rw [Bool.and_eq_true,decide_eq_true_eq,decide_eq_true_eq]; exact ⟨hj,q.symm⟩⟩
  rw [List.map_eq_nil_iff.mp z1] at this
  cases this
def firstC (ps:List (Nat × Nat)) (w:Nat × Nat→Int) (i j:Nat):Option Nat:=(bestC ps w (tW ps w) i j).headD none
theorem firstC_mem {ps:List (Nat × Nat)} {w:Nat × Nat→Int} (hp:∀ p ∈ ps,p.1 < p.2) {i j:Nat} (h:i < j):firstC ps w i j ∈ bestC ps w (tW ps w) i j:=by
 have:=bestC_ne (w:=w) hp h
 unfold firstC
 cases q:bestC ps w (tW ps w) i j with
 | nil=>exact absurd q this
 | cons a l=>simp
def fstF (ps:List (Nat × Nat)) (w:Nat × Nat→Int):Nat→Nat→Nat→List (Nat × Nat)
 | 0,_,_=>[]
 | n+1,i,j=>if i < j then match firstC ps w i j with
   | none=>fstF ps w n (i+1) j
   | some k=>(i,k)::(fstF ps w n (i+1) k++fstF ps w n (k+1) j)
  else []
theorem fstF_fuel {ps:List (Nat × Nat)} {w:Nat × Nat→Int} (hp:∀ p ∈ ps,p.1 < p.2):∀ {n m i j:Nat},j - i≤n→j - i≤m→fstF ps w n i j=fstF ps w m i j
 | 0,0,_,_,_,_=>rfl
 | 0,m+1,i,j,h,_=>by unfold fstF; rw [if_neg (by omega)]
 | n+1,0,i,j,_,h=>by unfold fstF; rw [if_neg (by omega)]
 | n+1,m+1,i,j,h1,h2=>by
  unfold fstF
  by_cases h:i < j
  ·rw [if_pos h,if_pos h]
   have hm:=mem_bestC (firstC_mem (w:=w) hp h)
   cases q:firstC ps w i j with
   | none=>exact fstF_fuel hp (by omega) (by omega)
   | some k =>
    rw [q] at hm
    have:=hp _ hm.1
    dsimp only at this
    have h3:=hm.2.1
    dsimp only
    rw [fstF_fuel hp (n:=n) (m:=m) (i:=i+1) (j:=k) (by omega) (by omega),fstF_fuel hp (n:=n) (m:=m) (i:=k+1) (j:=j) (by omega) (by omega)]
  ·rw [if_neg h,if_neg h]
def fstG (ps:List (Nat × Nat)) (w:Nat × Nat→Int) (i j:Nat):List (Nat × Nat):=fstF ps w (j - i) i j
theorem fstG_nil {ps:List (Nat × Nat)} {w:Nat × Nat→Int} {i j:Nat} (h:¬ i < j):fstG ps w i j=[]:=by
 unfold fstG
 rw [show j - i=0 by omega]
 rfl
theorem fstG_cons {ps:List (Nat × Nat)} {w:Nat × Nat→Int} (hp:∀ p ∈ ps,p.1 < p.2) {i j:Nat} (h:i < j):fstG ps w i j=match firstC ps w i j with
  | none=>fstG ps w (i+1) j
  | some k=>(i,k)::(fstG ps w (i+1) k++fstG ps w (k+1) j):=by
 unfold fstG
 rw [show j - i=(j - i - 1)+1 by omega]
 conv=>lhs; unfold fstF
 rw [if_pos h]
 have hm:=mem_bestC (firstC_mem (w:=w) hp h)
 cases q:firstC ps w i j with
 | none=>exact fstF_fuel hp (by omega) (by omega)
 | some k =>
  rw [q] at hm
  have:=hp _ hm.1
  dsimp only at this
  have h3:=hm.2.1
  dsimp only
  rw [fstF_fuel hp (n:=j - i - 1) (m:=k - (i+1)) (i:=i+1) (j:=k) (by omega) (by omega),fstF_fuel hp (n:=j - i - 1) (m:=j - (k+1)) (i:=k+1) (j:=j) (by omega) (by omega)]
def headC (i:Nat):Option Nat→List (Nat × Nat)
 | none=>[]
 | some k=>[(i,k)]
theorem fstG_parts {ps:List (Nat × Nat)} {w:Nat × Nat→Int} (hp:∀ p ∈ ps,p.1 < p.2) {i j:Nat} (h:i < j):fstG ps w i j=headC i (firstC ps w i j)++(parts i (firstC ps w i j) j).flatMap fun p=>fstG ps w p.1 p.2:=by
 rw [fstG_cons hp h]
 cases firstC ps w i j with
 | none=>simp [parts,headC]
 | some k=>simp [parts,headC]
theorem fstG_len {ps:List (Nat × Nat)} {w:Nat × Nat→Int} (hp:∀ p ∈ ps,p.1 < p.2):∀ l i j,j - i≤l→2 * (fstG ps w i j).length≤j - i:=by
 intro l
 induction l with
 | zero=>intro i j h; rw [fstG_nil (by omega)]; exact Nat.zero_le _
 | succ l ih =>
  intro i j h
  by_cases hij:i < j
  ·rw [fstG_cons hp hij]
   have hm:=mem_bestC (firstC_mem (w:=w) hp hij)
   cases q:firstC ps w i j with
   | none=>have:=ih (i+1) j (by omega); dsimp only; omega
   | some k =>
    rw [q] at hm
    have h1:=hp _ hm.1
    dsimp only at h1
    have h3:=hm.2.1
    have a1:=ih (i+1) k (by omega)
    have a2:=ih (k+1) j (by omega)
    dsimp only
    rw [List.length_cons,List.length_append]
    omega
  ·rw [fstG_nil hij]; exact Nat.zero_le _
def fParts:FD:=fun ds R=>∃ (i:Nat) (k:Option Nat) (j:Nat),ds=[.int i,oD k,.int j]∧R (.lst ((parts i k j).map prD))
theorem fParts.mono:Mono fParts:=fun ds R R' k h=>by obtain ⟨i,c,j,e,q⟩:=h; exact ⟨i,c,j,e,k _ q⟩
def fBest:FD:=fun ds R=>∃ (n:Nat) (ps:List (Nat × Nat)) (w:Nat × Nat→Int) (T:Nat→Nat→Int) (i j:Nat),ds=[ptD n ps,wD ps w,fullT n T,.int i,.int j]∧OkR n ps∧i < j∧j≤n∧R (.lst ((bestC ps w T i j).map oD))
theorem fBest.mono:Mono fBest:=fun ds R R' k h=>by obtain ⟨n,ps,w,T,i,j,e,h1,h2,h3,q⟩:=h; exact ⟨n,ps,w,T,i,j,e,h1,h2,h3,k _ q⟩
def fFstG:FD:=fun ds R=>∃ (n:Nat) (ps:List (Nat × Nat)) (w:Nat × Nat→Int) (i j:Nat),ds=[rwD n ps,wD ps w,fullT n (tW ps w),.int i,.int j]∧OkR n ps∧i≤j∧j≤n∧R (tsD (fstG ps w i j))
theorem fFstG.mono:Mono fFstG:=fun ds R R' k h=>by obtain ⟨n,ps,w,i,j,e,h1,h2,h3,q⟩:=h; exact ⟨n,ps,w,i,j,e,h1,h2,h3,k _ q⟩
def mostD (ps:List (Nat × Nat)) (i j:Nat):D:=.tup [.int (tW ps w1 (j - i) i),tsD (fstG ps w1 i j)]
def fMostOf:FD:=fun ds R=>∃ (n:Nat) (ps:List (Nat × Nat)) (i j:Nat),ds=[rwD n ps,.int i,.int j]∧OkR n ps∧i≤j∧j≤n∧R (mostD ps i j)
theorem fMostOf.mono:Mono fMostOf:=fun ds R R' k h=>by obtain ⟨n,ps,i,j,e,h1,h2,h3,q⟩:=h; exact ⟨n,ps,i,j,e,h1,h2,h3,k _ q⟩
def fMost:FD:=fun ds R=>∃ (n:Nat) (ps:List (Nat × Nat)),ds=[rwD n ps]∧OkR n ps∧R (mostD ps 0 n)
theorem fMost.mono:Mono fMost:=fun ds R R' k h=>by obtain ⟨n,ps,e,h1,q⟩:=h; exact ⟨n,ps,e,h1,k _ q⟩
def wgt (ws:List (Nat × Nat)):Nat:=(ws.map fun p=>2 * (p.2 - p.1)+1).sum
theorem wgt_app {a b:List (Nat × Nat)}:wgt (a++b)=wgt a+wgt b:=by unfold wgt; rw [List.map_append,List.sum_append]
theorem wgt_rev {a:List (Nat × Nat)}:wgt a.reverse=wgt a:=by
 unfold wgt
 rw [List.map_reverse]
 exact (List.reverse_perm _).sum_nat
end L2.Q
end


noncomputable section
set_option Elab.async false
set_option linter.all false
set_option maxRecDepth 100000
namespace L2.Q
open PySem PySem.Spec PySem.SeqAt PyProof.Rows
theorem map_eraseIdx {α β:Type} {f:α→β}:∀ (l:List α) (m:Nat),(l.eraseIdx m).map f=(l.map f).eraseIdx m
 | [],_=>rfl
 | _::_,0=>rfl
 | x::l,m+1=>by
  show f x::(l.eraseIdx m).map f=f x::(l.map f).eraseIdx m
  rw [map_eraseIdx l m]
end L2.Q
end

noncomputable section
set_option Elab.async false
set_option linter.all false
set_option maxRecDepth 100000
namespace L2
open PySem
structure BsK (mg:Str→Option Value):Prop extends Bs2 mg where
 dict:mg "dict" = none
theorem bt_dict:bootBuiltins "dict" = some (.type "dict"):=by decide +kernel
theorem Room.units2 {k:Nat} {A:Around} (r:Room k A):A.units+2 < cLine:=by have:=r.un; lia
theorem dPow30:dPow (.int 10) (.int 30)=some (.int (10 ^ 30)):=by
 show (if CPow 10 30 then _ else none)=_
 rw [if_pos (by decide)]
 rfl
theorem dPow29:dPow (.int 10) (.int 29)=some (.int (10 ^ 29)):=by
 show (if CPow 10 29 then _ else none)=_
 rw [if_pos (by decide)]
 rfl
end L2
namespace L2.Q
open PySem
def fKinds:FD:=fun ds R=>ds=[]∧∀ ks fs:List Int,ks.length≤24→fs≠[]→fs.length≤24→R (.tup [.lst (ks.map D.int),.lst (fs.map D.int)])
theorem fKinds.mono:Mono fKinds:=fun ds R R' k h=>by obtain ⟨e,q⟩:=h; exact ⟨e,fun ks fs a b c=>k _ (q ks fs a b c)⟩
def fPairs:FD:=fun ds R=>∃ fs:List Int,ds=[.lst (fs.map D.int)]∧fs≠[]∧fs.length≤24∧∀ ps:List (List Int),ps.length≤300→Pairs ps→R (.lst (ps.map kD))
theorem fPairs.mono:Mono fPairs:=fun ds R R' k h=>by obtain ⟨fs,e,h1,h2,q⟩:=h; exact ⟨fs,e,h1,h2,fun ps a b=>k _ (q ps a b)⟩
def fGap:FD:=fun ds R=>ds=[]∧∀ g:Int,0≤g→R (.int g)
theorem fGap.mono:Mono fGap:=fun ds R R' k h=>by obtain ⟨e,q⟩:=h; exact ⟨e,fun g a=>k _ (q g a)⟩
end L2.Q
end

noncomputable section
set_option Elab.async false
set_option linter.all false
set_option maxRecDepth 100000
set_option maxHeartbeats 4000000
namespace K30
open PySem L2 L2.Q
section
variable {P:Program} {w:World} {K:PySem.W.Frag} {mg:Str→Option Value} {base:Heap}
theorem sc_law_kinds:FnScope ["pot","many","names","unlike","few","kinds"] ["pot"] (defScope s_law_kinds):=⟨rfl,rfl,rfl,by decide +kernel,rfl,by decide +kernel,by decide +kernel⟩
theorem ok_kinds {fdKi:Addr} {fddKi:FuncData} (dKi:Df K mg "_law_kinds" s_law_kinds ["pot"] fdKi fddKi) {fdT:Addr} {fddT:FuncData} (dT:Df K mg "_law_take" s_law_take ["pot","many"] fdT fddT) (B:BsK mg):FnOk P w K mg base CX0 2 fdKi fddKi ["pot"] (spQH P w okP false fKinds):=by
 have GT:FnOk P w K mg base CX0 1 _ _ _ (spQH P w okP true fTake):=ok_take dT.F
 refine okQH dKi.F sc_law_kinds (fun ds R ⟨e,_⟩=>by subst e; rfl) fun cdv A outer s H E IO hr=>⟨_,(pbs_cons (pb_set (i:=1) (pq_draw (ih:=0) fTake.mono GT (hr.mono (by decide)) dT.m dT.F.kp dT.b (pqa_cons (pq_ix nok_NF ix_m (pq_lst (pqa_cons pq_int (pqa_cons pq_int pqa_nil))) (pq_draw (ih:=0) fTake.mono GT (hr.mono (by decide)) dT.m dT.F.kp dT.b (pqa_cons pq_int pqa_nil))) pqa_nil)) sc_law_kinds.nd)
    (pbs_cons (pb_setO (i:=2) (fun _=>(pq_lst (pqa_cons pq_int (pqa_cons pq_int (pqa_cons (pq_un un_dNeg pq_int) (pqa_cons pq_int (pqa_cons (pq_op nok_NF (OpD.m op_dSub) (pq_op nok_NF (OpD.m op_dPow) pq_int pq_int) pq_int) (pqa_cons (pq_op nok_NF (OpD.m op_dSub) pq_int (pq_op nok_NF (OpD.m op_dPow) pq_int pq_int)) (pqa_cons (pq_draw (ih:=0) fTake.mono GT (hr.mono (by decide)) dT.m dT.F.kp dT.b (pqa_cons (pq_op nok_NF (OpD.m op_dPow) pq_int pq_int) pqa_nil)) pqa_nil))))))))) sc_law_kinds.nd)
    (pbs_cons (pb_set (i:=3) (pq_op nok_NL op_dAddN pq_int (pq_draw (ih:=0) fTake.mono GT (hr.mono (by decide)) dT.m dT.F.kp dT.b (pqa_cons (pq_ix nok_NF ix_m (pq_lst (pqa_cons pq_int (pqa_cons pq_int pqa_nil))) (pq_callTy nok_NF (CallD.m call_dInt) B.int bt_int (pqa_cons (pq_cmp nok_NF (OpD.m (op_dEq hr.units)) (pq_draw (ih:=0) fTake.mono GT (hr.mono (by decide)) dT.m dT.F.kp dT.b (pqa_cons pq_int pqa_nil)) pq_int) pqa_nil))) pqa_nil))) sc_law_kinds.nd)
    (pbs_mid (pb_if (pqt_cmp nok_NF (OpD.m op_dGt) (pq_var (i:=3)) pq_int) (pbs_one (pb_setO (i:=2) (fun _=>(pq_op nok_NL op_dAddN (pq_var (i:=2)) (pq_listRange rfl B.list B.range (pqa_cons pq_int (pqa_cons pq_int pqa_nil))))) sc_law_kinds.nd)) pbs_nil)
    (pbs_cons (pb_set (i:=4) (lcO ["k","names","pot"] [none,some 2,some 0] (by rfl) (by decide:(["k","names","pot"]:List Str).Nodup) rfl (pqi_range1 B.range (pqa_cons (pq_var (i:=3)) pqa_nil)) (fun _ _ _ _ _ _=>(pbg_name (i:=0) (by decide:(["k","names","pot"]:List Str).Nodup))) (fun _ _ _ _ _ _=>ts_nil) (fun _ _ _ _ _ _=>(pq_popAt (i:=1) (pq_draw (ih:=2) fTake.mono GT (hr.mono (by decide)) dT.m dT.F.kp dT.b (pqa_cons (pq_callB nok_NF (CallD.m call_dLen) B.len bt_len (pqa_cons (pq_var (i:=1)) pqa_nil)) pqa_nil))))) sc_law_kinds.nd)
    (pbs_cons (sLcA (i:=5) false ["point","few","pot"] [none,some 4,some 0] (by rfl) (by decide:(["point","few","pot"]:List Str).Nodup) rfl (fun _=>(pqi_range1 B.range (pqa_cons (pq_var (i:=1)) pqa_nil))) (fun _ _ _ _ _ _=>(pbg_name (i:=0) (by decide:(["point","few","pot"]:List Str).Nodup))) (fun _ _ _ _ _ _=>ts_nil) (fun _ _ _ _ _ _=>(pq_ix nok_NF ix_m (pq_var (i:=1)) (pq_draw (ih:=2) fTake.mono GT (hr.mono (by decide)) dT.m dT.F.kp dT.b (pqa_cons (pq_callB nok_NF (CallD.m call_dLen) B.len bt_len (pqa_cons (pq_var (i:=1)) pqa_nil)) pqa_nil)))) sc_law_kinds.nd)
    (pbs_one (pb_ret (pq_tup (pqa_cons (pq_var (i:=5)) (pqa_cons (pq_var (i:=4)) pqa_nil))))))))))),fun ds R h=>?_⟩
 obtain ⟨rfl,q⟩:=h
 refine ⟨rfl,trivial,trivial,sz2,trivial,rfl,trivial,rfl,trivial,2,rfl,by omega,by omega,fun r r0 r1=>pick r0 (by simpa using r1) fun d hd=>?_⟩
 obtain ⟨m,rfl,m0,m1⟩:∃ m:Int,d=.int m∧0 < m∧m≤25:=by
  simp only [List.mem_cons,List.not_mem_nil,or_false] at hd
  rcases hd with rfl | rfl
  ·exact ⟨9,rfl,by omega,by omega⟩
  ·exact ⟨25,rfl,by omega,by omega⟩
 refine ⟨trivial,rfl,trivial,m,rfl,m0,by omega,fun n n0 n1=>?_⟩
 refine ⟨trivial,trivial,_,rfl,rfl,trivial,trivial,trivial,_,dPow30,trivial,_,rfl,trivial,trivial,trivial,_,dPow30,_,rfl,trivial,?_⟩
 refine ⟨rfl,trivial,_,dPow30,trivial,rfl,trivial,10 ^ 30,rfl,by decide,by decide,fun x x0 x1=>⟨trivial,sz_le (by show 7≤1000; decide),trivial,?_⟩⟩
 refine ⟨trivial,rfl,trivial,trivial,sz2,trivial,rfl,trivial,rfl,trivial,4,rfl,by omega,by omega,fun r r0 r1=>⟨trivial,_,dEq_int _ _,trivial,_,rfl,?_⟩⟩
 obtain ⟨u,eu,u0,u1⟩:∃ u:Int,dIx (.lst [.int 6,.int 24]) (.int (if decide (r=3)=true then 1 else 0))=some (.int u)∧0 < u∧u≤24:=by
  by_cases h:r=3
  ·rw [if_pos (decide_eq_true h)]; exact ⟨24,rfl,by omega,by omega⟩
  ·rw [if_neg (by rw [decide_eq_false h]; exact Bool.false_ne_true)]; exact ⟨6,rfl,by omega,by omega⟩
 refine ⟨_,eu,trivial,rfl,trivial,u,rfl,u0,by omega,fun v v0 v1=>⟨_,rfl,?_⟩⟩
 refine ⟨fun β=>∃ ns:List Int,β=[some (.hand okP),some (.val true (.int n)),some (.own (.lst (ns.map D.int))),some (.val true (.int (1+v))),none,none]∧1+v≤ns.length∧ns.length≤24,?_,?_⟩
 ·refine ⟨_,rfl,trivial,_,rfl,_,rfl,ifD (fun h=>?_) (fun h=>⟨[0,1,-1,7,10 ^ 30 - 1,1 - 10 ^ 30,x],rfl,by show 1+v≤7; omega,by show 7≤24; decide⟩)⟩
  refine ⟨_,rfl,trivial,trivial,trivial,50,67,rfl,⟨by decide,by decide,by decide,by decide⟩,by decide,?_⟩
  have ea:dAdd (.lst ([0,1,-1,7,10 ^ 30 - 1,1 - 10 ^ 30,x].map D.int)) (.lst (rngD 50 (67 - 50:Int).toNat))=some (.lst (([0,1,-1,7,10 ^ 30 - 1,1 - 10 ^ 30,x]++(List.range 17).map fun k:Nat=>50+(k:Int)).map D.int)):=by
   rw [List.map_append,List.map_map]
   exact dAdd_lst (by show 7+17≤1000000; decide)
  exact ⟨_,ea,.inl ⟨flats_int (f:=id),trivial,_,rfl,by show 1+v≤24; omega,by show 24≤24; decide⟩⟩
 rintro β ⟨ns,rfl,hv,hl⟩
 refine ⟨_,rfl,trivial,1+v,rfl,by omega,by omega,trivial,?_⟩
 refine ⟨fun i β o=>i≤(1+v).toNat∧∃ (ms fs:List Int) (y0:Option Q.B),β=[y0,some (.own (.lst (ms.map D.int))),some (.hand okP)]∧ms.length=ns.length - i∧o=fs.map D.int∧fs.length=i,⟨Nat.zero_le _,ns,[],_,rfl,rfl,rfl,rfl⟩,?_,?_⟩
 ·rintro i d β o hd ⟨_,ms,fs,y0,rfl,h1,rfl,h2⟩
  obtain ⟨hi,rfl⟩:=rngD_get hd
  refine ⟨⟨_,rfl⟩,rfl,_,rfl,trivial,_,rfl,trivial,rfl,trivial,_,rfl,by rw [List.length_map]; omega,by rw [List.length_map]; omega,fun r r0 r1=>?_⟩
  rw [List.length_map] at r1
  obtain ⟨k,rfl⟩:∃ k:Nat,r=k:=⟨r.toNat,by omega⟩
  have hk:k < ms.length:=by omega
  refine ⟨ms.map D.int,k,k,.int ms[k],rfl,rfl,by omega,by omega,by rw [List.length_map]; exact ixNn rfl hk,by rw [List.getElem?_map,List.getElem?_eq_getElem hk]; rfl,?_⟩
  have ee:(ms.map D.int).eraseIdx k=(ms.eraseIdx k).map D.int:=(map_eraseIdx ms k).symm
  refine ⟨trivial,by rw [List.length_map,sizeLine_eq]; omega,hi,ms.eraseIdx k,fs++[ms[k]],_,by rw [← ee]; rfl,by rw [List.length_eraseIdx,if_pos hk]; omega,by rw [snoc_int],by rw [List.length_append,h2]; rfl⟩
 ·rintro β o ⟨_,ms,fs,y0,rfl,h1,rfl,h2⟩
  rw [rngD_len] at h2
  refine ⟨⟨⟨_,rfl⟩,rfl,trivial⟩,?_⟩
  refine ⟨_,rfl,trivial,n,rfl,by omega,by omega,trivial,?_⟩
  refine ⟨fun i β o=>i≤n.toNat∧∃ (ks:List Int) (y0:Option Q.B),β=[y0,some (.val true (.lst (fs.map D.int))),some (.hand okP)]∧o=ks.map D.int∧ks.length=i,⟨Nat.zero_le _,[],_,rfl,rfl,rfl⟩,?_,?_⟩
  ·rintro i d β o hd ⟨_,ks,y0,rfl,rfl,h3⟩
   obtain ⟨hi,rfl⟩:=rngD_get hd
   refine ⟨_,rfl,trivial,rfl,_,rfl,trivial,_,rfl,trivial,rfl,trivial,_,rfl,by rw [List.length_map]; omega,by rw [List.length_map]; omega,fun r r0 r1=>?_⟩
   rw [List.length_map] at r1
   obtain ⟨k,rfl⟩:∃ k:Nat,r=k:=⟨r.toNat,by omega⟩
   have hk:k < fs.length:=by omega
   refine ⟨.int fs[k],ixInt (i:=k) rfl (by rw [List.getElem?_map,List.getElem?_eq_getElem hk]; rfl),trivial,by rw [List.length_map,sizeLine_eq]; omega,hi,ks++[fs[k]],_,rfl,by rw [snoc_int],by rw [List.length_append,h3]; rfl⟩
  ·rintro β o ⟨_,ks,y0,rfl,rfl,h3⟩
   rw [rngD_len] at h3
   have hf:fs≠[]:=fun z=>by rw [z] at h2; simp at h2; omega
   exact ⟨⟨rfl,trivial⟩,_,rfl,trivial,_,rfl,trivial,sz2,.inr ⟨trivial,rfl,q ks fs (by omega) hf (by omega)⟩⟩
theorem sc_law_pairs:FnScope ["pot","few","found","k","pair"] ["pot","few"] (defScope s_law_pairs):=⟨rfl,rfl,rfl,by decide +kernel,rfl,by decide +kernel,by decide +kernel⟩
theorem ok_pairs {fdPr:Addr} {fddPr:FuncData} (dPr:Df K mg "_law_pairs" s_law_pairs ["pot","few"] fdPr fddPr) {fdT:Addr} {fddT:FuncData} (dT:Df K mg "_law_take" s_law_take ["pot","many"] fdT fddT) (B:BsK mg):FnOk P w K mg base CX0 2 fdPr fddPr ["pot","few"] (spQH P w okP true fPairs):=by
 have GT:FnOk P w K mg base CX0 1 _ _ _ (spQH P w okP true fTake):=ok_take dT.F
 refine okQH dPr.F sc_law_pairs (fun ds R ⟨fs,e,_⟩=>by subst e; rfl) fun cdv A outer s H E IO hr=>⟨_,(pbs_cons (pb_setO (i:=2) (fun _=>(pq_lst pqa_nil)) sc_law_pairs.nd)
    (pbs_cons (pb_for PassesOwn.never rfl (pqi_range1 B.range (pqa_cons (pq_draw (ih:=0) fTake.mono GT (hr.mono (by decide)) dT.m dT.F.kp dT.b (pqa_cons (pq_ix nok_NF ix_m (pq_lst (pqa_cons pq_int (pqa_cons pq_int (pqa_cons pq_int (pqa_cons pq_int pqa_nil))))) (pq_draw (ih:=0) fTake.mono GT (hr.mono (by decide)) dT.m dT.F.kp dT.b (pqa_cons pq_int pqa_nil))) pqa_nil)) pqa_nil)) (pbg_name (i:=3) sc_law_pairs.nd) (pbs_cons (pb_set (i:=4) (pq_tup (pqa_cons (pq_ix nok_NF ix_m (pq_var (i:=1)) (pq_draw (ih:=0) fTake.mono GT (hr.mono (by decide)) dT.m dT.F.kp dT.b (pqa_cons (pq_callB nok_NF (CallD.m call_dLen) B.len bt_len (pqa_cons (pq_var (i:=1)) pqa_nil)) pqa_nil))) (pqa_cons (pq_ix nok_NF ix_m (pq_var (i:=1)) (pq_draw (ih:=0) fTake.mono GT (hr.mono (by decide)) dT.m dT.F.kp dT.b (pqa_cons (pq_callB nok_NF (CallD.m call_dLen) B.len bt_len (pqa_cons (pq_var (i:=1)) pqa_nil)) pqa_nil))) pqa_nil))) sc_law_pairs.nd)
    (pbs_mid (pb_if (pqt_cmp nok_NF (OpD.m (op_dEq hr.units)) (pq_draw (ih:=0) fTake.mono GT (hr.mono (by decide)) dT.m dT.F.kp dT.b (pqa_cons pq_int pqa_nil)) pq_int) (pbs_one (pb_set (i:=4) (pq_tup (pqa_cons (pq_ix nok_NF ix_m (pq_var (i:=4)) pq_int) (pqa_cons (pq_op nok_NL op_dAddN pq_int (pq_draw (ih:=0) fTake.mono GT (hr.mono (by decide)) dT.m dT.F.kp dT.b (pqa_cons pq_int pqa_nil))) pqa_nil))) sc_law_pairs.nd)) pbs_nil)
    (pbs_cons (pb_append (i:=2) (fun _=>(pq_var (i:=4))))
    (pbs_one (pb_if (pqt_cmp nok_NF (OpD.m (op_dEq hr.units)) (pq_draw (ih:=0) fTake.mono GT (hr.mono (by decide)) dT.m dT.F.kp dT.b (pqa_cons pq_int pqa_nil)) pq_int) (pbs_one (pb_append (i:=2) (fun _=>(pq_rev (pq_var (i:=4)))))) pbs_nil))))))
    (pbs_one (pb_retV (i:=2))))),fun ds R h=>?_⟩
 obtain ⟨fs,rfl,hf,hl,q⟩:=h
 have fl:0 < fs.length:=List.length_pos_iff.mpr hf
 refine ⟨Nat.zero_le _,trivial,?_⟩
 refine ⟨rfl,trivial,trivial,trivial,trivial,sz_le (by show 4≤1000; decide),trivial,rfl,trivial,rfl,trivial,4,rfl,by omega,by omega,fun r r0 r1=>pick r0 (by simpa using r1) fun d hd=>?_⟩
 obtain ⟨m,rfl,m0,m1⟩:∃ m:Int,d=.int m∧0 < m∧m≤150:=by
  simp only [List.mem_cons,List.not_mem_nil,or_false] at hd
  rcases hd with rfl | rfl | rfl | rfl
  ·exact ⟨3,rfl,by omega,by omega⟩
  ·exact ⟨8,rfl,by omega,by omega⟩
  ·exact ⟨41,rfl,by omega,by omega⟩
  ·exact ⟨150,rfl,by omega,by omega⟩
 refine ⟨trivial,rfl,trivial,m,rfl,m0,by omega,fun c c0 c1=>⟨trivial,c,rfl,by omega,by omega,trivial,?_⟩⟩
 refine ⟨fun i β=>i≤c.toNat∧∃ (ps:List (List Int)) (y3 y4:Option Q.B),β=[some (.hand okP),some (.val false (.lst (fs.map D.int))),some (.own (.lst (ps.map kD))),y3,y4]∧ps.length≤2 * i∧Pairs ps,⟨Nat.zero_le _,[],_,_,rfl,Nat.zero_le _,fun _ z=>(nomatch z)⟩,?_,?_⟩
 ·rintro i d β hd ⟨_,ps,y3,y4,rfl,h1,h2⟩
  obtain ⟨hi,rfl⟩:=rngD_get hd
  refine ⟨_,rfl,trivial,rfl,_,rfl,trivial,_,rfl,trivial,rfl,trivial,_,rfl,by rw [List.length_map]; omega,by rw [List.length_map]; omega,fun r r0 r1=>?_⟩
  rw [List.length_map] at r1
  obtain ⟨k,rfl⟩:∃ k:Nat,r=k:=⟨r.toNat,by omega⟩
  have hk:k < fs.length:=by omega
  refine ⟨.int fs[k],ixInt (i:=k) rfl (by rw [List.getElem?_map,List.getElem?_eq_getElem hk]; rfl),trivial,?_⟩
  refine ⟨_,rfl,trivial,rfl,_,rfl,trivial,_,rfl,trivial,rfl,trivial,_,rfl,by rw [List.length_map]; omega,by rw [List.length_map]; omega,fun r r0 r1=>?_⟩
  rw [List.length_map] at r1
  obtain ⟨k',rfl⟩:∃ k:Nat,r=k:=⟨r.toNat,by omega⟩
  have hk':k' < fs.length:=by omega
  refine ⟨.int fs[k'],ixInt (i:=k') rfl (by rw [List.getElem?_map,List.getElem?_eq_getElem hk']; rfl),trivial,sz2,?_⟩
  refine ⟨fun β=>∃ (a b:Int) (y3:Option Q.B),β=[some (.hand okP),some (.val false (.lst (fs.map D.int))),some (.own (.lst (ps.map kD))),y3,some (.val true (kD [a,b]))],?_,?_⟩
  ·refine ⟨rfl,trivial,rfl,trivial,8,rfl,by omega,by omega,fun r r0 r1=>⟨trivial,_,dEq_int _ _,_,rfl,ifD (fun _=>?_) (fun _=>⟨_,_,_,rfl⟩)⟩⟩
   exact ⟨_,rfl,trivial,_,rfl,trivial,trivial,rfl,trivial,rfl,trivial,3,rfl,by omega,by omega,fun r r0 r1=>⟨_,rfl,trivial,sz2,_,_,_,rfl⟩⟩
  ·rintro β ⟨a,b,y3,rfl⟩
   refine ⟨⟨_,rfl⟩,_,rfl,rfl,ps.map kD,rfl,by rw [List.length_map,sizeLine_eq]; omega,?_⟩
   have hp1:Pairs (ps++[[a,b]]):=fun u hu=>by
    rcases List.mem_append.mp hu with z | z
    ·exact h2 u z
    ·rw [List.mem_singleton.mp z]; exact ⟨_,_,rfl⟩
   refine ⟨rfl,trivial,rfl,trivial,4,rfl,by omega,by omega,fun r r0 r1=>⟨trivial,_,dEq_int _ _,_,rfl,ifD (fun _=>?_) (fun _=>⟨hi,ps++[[a,b]],_,_,by rw [snoc_kD]; rfl,by rw [List.length_append]; show ps.length+1≤_; omega,hp1⟩)⟩⟩
   refine ⟨⟨_,rfl⟩,_,rfl,kD [b,a],rfl,rfl,ps.map kD++[kD [a,b]],rfl,by rw [List.length_append,List.length_map,sizeLine_eq]; show ps.length+1 < _; omega,hi,ps++[[a,b]]++[[b,a]],_,_,by rw [snoc_kD,snoc_kD]; rfl,by rw [List.length_append,List.length_append]; show ps.length+1+1≤_; omega,fun u hu=>?_⟩
   rcases List.mem_append.mp hu with z | z
   ·exact hp1 u z
   ·rw [List.mem_singleton.mp z]; exact ⟨_,_,rfl⟩
 ·rintro β ⟨_,ps,y3,y4,rfl,h1,h2⟩
  rw [rngD_len] at h1
  exact ⟨_,rfl,rfl,q ps (by omega) h2⟩
theorem sc_law_gap:FnScope ["pot"] ["pot"] (defScope s_law_gap):=⟨rfl,rfl,rfl,by decide +kernel,rfl,by decide +kernel,by decide +kernel⟩
theorem ok_gap {fdGa:Addr} {fddGa:FuncData} (dGa:Df K mg "_law_gap" s_law_gap ["pot"] fdGa fddGa) {fdT:Addr} {fddT:FuncData} (dT:Df K mg "_law_take" s_law_take ["pot","many"] fdT fddT) (B:BsK mg):FnOk P w K mg base CX0 2 fdGa fddGa ["pot"] (spQH P w okP true fGap):=by
 have GT:FnOk P w K mg base CX0 1 _ _ _ (spQH P w okP true fTake):=ok_take dT.F
 refine okQH dGa.F sc_law_gap (fun ds R ⟨e,_⟩=>by subst e; rfl) fun cdv A outer s H E IO hr=>⟨_,(pbs_one (pb_ret (pq_ix nok_NF ix_m (pq_lst (pqa_cons pq_int (pqa_cons pq_int (pqa_cons pq_int (pqa_cons (pq_draw (ih:=0) fTake.mono GT (hr.mono (by decide)) dT.m dT.F.kp dT.b (pqa_cons pq_int pqa_nil)) (pqa_cons (pq_draw (ih:=0) fTake.mono GT (hr.mono (by decide)) dT.m dT.F.kp dT.b (pqa_cons (pq_op nok_NF (OpD.m op_dPow) pq_int pq_int) pqa_nil)) (pqa_cons pq_int pqa_nil))))))) (pq_draw (ih:=0) fTake.mono GT (hr.mono (by decide)) dT.m dT.F.kp dT.b (pqa_cons pq_int pqa_nil))))),fun ds R h=>?_⟩
 obtain ⟨rfl,q⟩:=h
 refine ⟨trivial,trivial,trivial,rfl,trivial,rfl,trivial,26,rfl,by omega,by omega,fun x x0 x1=>⟨trivial,?_⟩⟩
 refine ⟨rfl,trivial,_,dPow29,trivial,rfl,trivial,10 ^ 29,rfl,by decide,by decide,fun y y0 y1=>⟨trivial,trivial,sz_le (by show 6≤1000; decide),trivial,?_⟩⟩
 refine ⟨rfl,trivial,rfl,trivial,6,rfl,by omega,by omega,fun r r0 r1=>pick r0 (by simpa using r1) fun d hd=>?_⟩
 obtain ⟨g,rfl,g0⟩:∃ g:Int,d=.int g∧0≤g:=by
  simp only [List.mem_cons,List.not_mem_nil,or_false] at hd
  rcases hd with rfl | rfl | rfl | rfl | rfl | rfl
  ·exact ⟨0,rfl,by omega⟩
  ·exact ⟨1,rfl,by omega⟩
  ·exact ⟨2,rfl,by omega⟩
  ·exact ⟨x,rfl,x0⟩
  ·exact ⟨y,rfl,y0⟩
  ·exact ⟨3,rfl,by omega⟩
 exact ⟨trivial,rfl,q g g0⟩
end
end K30
end

noncomputable section
set_option Elab.async false
set_option linter.all false
set_option maxRecDepth 100000
namespace L2.Q
open PySem
theorem valK_rep {b:Bool} {t:List Int}:∀ {ts:List (List Int)},(valK (ts.map iK) (List.replicate ts.length (.bl b)) (iK t)).isSome=decide (t ∈ ts)
 | []=>by simp [valK]
 | u::ts=>by
  have ih:=valK_rep (b:=b) (t:=t) (ts:=ts)
  unfold valK at *
  rw [List.map_cons,List.length_cons,List.replicate_succ,List.zip_cons_cons,List.find?_cons]
  by_cases h:u=t
  ·rw [decide_eq_true (congrArg iK h)]
   simp [h]
  ·rw [decide_eq_false (fun z=>h (iK_inj z))]
   simp only [ih]
   have:(t ∈ u::ts) ↔ t ∈ ts:=by simp [Ne.symm h]
   exact decide_eq_decide.mpr this.symm
theorem dInT_P {ts:List (List Int)} {b:Bool} {t:List Int}:dInT (kD t) (dP ts b)=some (.bl (decide (t ∈ ts))):=by
 unfold dInT
 have e:dKey (dP ts b) (kD t)=some ((ts.map iK,List.replicate ts.length (.bl b)),t):=by
  show (some _).bind (fun p=>(some (t.map D.int)).bind fun es=>(dInts es).map fun t=>(p,t))=_
  rw [Option.bind_some,Option.bind_some,dInts_map]
  rfl
 rw [e,Option.map_some,valK_rep]
theorem mem_addT {ts:List (List Int)} {t u:List Int}:u ∈ addT ts t ↔ u ∈ ts∨u=t:=by
 unfold addT
 split
 ·next h=>exact ⟨.inl,fun z=>z.elim id fun z=>by rw [z]; exact h⟩
 ·rw [List.mem_append,List.mem_singleton]
theorem mem_fold {t:List Int}:∀ {ts acc:List (List Int)},t ∈ ts.foldl addT acc ↔ t ∈ acc∨t ∈ ts
 | [],acc=>by simp
 | u::ts,acc=>by
  rw [List.foldl_cons,mem_fold,mem_addT,List.mem_cons]
  constructor
  ·rintro ((h | h) | h)
   ·exact .inl h
   ·exact .inr (.inl h)
   ·exact .inr (.inr h)
  ·rintro (h | h | h)
   ·exact .inl (.inl h)
   ·exact .inl (.inr h)
   ·exact .inr h
def ew1 (acc:List (List Int)) (t:List Int):List (List Int):=addT (addT acc t) t.reverse
def eW (ps:List (List Int)):List (List Int):=ps.foldl ew1 []
theorem eW_snoc {ps:List (List Int)} {t:List Int}:eW (ps++[t])=ew1 (eW ps) t:=by unfold eW; rw [List.foldl_append]; rfl
theorem addT_len {ts:List (List Int)} {t:List Int}:(addT ts t).length≤ts.length+1:=by unfold addT; split <;> simp
theorem eW_len:∀ {ps acc:List (List Int)},(ps.foldl ew1 acc).length≤acc.length+2 * ps.length
 | [],acc=>by simp
 | t::ps,acc=>by
  rw [List.foldl_cons,List.length_cons]
  have h1:=eW_len (ps:=ps) (acc:=ew1 acc t)
  have h2:(ew1 acc t).length≤acc.length+2:=by
   unfold ew1
   have h3:=addT_len (ts:=addT acc t) (t:=t.reverse)
   have h4:=addT_len (ts:=acc) (t:=t)
   omega
  omega
theorem mem_eW' {u:List Int}:∀ {ps acc:List (List Int)},u ∈ ps.foldl ew1 acc ↔ u ∈ acc∨u ∈ ps∨u.reverse ∈ ps
 | [],acc=>by simp
 | t::ps,acc=>by
  rw [List.foldl_cons,mem_eW',List.mem_cons,List.mem_cons]
  unfold ew1
  rw [mem_addT,mem_addT]
  have e:u=t.reverse ↔ u.reverse=t:=⟨fun h=>by rw [h,List.reverse_reverse],fun h=>by rw [← h,List.reverse_reverse]⟩
  rw [e]
  constructor
  ·rintro (((h | h) | h) | h | h)
   ·exact .inl h
   ·exact .inr (.inl (.inl h))
   ·exact .inr (.inr (.inl h))
   ·exact .inr (.inl (.inr h))
   ·exact .inr (.inr (.inr h))
  ·rintro (h | (h | h) | (h | h))
   ·exact .inl (.inl (.inl h))
   ·exact .inl (.inl (.inr h))
   ·exact .inr (.inl h)
   ·exact .inl (.inr h)
   ·exact .inr (.inr h)
theorem mem_eW {ps:List (List Int)} {a b:Int}:[a,b] ∈ eW ps ↔ [a,b] ∈ ps∨[b,a] ∈ ps:=by
 unfold eW
 rw [mem_eW']
 simp
def fitB (ks:List Int) (ps:List (List Int)) (a b:Nat):Bool:=decide ([ks.getD a 0,ks.getD b 0] ∈ ps) || decide ([ks.getD b 0,ks.getD a 0] ∈ ps)
theorem fit_eW {ks:List Int} {ps:List (List Int)} {a b:Nat}:decide ([ks.getD a 0,ks.getD b 0] ∈ eW ps)=fitB ks ps a b:=by
 unfold fitB
 rw [← Bool.decide_or]
 exact decide_eq_decide.mpr mem_eW
def okK (ks:List Int) (ps:List (List Int)) (g:Int) (a b:Nat):Bool:=decide (g < (b:Int) - (a:Int)) && fitB ks ps a b
def rowK (n:Nat) (ok:Nat→Nat→Bool) (a:Nat):List (Nat × Nat):=((List.range (n - (a+1))).filter fun k=>ok a (a+1+k)).map fun k=>(a,a+1+k)
def tK (ks:List Int) (ps:List (List Int)) (g:Int):List (Nat × Nat):=(List.range ks.length).flatMap (rowK ks.length (okK ks ps g))
theorem rowK_len {n:Nat} {ok:Nat→Nat→Bool} {a:Nat}:(rowK n ok a).length≤n:=by
 unfold rowK
 rw [List.length_map]
 exact Nat.le_trans (List.length_filter_le _ _) (by rw [List.length_range]; omega)
theorem tK_take_len {n m:Nat} {ok:Nat→Nat→Bool}:(((List.range n).take m).flatMap (rowK n ok)).length≤m * n:=by
 induction m with
 | zero=>simp
 | succ m ih =>
  rw [List.take_add_one,List.flatMap_append,List.length_append,Nat.succ_mul]
  refine Nat.add_le_add ih ?_
  cases h:(List.range n)[m]? with
  | none=>simp
  | some x=>simp [rowK_len]
def pK (n:Nat) (ok:Nat→Nat→Bool) (a b:Nat):List (Nat × Nat):=((List.range n).take a).flatMap (rowK n ok)++(((List.range (n - (a+1))).take b).filter fun k=>ok a (a+1+k)).map fun k=>(a,a+1+k)
theorem pK_zero {n:Nat} {ok:Nat→Nat→Bool} {a:Nat}:pK n ok a 0=((List.range n).take a).flatMap (rowK n ok):=by unfold pK; simp
theorem pK_step {n:Nat} {ok:Nat→Nat→Bool} {a b:Nat} (hb:b < n - (a+1)):pK n ok a (b+1)=pK n ok a b++(if ok a (a+1+b)=true then [(a,a+1+b)] else []):=by
 unfold pK
 have et:(List.range (n - (a+1))).take (b+1)=(List.range (n - (a+1))).take b++[b]:=by rw [List.take_add_one,List.getElem?_range hb]; rfl
 rw [et,List.filter_append,List.map_append,List.append_assoc,List.filter_cons]
 by_cases h:ok a (a+1+b)=true
 ·rw [if_pos h,if_pos h]; rfl
 ·rw [if_neg h,if_neg h]; rfl
theorem pK_yes {n:Nat} {ok:Nat→Nat→Bool} {a b:Nat} (hb:b < n - (a+1)) (h:ok a (a+1+b)=true):pK n ok a (b+1)=pK n ok a b++[(a,a+1+b)]:=by rw [pK_step hb,if_pos h]
theorem pK_no {n:Nat} {ok:Nat→Nat→Bool} {a b:Nat} (hb:b < n - (a+1)) (h:ok a (a+1+b)=false):pK n ok a (b+1)=pK n ok a b:=by rw [pK_step hb,if_neg (by rw [h]; exact Bool.false_ne_true),List.append_nil]
theorem pK_end {n:Nat} {ok:Nat→Nat→Bool} {a:Nat} (ha:a < n):pK n ok a (n - (a+1))=((List.range n).take (a+1)).flatMap (rowK n ok):=by
 unfold pK
 rw [List.take_of_length_le (l:=List.range (n - (a+1))) (by simp),List.take_add_one,List.getElem?_range ha,List.flatMap_append]
 simp [rowK]
theorem pK_len {n:Nat} {ok:Nat→Nat→Bool} {a b:Nat}:(pK n ok a b).length≤a * n+b:=by
 unfold pK
 rw [List.length_append,List.length_map]
 have l1:=tK_take_len (n:=n) (m:=a) (ok:=ok)
 have l2:=List.length_filter_le (fun k=>ok a (a+1+k)) ((List.range (n - (a+1))).take b)
 rw [List.length_take,List.length_range] at l2
 omega
theorem pK_size {n:Nat} {ok:Nat→Nat→Bool} {a b:Nat} (hn:n≤30) (ha:a < n) (hb:b < n - (a+1)):(pK n ok a b).length≤1000:=by
 have h1:=pK_len (n:=n) (ok:=ok) (a:=a) (b:=b)
 have h2:a * n≤30 * 30:=Nat.mul_le_mul (by omega) hn
 omega
theorem pK_all {ks:List Int} {ps:List (List Int)} {g:Int}:((List.range ks.length).take ks.length).flatMap (rowK ks.length (okK ks ps g))=tK ks ps g:=by rw [List.take_of_length_le (by simp)]; rfl
theorem snoc_tI {l:List (Nat × Nat)} {p:Nat × Nat}:(l++[p]).map (fun p=>kD (tI p))=l.map (fun p=>kD (tI p))++[kD (tI p)]:=by rw [List.map_append]; rfl
theorem flat_pr {t:List Int}:(prD1 t).flat=true:=by
 show D.flats [kD t,.bl true]=true
 show (D.flat (kD t) && D.flats [.bl true])=true
 rw [flat_kD]
 rfl
theorem both_nil {ks:List Int} {ps:List (List Int)} {a b:Nat}:(([[ks.getD a 0,ks.getD b 0],[ks.getD b 0,ks.getD a 0]].filter fun t=>decide (t ∈ ps.foldl addT []))=[]) ↔ fitB ks ps a b=false:=by
 rw [List.filter_eq_nil_iff]
 unfold fitB
 simp [mem_fold]
def fEW:FD:=fun ds R=>∃ ps:List (List Int),ds=[.lst (ps.map kD)]∧ps.length≤300∧Pairs ps∧R (dP (eW ps) true)
theorem fEW.mono:Mono fEW:=fun ds R R' k h=>by obtain ⟨ps,e,h1,h2,q⟩:=h; exact ⟨ps,e,h1,h2,k _ q⟩
def fChkG:FD:=fun ds R=>∃ g:Int,ds=[.int g]∧0≤g∧R .non
theorem fChkG.mono:Mono fChkG:=fun ds R R' k h=>by obtain ⟨g,e,h1,q⟩:=h; exact ⟨g,e,h1,k _ q⟩
def fRok:FD:=fun ds R=>∃ (ks:List Int) (ps:List (List Int)) (g:Int),ds=[.lst (ks.map D.int),.lst (ps.map kD),.int g]∧ks.length≤30∧ps.length≤300∧Pairs ps∧0≤g∧R (rwD ks.length (tK ks ps g))
theorem fRok.mono:Mono fRok:=fun ds R R' k h=>by obtain ⟨ks,ps,g,e,h1,h2,h3,h4,q⟩:=h; exact ⟨ks,ps,g,e,h1,h2,h3,h4,k _ q⟩
def fTiesL:FD:=fun ds R=>∃ (ks:List Int) (ps:List (List Int)) (g:Int),ds=[.lst (ks.map D.int),.lst (ps.map kD),.int g]∧ks.length≤30∧ps.length≤300∧Pairs ps∧0≤g∧R (tsD (tK ks ps g))
theorem fTiesL.mono:Mono fTiesL:=fun ds R R' k h=>by obtain ⟨ks,ps,g,e,h1,h2,h3,h4,q⟩:=h; exact ⟨ks,ps,g,e,h1,h2,h3,h4,k _ q⟩
theorem ixKs {ks:List Int} {a:Nat} {x:Int} (hx:x=(a:Int)) (h:a < ks.length):dIx (.lst (ks.map D.int)) (.int x)=some (.int (ks.getD a 0)) :=
 ixInt (i:=a) hx (by rw [List.getElem?_map,List.getElem?_eq_getElem h,List.getD_eq_getElem?_getD,List.getElem?_eq_getElem h]; rfl)
theorem dp_rw {n:Nat} {ps:List (Nat × Nat)} (h:ps.length≤1000):Dp 3 (rwD n ps):=by
 refine .tup (by show 2≤1000; decide) fun x hx=>?_
 rcases List.mem_cons.mp hx with rfl | hx
 ·exact .int
 ·rw [List.mem_singleton.mp hx]
  refine .lst (by rw [List.length_map]; exact h) fun y hy=>?_
  obtain ⟨p,_,rfl⟩:=List.mem_map.mp hy
  exact .kD (by show 2≤1000; decide)
theorem small_kp (ks:List Int) (ps:List (List Int)):(D.lst [.lst (ks.map D.int),.lst (ps.map kD)]).pd.canLay0=true∧(D.lst [.lst (ks.map D.int),.lst (ps.map kD)]).pd.depth≤4:=small_lst fun d hd=>by
 rcases List.mem_cons.mp hd with rfl | hd
 ·exact ⟨(small_ints ks).1,Nat.le_trans (small_ints ks).2 (by decide)⟩
 ·rw [List.mem_singleton.mp hd]; exact small_ties ps
end L2.Q
end

noncomputable section
set_option Elab.async false
set_option linter.all false
set_option maxRecDepth 100000
set_option maxHeartbeats 4000000
namespace K30
open PySem L2 L2.Q
section
variable {P:Program} {w:World} {K:PySem.W.Frag} {mg:Str→Option Value} {base:Heap}
theorem sc_check_gap:FnScope ["gap"] ["gap"] (defScope s_check_gap):=⟨rfl,rfl,rfl,by decide +kernel,rfl,by decide +kernel,by decide +kernel⟩
theorem ok_chkG {fdCg:Addr} {fddCg:FuncData} (dCg:Df K mg "check_gap" s_check_gap ["gap"] fdCg fddCg):FnOk P w K mg base CX0 1 fdCg fddCg ["gap"] (spQ P w true fChkG):=by
 refine okQ dCg.F sc_check_gap (fun ds R ⟨g,e,_⟩=>by subst e; rfl) fun cdv A outer s H E hr=>⟨_,(pbs_one (pb_if (pqt_cmp nok_NF (OpD.m op_dLt) (pq_var (i:=0)) pq_int) pbs_never pbs_nil)),fun ds R h=>?_⟩
 obtain ⟨g,rfl,g0,q⟩:=h
 exact ⟨_,rfl,trivial,_,rfl,_,rfl,ifF (decide_eq_false (by omega)) q⟩
theorem sc_pairs_either_way:FnScope ["pairs","fits","one","other"] ["pairs"] (defScope s_pairs_either_way):=⟨rfl,rfl,rfl,by decide +kernel,rfl,by decide +kernel,by decide +kernel⟩
theorem ok_ew {fdEw:Addr} {fddEw:FuncData} (dEw:Df K mg "pairs_either_way" s_pairs_either_way ["pairs"] fdEw fddEw):FnOk P w K mg base CX0 1 fdEw fddEw ["pairs"] (spQ P w true fEW):=by
 refine okQ dEw.F sc_pairs_either_way (fun ds R ⟨ps,e,_⟩=>by subst e; rfl) fun cdv A outer s H E hr=>⟨_,(pbs_cons (pb_setO (i:=1) (fun _=>(pq_dnew true)) sc_pairs_either_way.nd)
    (pbs_cons (pb_for PassesOwn.never rfl (pqi_list (pq_var (i:=0))) (pbg_tup (n:=2) rfl (pbgs_cons (pbg_name (i:=2) sc_pairs_either_way.nd) (pbgs_cons (pbg_name (i:=3) sc_pairs_either_way.nd) pbgs_nil))) (pbs_cons (pb_dadd (i:=1) hr.units1 (pq_tup (pqa_cons (pq_var (i:=2)) (pqa_cons (pq_var (i:=3)) pqa_nil))))
    (pbs_one (pb_dadd (i:=1) hr.units1 (pq_tup (pqa_cons (pq_var (i:=3)) (pqa_cons (pq_var (i:=2)) pqa_nil)))))))
    (pbs_one (pb_retV (i:=1))))),fun ds R h=>?_⟩
 obtain ⟨ps,rfl,hl,hp,q⟩:=h
 refine ⟨trivial,_,rfl,_,rfl,trivial,?_⟩
 refine ⟨fun i β=>i≤ps.length∧∃ y2 y3:Option Q.B,β=[some (.val false (.lst (ps.map kD))),some (.own (dP (eW (ps.take i)) true)),y2,y3],⟨Nat.zero_le _,_,_,rfl⟩,?_,?_⟩
 ·rintro i d β hd ⟨_,y2,y3,rfl⟩
  rw [List.getElem?_map] at hd
  obtain ⟨t,et,rfl⟩:=Option.map_eq_some_iff.mp hd
  have hi:i < ps.length:=(List.getElem?_eq_some_iff.mp et).1
  obtain ⟨a,b,rfl⟩:=hp t (List.mem_of_getElem? et)
  have l1:=eW_len (ps:=ps.take i) (acc:=[])
  rw [List.length_take] at l1
  have l2:=addT_len (ts:=eW (ps.take i)) (t:=[a,b])
  have e2:eW (ps.take (i+1))=addT (addT (eW (ps.take i)) [a,b]) [b,a]:=by
   rw [List.take_add_one,et]
   exact eW_snoc
  refine ⟨_,rfl,rfl,_,_,rfl,_,_,rfl,rfl,?_⟩
  refine ⟨⟨_,rfl⟩,_,rfl,trivial,_,rfl,trivial,sz2,_,[a,b],rfl,rfl,Nat.lt_of_le_of_lt (show (eW (ps.take i)).length≤1000 by unfold eW; simp at l1; omega) (by decide),?_⟩
  exact ⟨⟨_,rfl⟩,_,rfl,trivial,_,rfl,trivial,sz2,_,[b,a],rfl,rfl,Nat.lt_of_le_of_lt (show (addT (eW (ps.take i)) [a,b]).length≤1000 by unfold eW at *; simp at l1; omega) (by decide),hi,_,_,by rw [e2]; rfl⟩
 ·rintro β ⟨_,y2,y3,rfl⟩
  rw [List.length_map,List.take_length]
  exact ⟨_,rfl,q⟩
theorem sc_row_of_kinds:FnScope ["kinds","pairs","gap","fits","many","ties"] ["kinds","pairs","gap"] (defScope s_row_of_kinds):=⟨rfl,rfl,rfl,by decide +kernel,rfl,by decide +kernel,by decide +kernel⟩
theorem ok_rok {fdRk:Addr} {fddRk:FuncData} (dRk:Df K mg "row_of_kinds" s_row_of_kinds ["kinds","pairs","gap"] fdRk fddRk) {fdCg:Addr} {fddCg:FuncData} (dCg:Df K mg "check_gap" s_check_gap ["gap"] fdCg fddCg) {fdEw:Addr} {fddEw:FuncData} (dEw:Df K mg "pairs_either_way" s_pairs_either_way ["pairs"] fdEw fddEw) (B:BsK mg):FnOk P w K mg base CX0 2 fdRk fddRk ["kinds","pairs","gap"] (spQ P w true fRok):=by
 have GCg:FnOk P w K mg base CX0 1 _ _ _ (spQ P w true fChkG):=ok_chkG dCg
 have GEw:FnOk P w K mg base CX0 1 _ _ _ (spQ P w true fEW):=ok_ew dEw
 refine okQ dRk.F sc_row_of_kinds (fun ds R ⟨ks,ps,g,e,_⟩=>by subst e; rfl) fun cdv A outer s H E hr=>⟨_,(pbs_cons (pb_expr (pq_call fChkG.mono GCg (hr.mono (by decide)) dCg.m dCg.F.kp dCg.b (pqa_cons (pq_var (i:=2)) pqa_nil)))
    (pbs_cons (pb_set (i:=3) (pq_call fEW.mono GEw (hr.mono (by decide)) dEw.m dEw.F.kp dEw.b (pqa_cons (pq_var (i:=1)) pqa_nil)) sc_row_of_kinds.nd)
    (pbs_cons (pb_set (i:=4) (pq_callB nok_NF (CallD.m call_dLen) B.len bt_len (pqa_cons (pq_var (i:=0)) pqa_nil)) sc_row_of_kinds.nd)
    (pbs_cons (sLcB (i:=5) true ["a","b","gap","fits","kinds","many"] [none,none,some 2,some 3,some 0,some 4] (by rfl) (by decide:(["a","b","gap","fits","kinds","many"]:List Str).Nodup) rfl (fun _=>(pqi_range1 B.range (pqa_cons (pq_var (i:=4)) pqa_nil))) (fun _ _ _ _ _ _=>(pbg_name (i:=0) (by decide:(["a","b","gap","fits","kinds","many"]:List Str).Nodup))) (fun _ _ _ _ _ _=>ts_nil) (fun _ _ _ _ _ _=>(pqn_range2 B.range (pqa_cons (pq_op nok_NL op_dAddN (pq_var (i:=0)) pq_int) (pqa_cons (pq_var (i:=5)) pqa_nil)))) (fun _ _ _ _ _ _=>(pbg_name (i:=1) (by decide:(["a","b","gap","fits","kinds","many"]:List Str).Nodup))) (fun _ _ _ _ _ _=>(ts_one (PQW.t (pqw_and (pqt_cmp nok_NF (OpD.m op_dGt) (pq_op nok_NF (OpD.m op_dSub) (pq_var (i:=1)) (pq_var (i:=0))) (pq_var (i:=2))) (pqw_and1 (pqt_cmp nok_NF (OpD.m (op_dInT hr.units1)) (pq_tup (pqa_cons (pq_ix nok_NF ix_m (pq_var (i:=4)) (pq_var (i:=0))) (pqa_cons (pq_ix nok_NF ix_m (pq_var (i:=4)) (pq_var (i:=1))) pqa_nil))) (pq_var (i:=3)))))))) (fun _ _ _ _ _ _=>(pq_tup (pqa_cons (pq_var (i:=0)) (pqa_cons (pq_var (i:=1)) pqa_nil)))) sc_row_of_kinds.nd)
    (pbs_one (pb_retP (i:=5) (pq_var (i:=4)))))))),fun ds R h=>?_⟩
 obtain ⟨ks,ps,g,rfl,hk,hl,hp,g0,q⟩:=h
 refine ⟨_,rfl,trivial,g,rfl,g0,_,rfl,trivial,ps,rfl,hl,hp,_,rfl,trivial,_,rfl,?_⟩
 refine ⟨_,rfl,trivial,_,rfl,by rw [List.length_map]; omega,by rw [List.length_map]; omega,trivial,?_⟩
 rw [List.length_map,Int.toNat_natCast]
 refine ⟨fun a β o=>a≤ks.length∧(∃ y0 y1:Option Q.B,β=[y0,y1,some (.val false (.int g)),some (.val true (dP (eW ps) true)),some (.val false (.lst (ks.map D.int))),some (.val true (.int ks.length))])∧o=(((List.range ks.length).take a).flatMap (rowK ks.length (okK ks ps g))).map fun p=>kD (tI p),⟨Nat.zero_le _,⟨_,_,rfl⟩,rfl⟩,?_,?_⟩
 ·rintro a d β o hd ⟨_,⟨y0,y1,rfl⟩,rfl⟩
  obtain ⟨ha,rfl⟩:=rngD_get hd
  rw [Int.zero_add]
  refine ⟨_,rfl,trivial,_,rfl,trivial,_,rfl,trivial,(a:Int)+1,(ks.length:Int),rfl,⟨by omega,by omega,by omega,by omega⟩,?_⟩
  rw [show ((ks.length:Int) - ((a:Int)+1)).toNat=ks.length - (a+1) by omega]
  refine ⟨fun b β o=>b≤ks.length - (a+1)∧(∃ y1:Option Q.B,β=[some (.val true (.int (a:Int))),y1,some (.val false (.int g)),some (.val true (dP (eW ps) true)),some (.val false (.lst (ks.map D.int))),some (.val true (.int ks.length))])∧o=(pK ks.length (okK ks ps g) a b).map fun p=>kD (tI p),⟨Nat.zero_le _,⟨_,rfl⟩,by rw [pK_zero]⟩,?_,?_⟩
  ·rintro b d β o hd ⟨_,⟨y1,rfl⟩,rfl⟩
   obtain ⟨hb,rfl⟩:=rngD_get hd
   have eb:(a:Int)+1+(b:Int)=((a+1+b:Nat):Int):=by omega
   rw [eb]
   refine ⟨_,rfl,trivial,_,rfl,_,rfl,trivial,_,rfl,_,rfl,_,rfl,ifD (fun h1=>?_) (fun h1=>ifF rfl ⟨hb,⟨_,rfl⟩,by rw [pK_no hb (by unfold okK; rw [decide_eq_false (by omega)]; rfl)]⟩)⟩
   refine ⟨_,rfl,trivial,_,rfl,_,ixKs rfl ha,trivial,_,rfl,trivial,_,rfl,_,ixKs rfl (by omega),trivial,sz2,trivial,_,rfl,_,dInT_P (t:=[ks.getD a 0,ks.getD (a+1+b) 0]),_,rfl,?_⟩
   rw [fit_eW]
   refine ifB (fun h2=>?_) (fun h2=>⟨hb,⟨_,rfl⟩,by rw [pK_no hb (by unfold okK; rw [h2,Bool.and_false])]⟩)
   refine ⟨_,rfl,trivial,_,rfl,trivial,sz2,trivial,by rw [List.length_map]; exact Nat.lt_of_le_of_lt (pK_size hk ha hb) (by decide),hb,⟨_,rfl⟩,?_⟩
   rw [pK_yes hb (by unfold okK; rw [h2,decide_eq_true (by omega)]; rfl),snoc_tI]
   rfl
  ·rintro β o ⟨_,⟨y1,rfl⟩,rfl⟩
   exact ⟨ha,⟨_,_,rfl⟩,by rw [rngD_len,pK_end ha]⟩
 ·rintro β o ⟨_,⟨y0,y1,rfl⟩,rfl⟩
  rw [rngD_len,pK_all]
  exact ⟨trivial,_,rfl,rfl,_,rfl,q⟩
theorem sc_law_ties:FnScope ["kinds","pairs","gap","found","let","a","b","both"] ["kinds","pairs","gap"] (defScope s_law_ties):=⟨rfl,rfl,rfl,by decide +kernel,rfl,by decide +kernel,by decide +kernel⟩
theorem ok_tiesL {fdTl:Addr} {fddTl:FuncData} (dTl:Df K mg "_law_ties" s_law_ties ["kinds","pairs","gap"] fdTl fddTl) (B:BsK mg):FnOk P w K mg base CX0 1 fdTl fddTl ["kinds","pairs","gap"] (spQ P w true fTiesL):=by
 refine okQ dTl.F sc_law_ties (fun ds R ⟨ks,ps,g,e,_⟩=>by subst e; rfl) fun cdv A outer s H E hr=>⟨_,(pbs_cons (pb_setO (i:=3) (fun _=>(pq_lst pqa_nil)) sc_law_ties.nd)
    (pbs_cons (pb_set (i:=4) (pq_callTy nok_NF (CallD.m (call_dDict rfl hr.units2)) B.dict bt_dict (pqa_cons (lcA ["pair"] [none] (by rfl) (by decide:(["pair"]:List Str).Nodup) rfl (pqi_list (pq_var (i:=1))) (fun _ _ _ _ _ _=>(pbg_name (i:=0) (by decide:(["pair"]:List Str).Nodup))) (fun _ _ _ _ _ _=>ts_nil) (fun _ _ _ _ _ _=>(pq_tup (pqa_cons (pq_var (i:=0)) (pqa_cons pq_bl pqa_nil))))) pqa_nil)) sc_law_ties.nd)
    (pbs_cons (pb_for PassesOwn.never rfl (pqi_range1 B.range (pqa_cons (pq_callB nok_NF (CallD.m call_dLen) B.len bt_len (pqa_cons (pq_var (i:=0)) pqa_nil)) pqa_nil)) (pbg_name (i:=5) sc_law_ties.nd) (pbs_one (pb_for PassesOwn.never rfl (pqi_range2 B.range (pqa_cons (pq_op nok_NL op_dAddN (pq_var (i:=5)) pq_int) (pqa_cons (pq_callB nok_NF (CallD.m call_dLen) B.len bt_len (pqa_cons (pq_var (i:=0)) pqa_nil)) pqa_nil))) (pbg_name (i:=6) sc_law_ties.nd) (pbs_cons (pb_set (i:=7) (pq_lst (pqa_cons (pq_tup (pqa_cons (pq_ix nok_NF ix_m (pq_var (i:=0)) (pq_var (i:=5))) (pqa_cons (pq_ix nok_NF ix_m (pq_var (i:=0)) (pq_var (i:=6))) pqa_nil))) (pqa_cons (pq_tup (pqa_cons (pq_ix nok_NF ix_m (pq_var (i:=0)) (pq_var (i:=6))) (pqa_cons (pq_ix nok_NF ix_m (pq_var (i:=0)) (pq_var (i:=5))) pqa_nil))) pqa_nil))) sc_law_ties.nd)
    (pbs_one (pb_if (PQW.t (pqw_and (pqt_cmp nok_NF (OpD.m op_dGe) (pq_op nok_NF (OpD.m op_dSub) (pq_op nok_NF (OpD.m op_dSub) (pq_var (i:=6)) (pq_var (i:=5))) pq_int) (pq_var (i:=2))) (pqw_and1 (pqt_cmp nok_NF (OpD.m (op_dNe hr.units)) (lcA ["pair","let"] [none,some 4] (by rfl) (by decide:(["pair","let"]:List Str).Nodup) rfl (pqi_list (pq_var (i:=7))) (fun _ _ _ _ _ _=>(pbg_name (i:=0) (by decide:(["pair","let"]:List Str).Nodup))) (fun _ _ _ _ _ _=>(ts_one (pqt_cmp nok_NF (OpD.m (op_dInT hr.units1)) (pq_var (i:=0)) (pq_var (i:=1))))) (fun _ _ _ _ _ _=>(pq_var (i:=0)))) (pq_lst pqa_nil))))) (pbs_one (pb_append (i:=3) (fun _=>(pq_tup (pqa_cons (pq_var (i:=5)) (pqa_cons (pq_var (i:=6)) pqa_nil)))))) pbs_nil))))))
    (pbs_one (pb_retV (i:=3)))))),fun ds R h=>?_⟩
 obtain ⟨ks,ps,g,rfl,hk,hl,hp,g0,q⟩:=h
 refine ⟨Nat.zero_le _,trivial,?_⟩
 refine ⟨_,rfl,_,rfl,trivial,?_⟩
 refine loop1A (fun _=>true) (fun t=>prD1 t) trivial (by rw [sizeLine_eq]; omega) (fun t ht x0 o J ho j1 j2=>?_) ?_
 ·exact ⟨_,rfl,trivial,trivial,sz2,.inr ⟨flat_pr,ho,j1 rfl _⟩⟩
 rw [filter_true]
 refine ⟨trivial,_,dDictP_of ps,.inr ?_⟩
 refine ⟨_,rfl,trivial,_,rfl,trivial,_,rfl,by rw [List.length_map]; omega,by rw [List.length_map]; omega,trivial,?_⟩
 rw [List.length_map,Int.toNat_natCast]
 refine ⟨fun a β=>a≤ks.length∧∃ y5 y6 y7:Option Q.B,β=[some (.val false (.lst (ks.map D.int))),some (.val false (.lst (ps.map kD))),some (.val false (.int g)),some (.own (tsD (((List.range ks.length).take a).flatMap (rowK ks.length (okK ks ps g))))),some (.val true (dP (ps.foldl addT []) true)),y5,y6,y7],⟨Nat.zero_le _,_,_,_,rfl⟩,?_,?_⟩
 ·rintro a d β hd ⟨_,y5,y6,y7,rfl⟩
  obtain ⟨ha,rfl⟩:=rngD_get hd
  rw [Int.zero_add]
  refine ⟨_,rfl,trivial,_,rfl,trivial,_,rfl,trivial,_,rfl,trivial,(a:Int)+1,(ks.length:Int),by rw [List.length_map],⟨by omega,by omega,by omega,by omega⟩,trivial,?_⟩
  rw [show ((ks.length:Int) - ((a:Int)+1)).toNat=ks.length - (a+1) by omega]
  refine ⟨fun b β=>b≤ks.length - (a+1)∧∃ y6 y7:Option Q.B,β=[some (.val false (.lst (ks.map D.int))),some (.val false (.lst (ps.map kD))),some (.val false (.int g)),some (.own (tsD (pK ks.length (okK ks ps g) a b))),some (.val true (dP (ps.foldl addT []) true)),some (.val true (.int (a:Int))),y6,y7],⟨Nat.zero_le _,_,_,by rw [pK_zero]; rfl⟩,?_,?_⟩
  ·rintro b d β hd ⟨_,y6,y7,rfl⟩
   obtain ⟨hb,rfl⟩:=rngD_get hd
   have eb:(a:Int)+1+(b:Int)=((a+1+b:Nat):Int):=by omega
   rw [eb]
   have i1:=ixKs (x:=(a:Int)) rfl ha
   have i2:=ixKs (ks:=ks) (a:=a+1+b) (x:=((a+1+b:Nat):Int)) rfl (by omega)
   refine ⟨_,rfl,trivial,_,rfl,_,i1,trivial,_,rfl,trivial,_,rfl,_,i2,trivial,sz2,trivial,_,rfl,trivial,_,rfl,_,i2,trivial,_,rfl,trivial,_,rfl,_,i1,trivial,sz2,trivial,sz2,?_⟩
   refine ⟨_,rfl,trivial,_,rfl,_,rfl,trivial,_,rfl,trivial,_,rfl,_,rfl,_,rfl,ifD (fun h1=>?_) (fun h1=>ifF rfl ⟨hb,_,_,by rw [pK_no hb (by unfold okK; rw [decide_eq_false (by omega)]; rfl)]; rfl⟩)⟩
   refine ⟨_,rfl,_,rfl,trivial,?_⟩
   refine loop1A (l:=[[ks.getD a 0,ks.getD (a+1+b) 0],[ks.getD (a+1+b) 0,ks.getD a 0]]) (f:=kD) (fun t=>decide (t ∈ ps.foldl addT [])) (fun t=>kD t) trivial (by show 2≤sizeLine; decide) (fun t ht x0 o J ho j1 j2=>?_) ?_
   ·exact ⟨_,rfl,trivial,_,rfl,_,dInT_P,_,rfl,ifD (fun h=>⟨_,rfl,flat_kD _,ho,j1 (decide_eq_true h) _⟩) (fun h=>j2 (decide_eq_false h) _)⟩
   ·refine ⟨trivial,Nat.zero_le _,_,dNe_ties _ [],_,rfl,?_⟩
    have ef:fitB ks ps a (a+1+b)=true→okK ks ps g a (a+1+b)=true:=fun h=>by unfold okK; rw [h,decide_eq_true (by omega)]; rfl
    refine ifN (fun hne=>?_) (fun he=>⟨hb,_,_,by rw [pK_no hb (by unfold okK; rw [both_nil.mp he,Bool.and_false])]; rfl⟩)
    have hf:fitB ks ps a (a+1+b)=true:=by
     cases h:fitB ks ps a (a+1+b) with
     | true=>rfl
     | false=>exact absurd (both_nil.mpr h) hne
    exact ⟨⟨_,rfl⟩,_,rfl,trivial,_,rfl,trivial,sz2,trivial,_,rfl,by rw [List.length_map]; exact Nat.lt_of_le_of_lt (pK_size hk ha hb) (by decide),hb,_,_,by rw [pK_yes hb (ef hf)]; unfold tsD; rw [snoc_tI]; rfl⟩
  ·rintro β ⟨_,y6,y7,rfl⟩
   exact ⟨ha,_,_,_,by rw [rngD_len,pK_end ha]⟩
 ·rintro β ⟨_,y5,y6,y7,rfl⟩
  rw [rngD_len,pK_all]
  exact ⟨_,rfl,q⟩
end
end K30
end

noncomputable section
set_option Elab.async false
set_option linter.all false
set_option maxRecDepth 100000
set_option maxHeartbeats 4000000
namespace K30
open PySem L2 L2.Q
section
variable {P:Program} {w:World} {K:PySem.W.Frag} {mg:Str→Option Value} {base:Heap}
theorem sc_stretches_rising:FnScope ["many"] ["many"] (defScope s_stretches_rising):=⟨rfl,rfl,rfl,by decide +kernel,rfl,by decide +kernel,by decide +kernel⟩
theorem ok_strR {fdSt:Addr} {fddSt:FuncData} (dSt:Df K mg "stretches_rising" s_stretches_rising ["many"] fdSt fddSt) (B:Bs3 mg):FnOk P w K mg base CX0 1 fdSt fddSt ["many"] (spQ P w true fStr):=by
 refine okQ dSt.F sc_stretches_rising (fun ds R ⟨n,e,_⟩=>by subst e; rfl) fun cdv A outer s H E hr=>⟨_,(pbs_one (pb_ret (lcB ["i","j","many"] [none,none,some 0] (by rfl) (by decide:(["i","j","many"]:List Str).Nodup) rfl (pqi_range3 B.range (pqa_cons (pq_op nok_NF (OpD.m op_dSub) (pq_var (i:=0)) pq_int) (pqa_cons (pq_un un_dNeg pq_int) (pqa_cons (pq_un un_dNeg pq_int) pqa_nil)))) (fun _ _ _ _ _ _=>(pbg_name (i:=0) (by decide:(["i","j","many"]:List Str).Nodup))) (fun _ _ _ _ _ _=>ts_nil) (fun _ _ _ _ _ _=>(pqn_range2 B.range (pqa_cons (pq_op nok_NL op_dAddN (pq_var (i:=0)) pq_int) (pqa_cons (pq_op nok_NL op_dAddN (pq_var (i:=2)) pq_int) pqa_nil)))) (fun _ _ _ _ _ _=>(pbg_name (i:=1) (by decide:(["i","j","many"]:List Str).Nodup))) (fun _ _ _ _ _ _=>ts_nil) (fun _ _ _ _ _ _=>(pq_tup (pqa_cons (pq_var (i:=0)) (pqa_cons (pq_var (i:=1)) pqa_nil))))))),fun ds R h=>?_⟩
 obtain ⟨n,rfl,hn,q⟩:=h
 refine ⟨_,rfl,trivial,_,rfl,trivial,_,rfl,rfl,trivial,_,rfl,rfl,trivial,(n:Int) - 1,-1,rfl,⟨by omega,by omega,by omega,by omega⟩,trivial,?_⟩
 have en:((n:Int) - 1 - -1).toNat=n:=by omega
 rw [en]
 refine ⟨fun a β o=>a≤n∧(∃ x0 x1,β=[x0,x1,some (.val false (.int n))])∧o=(((List.range n).take a).flatMap (rowS n)).map prD,⟨Nat.zero_le _,⟨_,_,rfl⟩,rfl⟩,?_,?_⟩
 ·rintro a d β o hd ⟨ha,⟨x0,x1,rfl⟩,rfl⟩
  obtain ⟨ha',rfl⟩:=rngN_get hd
  have e1:(n:Int) - 1 - a=((n - 1 - a:Nat):Int):=by omega
  rw [e1]
  refine ⟨_,rfl,trivial,_,rfl,trivial,_,rfl,trivial,_,rfl,trivial,((n - 1 - a:Nat):Int)+1,(n:Int)+1,rfl,⟨by omega,by omega,by omega,by omega⟩,?_⟩
  have e2:((n:Int)+1 - (((n - 1 - a:Nat):Int)+1)).toNat=a+1:=by omega
  rw [e2]
  refine ⟨fun b β o=>b≤a+1∧(∃ x1,β=[some (.val true (.int ((n - 1 - a:Nat):Int))),x1,some (.val false (.int n))])∧o=(((List.range n).take a).flatMap (rowS n)++(rowS n a).take b).map prD,⟨Nat.zero_le _,⟨_,rfl⟩,by simp⟩,?_,?_⟩
  ·rintro b d β o hd ⟨hb,⟨x1,rfl⟩,rfl⟩
   obtain ⟨hb',rfl⟩:=rngD_get hd
   refine ⟨_,rfl,trivial,_,rfl,trivial,sz2,trivial,?_,hb',⟨_,rfl⟩,?_⟩
   ·rw [List.length_map,List.length_append]
    exact str_size hn ha' hb'
   ·rw [show ((n - 1 - a:Nat):Int)+1+(b:Int)=((n - a+b:Nat):Int) by omega,rowS_take hb',← List.append_assoc,List.map_append,List.map_append,List.map_append]
    rfl
  ·rintro β o ⟨_,⟨x1,rfl⟩,rfl⟩
   refine ⟨ha',⟨_,_,rfl⟩,?_⟩
   rw [rngD_len,rowS_all,List.take_add_one,List.getElem?_range ha',List.flatMap_append]
   simp
 ·rintro β o ⟨_,⟨x0,x1,rfl⟩,rfl⟩
  rw [rngN_len,List.take_of_length_le (by simp)]
  exact ⟨trivial,trivial,q⟩
theorem sc_partners_of:FnScope ["row","many","ties","partners","a","b"] ["row"] (defScope s_partners_of):=⟨rfl,rfl,rfl,by decide +kernel,rfl,by decide +kernel,by decide +kernel⟩
theorem ok_part {fdPt:Addr} {fddPt:FuncData} (dPt:Df K mg "partners_of" s_partners_of ["row"] fdPt fddPt) (B:Bs3 mg):FnOk P w K mg base CX0 1 fdPt fddPt ["row"] (spQ P w true fPart):=by
 refine okQ dPt.F sc_partners_of (fun ds R ⟨n,ps,e,_⟩=>by subst e; rfl) fun cdv A outer s H E hr=>⟨_,(pbs_cons (pb_asg (pq_var (i:=0)) (pbg_tup (n:=2) rfl (pbgs_cons (pbg_name (i:=1) sc_partners_of.nd) (pbgs_cons (pbg_name (i:=2) sc_partners_of.nd) pbgs_nil))))
    (pbs_cons (sLcA (i:=3) true ["point"] [none] (by rfl) (by decide:(["point"]:List Str).Nodup) rfl (fun _=>(pqi_range1 B.range (pqa_cons (pq_var (i:=1)) pqa_nil))) (fun _ _ _ _ _ _=>(pbg_name (i:=0) (by decide:(["point"]:List Str).Nodup))) (fun _ _ _ _ _ _=>ts_nil) (fun _ _ _ _ _ _=>(pq_lst pqa_nil)) sc_partners_of.nd)
    (pbs_cons (pb_for PassesOwn.never rfl (pqi_list (pq_var (i:=2))) (pbg_tup (n:=2) rfl (pbgs_cons (pbg_name (i:=4) sc_partners_of.nd) (pbgs_cons (pbg_name (i:=5) sc_partners_of.nd) pbgs_nil))) (pbs_one (pb_appendAt (i:=3) true (fun _=>(pq_var (i:=5))) (fun _=>(pq_var (i:=4))))))
    (pbs_one (pb_retV (i:=3)))))),fun ds R h=>?_⟩
 obtain ⟨n,ps,rfl,ok,q⟩:=h
 have hn:=ok.le
 refine ⟨_,rfl,_,rfl,rfl,_,_,rfl,_,_,rfl,rfl,_,rfl,trivial,n,rfl,by omega,by omega,trivial,?_⟩
 rw [Int.toNat_natCast]
 refine loop1A (fun _=>true) (fun _=>.lst []) trivial (by rw [List.length_range]; exact sz_le (by omega)) (fun x hx x0 o J ho h1 _=>⟨Nat.zero_le _,trivial,ho,h1 rfl _⟩) ?_
 rw [filter_true]
 refine ⟨_,rfl,_,rfl,trivial,?_⟩
 refine ⟨fun m β=>∃ x4 x5,β=[some (.val false (rwD n ps)),some (.val true (.int n)),some (.val false (tsD ps)),some (.own (ptD n (ps.take m))),x4,x5],⟨_,_,rfl⟩,?_,?_⟩
 ·rintro m d β hd ⟨x4,x5,rfl⟩
  rw [List.getElem?_map] at hd
  obtain ⟨p,hp,rfl⟩:=Option.map_eq_some_iff.mp hd
  obtain ⟨h1,h2⟩:=ok.lt p (List.mem_of_getElem? hp)
  refine ⟨_,rfl,rfl,_,_,rfl,_,_,rfl,rfl,⟨_,rfl⟩,_,rfl,_,_,_,_,rfl,rfl,by rw [List.length_map,List.length_range]; exact ixNn rfl (show p.1 < n by omega),rng_get (show p.1 < n by omega),_,rfl,trivial,rfl,?_,?_⟩
  ·unfold Q.intsD
   rw [List.length_map]
   have:=prt_len (ps:=ps.take m) (i:=p.1)
   rw [List.length_take] at this
   have:=ok.sm
   exact sz_lt (by omega)
  ·refine ⟨some (.val true (.int p.1)),some (.val true (.int p.2)),?_⟩
   have e:ps.take (m+1)=ps.take m++[(p.1,p.2)]:=by rw [List.take_add_one,hp]; rfl
   rw [set_pt (show p.1 < n by omega),e]
   rfl
 ·rintro β ⟨x4,x5,rfl⟩
  rw [List.length_map,List.take_length]
  exact ⟨_,rfl,q⟩
theorem sc_number_with:FnScope ["worth","table","i","k","j"] ["worth","table","i","k","j"] (defScope s_number_with):=⟨rfl,rfl,rfl,by decide +kernel,rfl,by decide +kernel,by decide +kernel⟩
theorem ok_numW {fdNw:Addr} {fddNw:FuncData} (dNw:Df K mg "number_with" s_number_with ["worth","table","i","k","j"] fdNw fddNw):FnOk P w K mg base CX0 1 fdNw fddNw ["worth","table","i","k","j"] (spQ P w true fNumW):=by
 refine okQ dNw.F sc_number_with (fun ds R ⟨n,ps,w,L,T,i,k,j,e,_⟩=>by subst e; rfl) fun cdv A outer s H E hr=>⟨_,(pbs_one (pb_ret (pq_op nok_NL op_dAddN (pq_op nok_NL op_dAddN (pq_ix nok_NF (ixd_m hr.units1) (pq_var (i:=0)) (pq_tup (pqa_cons (pq_var (i:=2)) (pqa_cons (pq_var (i:=3)) pqa_nil)))) (pq_ix nok_NF ix_m (pq_ix nok_NF ix_m (pq_var (i:=1)) (pq_op nok_NL op_dAddN (pq_var (i:=2)) pq_int)) (pq_op nok_NF (OpD.m op_dSub) (pq_op nok_NF (OpD.m op_dSub) (pq_var (i:=3)) (pq_var (i:=2))) pq_int))) (pq_ix nok_NF ix_m (pq_ix nok_NF ix_m (pq_var (i:=1)) (pq_op nok_NL op_dAddN (pq_var (i:=3)) pq_int)) (pq_op nok_NF (OpD.m op_dSub) (pq_op nok_NF (OpD.m op_dSub) (pq_var (i:=4)) (pq_var (i:=3))) pq_int))))),fun ds R h=>?_⟩
 obtain ⟨n,ps,w,L,T,i,k,j,rfl,hm,h1,h2,h3,h4,h5,q⟩:=h
 exact ⟨_,rfl,trivial,_,rfl,trivial,_,rfl,trivial,sz2,_,get_wD hm,trivial,_,rfl,trivial,_,rfl,trivial,_,rfl,_,ixTab (i:=i+1) (by omega) (by omega),.inr ⟨trivial,_,rfl,trivial,_,rfl,_,rfl,trivial,_,rfl,_,ixRow (l:=k - i - 1) (by omega) h4,_,rfl,trivial,
  _,rfl,trivial,_,rfl,trivial,_,rfl,_,ixTab (i:=k+1) (by omega) (by omega),.inr ⟨trivial,_,rfl,trivial,_,rfl,_,rfl,trivial,_,rfl,_,ixRow (l:=j - k - 1) (by omega) h5,_,rfl,trivial,q⟩⟩⟩
theorem sc_least_number:FnScope ["partners","worth","table","i","j","numbers"] ["partners","worth","table","i","j"] (defScope s_least_number):=⟨rfl,rfl,rfl,by decide +kernel,rfl,by decide +kernel,by decide +kernel⟩
theorem ok_least {fdLn:Addr} {fddLn:FuncData} (dLn:Df K mg "least_number" s_least_number ["partners","worth","table","i","j"] fdLn fddLn) {fdNw:Addr} {fddNw:FuncData} (dNw:Df K mg "number_with" s_number_with ["worth","table","i","k","j"] fdNw fddNw) (B:Bs3 mg):FnOk P w K mg base CX0 2 fdLn fddLn ["partners","worth","table","i","j"] (spQ P w true fLeast):=by
 have GNw:FnOk P w K mg base CX0 1 _ _ _ (spQ P w true fNumW):= ok_numW dNw
 refine okQ dLn.F sc_least_number (fun ds R ⟨n,ps,w,L,T,i,j,e,_⟩=>by subst e; rfl) fun cdv A outer s H E hr=>⟨_,(pbs_cons (sLcA (i:=5) false ["k","worth","table","i","j"] [none,some 1,some 2,some 3,some 4] (by rfl) (by decide:(["k","worth","table","i","j"]:List Str).Nodup) rfl (fun _=>(pqi_list (pq_ix nok_NF ix_m (pq_var (i:=0)) (pq_var (i:=3))))) (fun _ _ _ _ _ _=>(pbg_name (i:=0) (by decide:(["k","worth","table","i","j"]:List Str).Nodup))) (fun _ _ _ _ _ _=>(ts_one (pqt_cmp nok_NF (OpD.m op_dLt) (pq_var (i:=0)) (pq_var (i:=4))))) (fun _ _ _ _ _ _=>(pq_call fNumW.mono GNw (hr.mono (by decide)) dNw.m dNw.F.kp dNw.b (pqa_cons (pq_var (i:=1)) (pqa_cons (pq_var (i:=2)) (pqa_cons (pq_var (i:=3)) (pqa_cons (pq_var (i:=0)) (pqa_cons (pq_var (i:=4)) pqa_nil))))))) sc_least_number.nd)
    (pbs_one (pb_ret (pq_callB nok_NF (CallD.m (call_dMax rfl)) B.max bt_max (pqa_cons (pq_op nok_NL op_dAddN (pq_var (i:=5)) (pq_lst (pqa_cons (pq_ix nok_NF ix_m (pq_ix nok_NF ix_m (pq_var (i:=2)) (pq_op nok_NL op_dAddN (pq_var (i:=3)) pq_int)) (pq_op nok_NF (OpD.m op_dSub) (pq_op nok_NF (OpD.m op_dSub) (pq_var (i:=4)) (pq_var (i:=3))) pq_int)) pqa_nil))) pqa_nil))))),fun ds R h=>?_⟩
 obtain ⟨n,ps,w,L,T,i,j,rfl,ok,h1,h2,h3,q⟩:=h
 have hsm:=ok.sm
 have hle:=ok.le
 have hl:((prt ps i).filter fun k=>decide (k < j)).length≤400:=Nat.le_trans (List.length_filter_le _ _) (Nat.le_trans prt_len hsm)
 refine ⟨_,rfl,trivial,_,rfl,_,ixPt rfl (by omega),.inr ⟨_,rfl,trivial,?_⟩⟩
 refine loop1A (fun k=>decide (k < j)) (fun k=>.int (w (i,k)+T (k - i - 1) (i+1)+T (j - k - 1) (k+1))) trivial (sz_le (Nat.le_trans prt_len (by omega))) (fun k hk x0 o J ho j1 j2=>?_) ?_
 ·have hm:=mem_prt.mp hk
  obtain ⟨g1,g2⟩:=ok.lt _ hm
  dsimp only at g1 g2
  refine ⟨_,rfl,trivial,_,rfl,_,rfl,_,rfl,ifD (fun hkj=>?_) (fun hkj=>j2 (by simp; omega) _)⟩
  have hkj':k < j:=by omega
  have a1:=h3 (i+1) (by omega) (by omega)
  have a2:=h3 (k+1) (by omega) (by omega)
  exact ⟨_,rfl,trivial,_,rfl,trivial,_,rfl,trivial,_,rfl,trivial,_,rfl,trivial,n,ps,w,L,T,i,k,j,rfl,hm,g1,hkj',h2,by omega,by omega,trivial,ho,j1 (by simpa using hkj') _⟩
 ·have a1:=h3 (i+1) (by omega) (by omega)
  refine ⟨_,rfl,trivial,_,rfl,trivial,_,rfl,trivial,_,rfl,_,ixTab (i:=i+1) (by omega) (by omega),.inr ⟨trivial,_,rfl,trivial,_,rfl,_,rfl,trivial,_,rfl,_,ixRow (l:=j - i - 1) (by omega) (by omega),trivial,sz1,_,dAdd_lst (by rw [List.length_map]; show _+1≤_; omega),.inl ⟨flats_app flats_int rfl,trivial,_,max_ints,trivial,q⟩⟩⟩
theorem sc_greatest_table:FnScope ["row","worth","many","partners","table","i","j"] ["row","worth"] (defScope s_greatest_table):=⟨rfl,rfl,rfl,by decide +kernel,rfl,by decide +kernel,by decide +kernel⟩
theorem ok_great {fdGt:Addr} {fddGt:FuncData} (dGt:Df K mg "greatest_table" s_greatest_table ["row","worth"] fdGt fddGt) {fdPt:Addr} {fddPt:FuncData} (dPt:Df K mg "partners_of" s_partners_of ["row"] fdPt fddPt) {fdSt:Addr} {fddSt:FuncData} (dSt:Df K mg "stretches_rising" s_stretches_rising ["many"] fdSt fddSt) {fdLn:Addr} {fddLn:FuncData} (dLn:Df K mg "least_number" s_least_number ["partners","worth","table","i","j"] fdLn fddLn) {fdNw:Addr} {fddNw:FuncData} (dNw:Df K mg "number_with" s_number_with ["worth","table","i","k","j"] fdNw fddNw) (B:Bs3 mg):FnOk P w K mg base CX0 3 fdGt fddGt ["row","worth"] (spQ P w true fGreat):=by
 have GPt:FnOk P w K mg base CX0 1 _ _ _ (spQ P w true fPart):= ok_part dPt B
 have GSt:FnOk P w K mg base CX0 1 _ _ _ (spQ P w true fStr):= ok_strR dSt B
 have GLn:FnOk P w K mg base CX0 2 _ _ _ (spQ P w true fLeast):= ok_least dLn dNw B
 refine okQ dGt.F sc_greatest_table (fun ds R ⟨n,ps,w,e,_⟩=>by subst e; rfl) fun cdv A outer s H E hr=>⟨_,(pbs_cons (pb_set (i:=2) (pq_ix nok_NF ix_m (pq_var (i:=0)) pq_int) sc_greatest_table.nd)
    (pbs_cons (pb_set (i:=3) (pq_call fPart.mono GPt (hr.mono (by decide)) dPt.m dPt.F.kp dPt.b (pqa_cons (pq_var (i:=0)) pqa_nil)) sc_greatest_table.nd)
    (pbs_cons (sLcA (i:=4) true ["i"] [none] (by rfl) (by decide:(["i"]:List Str).Nodup) rfl (fun _=>(pqi_range1 B.range (pqa_cons (pq_op nok_NL op_dAddN (pq_var (i:=2)) pq_int) pqa_nil))) (fun _ _ _ _ _ _=>(pbg_name (i:=0) (by decide:(["i"]:List Str).Nodup))) (fun _ _ _ _ _ _=>ts_nil) (fun _ _ _ _ _ _=>(pq_lst (pqa_cons pq_int pqa_nil))) sc_greatest_table.nd)
    (pbs_cons (pb_for PassesOwn.never rfl (pqi_list (pq_call fStr.mono GSt (hr.mono (by decide)) dSt.m dSt.F.kp dSt.b (pqa_cons (pq_var (i:=2)) pqa_nil))) (pbg_tup (n:=2) rfl (pbgs_cons (pbg_name (i:=5) sc_greatest_table.nd) (pbgs_cons (pbg_name (i:=6) sc_greatest_table.nd) pbgs_nil))) (pbs_one (pb_appendAt (i:=4) true (fun _=>(pq_call fLeast.mono GLn (hr.mono (by decide)) dLn.m dLn.F.kp dLn.b (pqa_cons (pq_var (i:=3)) (pqa_cons (pq_var (i:=1)) (pqa_cons (pq_var (i:=4)) (pqa_cons (pq_var (i:=5)) (pqa_cons (pq_var (i:=6)) pqa_nil))))))) (fun _=>(pq_var (i:=5))))))
    (pbs_one (pb_retV (i:=4))))))),fun ds R h=>?_⟩
 obtain ⟨n,ps,w,rfl,ok,q⟩:=h
 have hn:=ok.le
 have hp:∀ p ∈ ps,p.1 < p.2:=fun p hp=>(ok.lt p hp).1
 refine ⟨_,rfl,trivial,_,rfl,_,rfl,trivial,n,ps,rfl,ok,_,rfl,trivial,_,rfl,trivial,(n:Int)+1,rfl,by omega,by omega,trivial,?_⟩
 rw [show ((n:Int)+1).toNat=n+1 by omega]
 refine loop1A (fun _=>true) (fun _=>.lst [.int 0]) trivial (by rw [List.length_range]; exact sz_le (by omega)) (fun x hx x0 o J ho h1 _=>⟨trivial,sz1,trivial,ho,h1 rfl _⟩) ?_
 rw [filter_true]
 refine ⟨_,rfl,trivial,n,rfl,hn,_,rfl,trivial,?_⟩
 refine ⟨fun idx β=>∃ L x5 x6,β=[some (.val false (rwD n ps)),some (.val false (wD ps w)),some (.val true (.int n)),some (.val true (ptD n ps)),some (.own (tabD n L (tW ps w))),x5,x6]∧DoneT n idx L,⟨fun _=>1,_,_,rfl,doneT_start⟩,?_,?_⟩
 ·rintro idx d β hd ⟨L,x5,x6,rfl,dn⟩
  rw [List.getElem?_map] at hd
  obtain ⟨p,hp',rfl⟩:=Option.map_eq_some_iff.mp hd
  obtain ⟨a,b,ha,hb,rfl,hL,hrest⟩:=doneT_step dn hp'
  have eL:tabD n L (tW ps w)=tabD n (lenT n a b) (tW ps w):=tab_congr hL
  have e0:lenT n a b (n - 1 - a)=b+1:=by unfold lenT; rw [if_neg (by omega),if_pos rfl]
  rw [eL]
  refine ⟨_,rfl,rfl,_,_,rfl,_,_,rfl,rfl,⟨_,rfl⟩,_,rfl,_,_,_,_,rfl,rfl,by rw [List.length_map,List.length_range]; exact ixNn rfl (show n - 1 - a < n+1 by omega),rng_get (show n - 1 - a < n+1 by omega),
   _,rfl,trivial,_,rfl,trivial,_,rfl,trivial,_,rfl,trivial,_,rfl,trivial,n,ps,w,lenT n a b,tW ps w,n - 1 - a,n - a+b,rfl,ok,by omega,by omega,fun a' h1 h2=>by unfold lenT; rw [if_pos h1]; exact Nat.le_refl _,trivial,rfl,?_,?_⟩
  ·rw [e0]
   unfold tRow
   rw [List.length_map,List.length_range]
   exact sz_lt (by omega)
  ·refine ⟨lenT n a (b+1),some (.val true (.int ((n - 1 - a:Nat):Int))),some (.val true (.int ((n - a+b:Nat):Int))),?_,.inr ⟨a,b+1,ha,by omega,fun _ _=>rfl,hrest⟩⟩
   have ev:lnum ps w (tW ps w) (n - 1 - a) (n - a+b)=tW ps w (b+1) (n - 1 - a):=by rw [tW_succ hp,show n - 1 - a+b+1=n - a+b by omega]
   rw [ev,e0,set_tab ha hb]
   rfl
 ·rintro β ⟨L,x5,x6,rfl,dn⟩
  rw [List.length_map] at dn
  have e:tabD n L (tW ps w)=fullT n (tW ps w):=tab_congr (doneT_end dn)
  rw [e]
  exact ⟨_,rfl,q⟩
theorem sc_one_each:FnScope ["row"] ["row"] (defScope s_one_each):=⟨rfl,rfl,rfl,by decide +kernel,rfl,by decide +kernel,by decide +kernel⟩
theorem ok_one {fdOe:Addr} {fddOe:FuncData} (dOe:Df K mg "one_each" s_one_each ["row"] fdOe fddOe):FnOk P w K mg base CX0 1 fdOe fddOe ["row"] (spQ P w true fOne):=by
 refine okQ dOe.F sc_one_each (fun ds R ⟨n,ps,e,_⟩=>by subst e; rfl) fun cdv A outer s H E hr=>⟨_,(pbs_one (pb_ret (dcA (Nat.lt_of_succ_lt hr.units1) ["tie"] [none] (by rfl) (by decide:(["tie"]:List Str).Nodup) rfl (pqi_list (pq_ix nok_NF ix_m (pq_var (i:=0)) pq_int)) (fun _ _ _ _ _ _=>(pbg_name (i:=0) (by decide:(["tie"]:List Str).Nodup))) (fun _ _ _ _ _ _=>ts_nil) (fun _ _ _ _ _ _=>(pq_var (i:=0))) (fun _ _ _ _ _ _=>pq_int)))),fun ds R h=>?_⟩
 obtain ⟨n,ps,rfl,ok,q⟩:=h
 have hsm:=ok.sm
 refine ⟨_,rfl,trivial,_,rfl,.inr ⟨_,rfl,trivial,?_⟩⟩
 refine ⟨fun m β o=>m≤ps.length∧(∃ x0,β=[x0])∧o=(ps.take m).map fun p=>(tI p,D.int (w1 p)),⟨Nat.zero_le _,⟨_,rfl⟩,rfl⟩,?_,?_⟩
 ·rintro m d β o hd ⟨hm,⟨x0,rfl⟩,rfl⟩
  rw [List.getElem?_map] at hd
  obtain ⟨p,hp,rfl⟩:=Option.map_eq_some_iff.mp hd
  have hlt:=(List.getElem?_eq_some_iff.mp hp).1
  refine ⟨_,rfl,tI p,rfl,rfl,none_wD (nd_take ok.nd hp),?_,hlt,⟨_,rfl⟩,?_⟩
  ·rw [List.length_map,List.length_take]
   exact sz_lt (by omega)
  ·rw [List.take_add_one,hp,List.map_append]
   rfl
 ·rintro β o ⟨_,⟨x0,rfl⟩,rfl⟩
  rw [List.length_map,List.take_length]
  exact ⟨trivial,trivial,q⟩
theorem sc_table_of:FnScope ["row"] ["row"] (defScope s_table_of):=⟨rfl,rfl,rfl,by decide +kernel,rfl,by decide +kernel,by decide +kernel⟩
theorem ok_table {fdTb:Addr} {fddTb:FuncData} (dTb:Df K mg "table_of" s_table_of ["row"] fdTb fddTb) {fdGt:Addr} {fddGt:FuncData} (dGt:Df K mg "greatest_table" s_greatest_table ["row","worth"] fdGt fddGt) {fdPt:Addr} {fddPt:FuncData} (dPt:Df K mg "partners_of" s_partners_of ["row"] fdPt fddPt) {fdSt:Addr} {fddSt:FuncData} (dSt:Df K mg "stretches_rising" s_stretches_rising ["many"] fdSt fddSt) {fdLn:Addr} {fddLn:FuncData} (dLn:Df K mg "least_number" s_least_number ["partners","worth","table","i","j"] fdLn fddLn) {fdNw:Addr} {fddNw:FuncData} (dNw:Df K mg "number_with" s_number_with ["worth","table","i","k","j"] fdNw fddNw) {fdOe:Addr} {fddOe:FuncData} (dOe:Df K mg "one_each" s_one_each ["row"] fdOe fddOe) (B:Bs3 mg):FnOk P w K mg base CX0 4 fdTb fddTb ["row"] (spQ P w true fTable):=by
 have GGt:FnOk P w K mg base CX0 3 _ _ _ (spQ P w true fGreat):= ok_great dGt dPt dSt dLn dNw B
 have GOe:FnOk P w K mg base CX0 1 _ _ _ (spQ P w true fOne):= ok_one dOe
 refine okQ dTb.F sc_table_of (fun ds R ⟨n,ps,e,_⟩=>by subst e; rfl) fun cdv A outer s H E hr=>⟨_,(pbs_one (pb_ret (pq_call fGreat.mono GGt (hr.mono (by decide)) dGt.m dGt.F.kp dGt.b (pqa_cons (pq_var (i:=0)) (pqa_cons (pq_call fOne.mono GOe (hr.mono (by decide)) dOe.m dOe.F.kp dOe.b (pqa_cons (pq_var (i:=0)) pqa_nil)) pqa_nil))))),fun ds R h=>?_⟩
 obtain ⟨n,ps,rfl,ok,q⟩:=h
 exact ⟨_,rfl,trivial,_,rfl,trivial,n,ps,rfl,ok,trivial,n,ps,w1,rfl,ok,trivial,q⟩
end
end K30
end

noncomputable section
set_option Elab.async false
set_option linter.all false
set_option maxRecDepth 100000
namespace L2.Q
open PySem PySem.Spec PySem.SeqAt PyProof.Rows Mx
theorem valA_snoc {kvs:List (List Int × D)} {t u:List Int} {d:D} (h:valA kvs t=none):valA (kvs++[(t,d)]) u=if u=t then some d else valA kvs u:=by
 unfold valA at *
 rw [List.find?_append]
 by_cases e:u=t
 ·subst e
  rw [if_pos rfl,Option.map_eq_none_iff.mp h]
  simp
 ·rw [if_neg e]
  cases q:kvs.find? fun p=>decide (p.1=u) with
  | some p=>rfl
  | none=>simp [Ne.symm e]
end L2.Q
end

noncomputable section
set_option Elab.async false
set_option linter.all false
set_option maxRecDepth 100000
set_option maxHeartbeats 4000000
namespace K30
open PySem L2 L2.Q
section
variable {P:Program} {w:World} {K:PySem.W.Frag} {mg:Str→Option Value} {base:Heap}
theorem sc_parts_left:FnScope ["i","k","j"] ["i","k","j"] (defScope s_parts_left):=⟨rfl,rfl,rfl,by decide +kernel,rfl,by decide +kernel,by decide +kernel⟩
theorem ok_parts {fdPa:Addr} {fddPa:FuncData} (dPa:Df K mg "parts_left" s_parts_left ["i","k","j"] fdPa fddPa):FnOk P w K mg base CX0 1 fdPa fddPa ["i","k","j"] (spQ P w true fParts):=by
 refine okQ dPa.F sc_parts_left (fun ds R ⟨i,k,j,e,_⟩=>by subst e; rfl) fun cdv A outer s H E hr=>⟨_,(pbs_mid (pb_if (pqt_cmp nok_NF (OpD.m op_dIsN) (pq_var (i:=1)) pq_non) (pbs_one (pb_ret (pq_lst (pqa_cons (pq_tup (pqa_cons (pq_op nok_NL op_dAddN (pq_var (i:=0)) pq_int) (pqa_cons (pq_var (i:=2)) pqa_nil))) pqa_nil)))) pbs_nil)
    (pbs_one (pb_ret (pq_lst (pqa_cons (pq_tup (pqa_cons (pq_op nok_NL op_dAddN (pq_var (i:=0)) pq_int) (pqa_cons (pq_var (i:=1)) pqa_nil))) (pqa_cons (pq_tup (pqa_cons (pq_op nok_NL op_dAddN (pq_var (i:=1)) pq_int) (pqa_cons (pq_var (i:=2)) pqa_nil))) pqa_nil)))))),fun ds R h=>?_⟩
 obtain ⟨i,k,j,rfl,q⟩:=h
 cases k with
 | none=>exact ⟨fun _=>False,⟨_,rfl,trivial,_,rfl,_,rfl,ifT rfl ⟨_,rfl,trivial,_,rfl,trivial,_,rfl,trivial,sz2,trivial,sz1,trivial,q⟩⟩,fun _ z=>z.elim⟩
 | some k =>
  refine ⟨fun β=>β=[some (.val false (.int i)),some (.val false (.int k)),some (.val false (.int j))],⟨_,rfl,trivial,_,rfl,_,rfl,ifF rfl rfl⟩,?_⟩
  rintro β rfl
  exact ⟨_,rfl,trivial,_,rfl,trivial,_,rfl,trivial,sz2,trivial,_,rfl,trivial,_,rfl,trivial,_,rfl,trivial,sz2,trivial,sz2,trivial,q⟩
theorem sc_best_choices:FnScope ["partners","worth","table","i","j","best","choices"] ["partners","worth","table","i","j"] (defScope s_best_choices):=⟨rfl,rfl,rfl,by decide +kernel,rfl,by decide +kernel,by decide +kernel⟩
theorem ok_best {fdBc:Addr} {fddBc:FuncData} (dBc:Df K mg "best_choices" s_best_choices ["partners","worth","table","i","j"] fdBc fddBc) {fdNw:Addr} {fddNw:FuncData} (dNw:Df K mg "number_with" s_number_with ["worth","table","i","k","j"] fdNw fddNw) (B:Bs3 mg):FnOk P w K mg base CX0 2 fdBc fddBc ["partners","worth","table","i","j"] (spQ P w true fBest):=by
 have GNw:FnOk P w K mg base CX0 1 _ _ _ (spQ P w true fNumW):= ok_numW dNw
 refine okQ dBc.F sc_best_choices (fun ds R ⟨n,ps,w,T,i,j,e,_⟩=>by subst e; rfl) fun cdv A outer s H E hr=>⟨_,(pbs_cons (pb_set (i:=5) (pq_ix nok_NF ix_m (pq_ix nok_NF ix_m (pq_var (i:=2)) (pq_var (i:=3))) (pq_op nok_NF (OpD.m op_dSub) (pq_var (i:=4)) (pq_var (i:=3)))) sc_best_choices.nd)
    (pbs_cons (sLcA (i:=6) true ["k","j","best","worth","table","i"] [none,some 4,some 5,some 1,some 2,some 3] (by rfl) (by decide:(["k","j","best","worth","table","i"]:List Str).Nodup) rfl (fun _=>(pqi_list (pq_ix nok_NF ix_m (pq_var (i:=0)) (pq_var (i:=3))))) (fun _ _ _ _ _ _=>(pbg_name (i:=0) (by decide:(["k","j","best","worth","table","i"]:List Str).Nodup))) (fun _ _ _ _ _ _=>(ts_one (PQW.t (pqw_and (pqt_cmp nok_NF (OpD.m op_dLt) (pq_var (i:=0)) (pq_var (i:=1))) (pqw_and1 (pqt_cmp nok_NF (OpD.m (op_dEq hr.units)) (pq_call fNumW.mono GNw (hr.mono (by decide)) dNw.m dNw.F.kp dNw.b (pqa_cons (pq_var (i:=3)) (pqa_cons (pq_var (i:=4)) (pqa_cons (pq_var (i:=5)) (pqa_cons (pq_var (i:=0)) (pqa_cons (pq_var (i:=1)) pqa_nil)))))) (pq_var (i:=2)))))))) (fun _ _ _ _ _ _=>(pq_var (i:=0))) sc_best_choices.nd)
    (pbs_mid (pb_if (pqt_cmp nok_NF (OpD.m (op_dEq hr.units)) (pq_ix nok_NF ix_m (pq_ix nok_NF ix_m (pq_var (i:=2)) (pq_op nok_NL op_dAddN (pq_var (i:=3)) pq_int)) (pq_op nok_NF (OpD.m op_dSub) (pq_op nok_NF (OpD.m op_dSub) (pq_var (i:=4)) (pq_var (i:=3))) pq_int)) (pq_var (i:=5))) (pbs_one (pb_append (i:=6) (fun _=>pq_non))) pbs_nil)
    (pbs_one (pb_retV (i:=6)))))),fun ds R h=>?_⟩
 obtain ⟨n,ps,w,T,i,j,rfl,ok,h1,h2,q⟩:=h
 have hsm:=ok.sm
 have hle:=ok.le
 refine ⟨_,rfl,trivial,_,rfl,_,ixTab rfl (by omega),.inr ⟨trivial,_,rfl,trivial,_,rfl,_,rfl,_,ixRow (l:=j - i) (by omega) (by omega),?_⟩⟩
 refine ⟨_,rfl,trivial,_,rfl,_,ixPt rfl (by omega),.inr ⟨_,rfl,trivial,?_⟩⟩
 refine loop1A (fun k=>decide (k < j) && decide (w (i,k)+T (k - i - 1) (i+1)+T (j - k - 1) (k+1)=T (j - i) i)) (fun k=>.int (k:Int)) trivial (sz_le (Nat.le_trans prt_len (by omega))) (fun k hk x0 o J ho j1 j2=>?_) ?_
 ·have hm:=mem_prt.mp hk
  obtain ⟨g1,g2⟩:=ok.lt _ hm
  dsimp only at g1 g2
  refine ⟨_,rfl,trivial,_,rfl,_,rfl,_,rfl,ifD (fun hkj=>?_) (fun hkj=>ifF rfl (j2 ?_ _))⟩
  ·have hkj':k < j:=by omega
   refine ⟨_,rfl,trivial,_,rfl,trivial,_,rfl,trivial,_,rfl,trivial,_,rfl,trivial,n,ps,w,(fun i=>n+1 - i),T,i,k,j,rfl,hm,g1,hkj',h2,by show _ < n+1 - (i+1); omega,by show _ < n+1 - (k+1); omega,trivial,_,rfl,_,dEq_int _ _,_,rfl,ifD (fun e=>?_) (fun e=>j2 ?_ _)⟩
   ·exact ⟨_,rfl,trivial,ho,j1 (by rw [Bool.and_eq_true,decide_eq_true_eq,decide_eq_true_eq]; exact ⟨hkj',e⟩) _⟩
   ·rw [Bool.and_eq_false_iff]; exact .inr (decide_eq_false e)
  ·rw [Bool.and_eq_false_iff]; exact .inl (decide_eq_false (by omega))
 ·have eb:bestC ps w T i j=((prt ps i).filter fun k=>decide (k < j) && decide (w (i,k)+T (k - i - 1) (i+1)+T (j - k - 1) (k+1)=T (j - i) i)).map some++(if T (j - i - 1) (i+1)=T (j - i) i then [none] else []):=rfl
  have em:(((prt ps i).filter fun k=>decide (k < j) && decide (w (i,k)+T (k - i - 1) (i+1)+T (j - k - 1) (k+1)=T (j - i) i)).map fun (k:Nat)=>D.int (k:Int))=(((prt ps i).filter fun k=>decide (k < j) && decide (w (i,k)+T (k - i - 1) (i+1)+T (j - k - 1) (k+1)=T (j - i) i)).map some).map oD:=by rw [List.map_map]; rfl
  have hl:(((prt ps i).filter fun k=>decide (k < j) && decide (w (i,k)+T (k - i - 1) (i+1)+T (j - k - 1) (k+1)=T (j - i) i)).map some).length≤400:=by rw [List.length_map]; exact Nat.le_trans (List.length_filter_le _ _) (Nat.le_trans prt_len hsm)
  rw [em]
  generalize ((prt ps i).filter fun k=>decide (k < j) && decide (w (i,k)+T (k - i - 1) (i+1)+T (j - k - 1) (k+1)=T (j - i) i)).map some=cs at eb hl ⊢
  refine ⟨fun β=>β[6]?=some (some (.own (.lst ((bestC ps w T i j).map oD)))),?_,fun β hβ=>⟨_,hβ,q⟩⟩
  refine ⟨_,rfl,trivial,_,rfl,trivial,_,rfl,_,ixTab (i:=i+1) (by omega) (by omega),.inr ⟨trivial,_,rfl,trivial,_,rfl,_,rfl,trivial,_,rfl,_,ixRow (l:=j - i - 1) (by omega) (by omega),trivial,_,rfl,_,dEq_int _ _,_,rfl,ifD (fun e=>?_) (fun e=>?_)⟩⟩
  ·rw [if_pos e] at eb
   refine ⟨⟨_,rfl⟩,trivial,_,rfl,by rw [List.length_map]; exact sz_lt (by omega),?_⟩
   rw [eb,List.map_append]
   rfl
  ·rw [if_neg e,List.append_nil] at eb
   rw [eb]
   rfl
theorem sc_first_greatest:FnScope ["row","worth","table","i","j","partners","found","waiting","low","high","k"] ["row","worth","table","i","j"] (defScope s_first_greatest):=⟨rfl,rfl,rfl,by decide +kernel,rfl,by decide +kernel,by decide +kernel⟩
theorem ok_fstG {fdFg:Addr} {fddFg:FuncData} (dFg:Df K mg "first_greatest" s_first_greatest ["row","worth","table","i","j"] fdFg fddFg) {fdPt:Addr} {fddPt:FuncData} (dPt:Df K mg "partners_of" s_partners_of ["row"] fdPt fddPt) {fdBc:Addr} {fddBc:FuncData} (dBc:Df K mg "best_choices" s_best_choices ["partners","worth","table","i","j"] fdBc fddBc) {fdNw:Addr} {fddNw:FuncData} (dNw:Df K mg "number_with" s_number_with ["worth","table","i","k","j"] fdNw fddNw) {fdPa:Addr} {fddPa:FuncData} (dPa:Df K mg "parts_left" s_parts_left ["i","k","j"] fdPa fddPa) (B:Bs3 mg):FnOk P w K mg base CX0 3 fdFg fddFg ["row","worth","table","i","j"] (spQ P w true fFstG):=by
 have GPt:FnOk P w K mg base CX0 1 _ _ _ (spQ P w true fPart):= ok_part dPt B
 have GBc:FnOk P w K mg base CX0 2 _ _ _ (spQ P w true fBest):= ok_best dBc dNw B
 have GPa:FnOk P w K mg base CX0 1 _ _ _ (spQ P w true fParts):= ok_parts dPa
 refine okQ dFg.F sc_first_greatest (fun ds R ⟨n,ps,w,i,j,e,_⟩=>by subst e; rfl) fun cdv A outer s H E hr=>⟨_,(pbs_cons (pb_set (i:=5) (pq_call fPart.mono GPt (hr.mono (by decide)) dPt.m dPt.F.kp dPt.b (pqa_cons (pq_var (i:=0)) pqa_nil)) sc_first_greatest.nd)
    (pbs_cons (pb_setO (i:=6) (fun _=>(pq_lst pqa_nil)) sc_first_greatest.nd)
    (pbs_cons (pb_setO (i:=7) (fun _=>(pq_lst (pqa_cons (pq_tup (pqa_cons (pq_var (i:=3)) (pqa_cons (pq_var (i:=4)) pqa_nil))) pqa_nil))) sc_first_greatest.nd)
    (pbs_cons (pb_while PassesOwn.never (pqt_tru (pq_var (i:=7))) (pbs_cons (pb_asg (pq_pop (i:=7)) (pbg_tup (n:=2) rfl (pbgs_cons (pbg_name (i:=8) sc_first_greatest.nd) (pbgs_cons (pbg_name (i:=9) sc_first_greatest.nd) pbgs_nil))))
    (pbs_one (pb_if (pqt_cmp nok_NF (OpD.m op_dLt) (pq_var (i:=8)) (pq_var (i:=9))) (pbs_cons (pb_set (i:=10) (pq_ix nok_NF ix_m (pq_call fBest.mono GBc (hr.mono (by decide)) dBc.m dBc.F.kp dBc.b (pqa_cons (pq_var (i:=5)) (pqa_cons (pq_var (i:=1)) (pqa_cons (pq_var (i:=2)) (pqa_cons (pq_var (i:=8)) (pqa_cons (pq_var (i:=9)) pqa_nil)))))) pq_int) sc_first_greatest.nd)
    (pbs_mid (pb_if (pqt_cmp nok_NF (OpD.m op_dNotN) (pq_var (i:=10)) pq_non) (pbs_one (pb_append (i:=6) (fun _=>(pq_tup (pqa_cons (pq_var (i:=8)) (pqa_cons (pq_var (i:=10)) pqa_nil)))))) pbs_nil)
    (pbs_one (pb_extend (i:=7) (pq_revL (pq_call fParts.mono GPa (hr.mono (by decide)) dPa.m dPa.F.kp dPa.b (pqa_cons (pq_var (i:=8)) (pqa_cons (pq_var (i:=10)) (pqa_cons (pq_var (i:=9)) pqa_nil))))))))) pbs_nil))))
    (pbs_one (pb_retV (i:=6))))))),fun ds R h=>?_⟩
 obtain ⟨n,ps,w,i,j,rfl,ok,h1,h2,q⟩:=h
 have hn:=ok.le
 have hp:∀ p ∈ ps,p.1 < p.2:=fun p hp=>(ok.lt p hp).1
 have hfl:(fstG ps w i j).length≤40:=by have:=fstG_len (w:=w) hp (j - i) i j (Nat.le_refl _); omega
 refine ⟨_,rfl,trivial,n,ps,rfl,ok,Nat.zero_le _,trivial,_,rfl,trivial,_,rfl,trivial,sz2,trivial,sz1,trivial,?_⟩
 refine ⟨fun m β=>∃ (ws:List (Nat × Nat)) (fs:List (Nat × Nat)) (x8 x9 x10:Option Q.B),β=[some (.val false (rwD n ps)),some (.val false (wD ps w)),some (.val false (fullT n (tW ps w))),some (.val false (.int i)),some (.val false (.int j)),some (.val true (ptD n ps)),some (.own (tsD fs)),some (.own (.lst (ws.map prD))),x8,x9,x10]∧(∀ p ∈ ws,p.2≤n)∧wgt ws=m∧m≤200∧fs++(ws.reverse.flatMap fun p=>fstG ps w p.1 p.2)=fstG ps w i j,⟨_,[(i,j)],[],_,_,_,rfl,fun p hp=>by rw [List.mem_singleton.mp hp]; exact h2,rfl,by show 2 * (j - i)+1+0≤200; omega,by simp⟩,?_⟩
 rintro m β ⟨ws,fs,x8,x9,x10,rfl,hw,hm,hl,hf⟩
 rcases List.eq_nil_or_concat ws with rfl | ⟨ws',⟨l,h⟩,rfl⟩
 ·refine ⟨_,rfl,_,rfl,ifF rfl ?_⟩
  have hf:fs=fstG ps w i j:=by simpa using hf
  rw [← hf] at q
  exact ⟨_,rfl,q⟩
 ·rw [List.concat_eq_append] at hw hm hf ⊢
  rw [wgt_app] at hm
  have hlw:ws'.length≤wgt ws':=by
   unfold wgt
   clear hw hm hf
   induction ws' with
   | nil=>exact Nat.le_refl _
   | cons a l ih=>rw [List.map_cons,List.sum_cons,List.length_cons]; omega
  have hm:wgt ws'+(2 * (h - l)+1)=m:=hm
  have hh:h≤n:=hw (l,h) (by simp)
  rw [List.reverse_append,List.reverse_singleton,List.singleton_append,List.flatMap_cons] at hf
  refine ⟨_,rfl,_,rfl,ifT (by rw [List.map_append]; cases ws' <;> rfl) ?_⟩
  rw [List.map_append]
  refine ⟨ws'.map prD,prD (l,h),rfl,_,rfl,rfl,_,_,rfl,_,_,rfl,rfl,?_⟩
  refine ⟨_,rfl,trivial,_,rfl,_,rfl,_,rfl,ifD (fun hlh=>?_) (fun hlh=>?_)⟩
  ·have hlh:l < h:=by omega
   have hne:=bestC_ne (w:=w) hp hlh
   have hgc:=fstG_parts (w:=w) hp hlh
   have hmem:=mem_bestC (firstC_mem (w:=w) hp hlh)
   have hfst:firstC ps w l h=(bestC ps w (tW ps w) l h).headD none:=rfl
   cases hb:bestC ps w (tW ps w) l h with
   | nil=>exact absurd hb hne
   | cons c cs =>
    rw [hb] at hfst
    have hfst:firstC ps w l h=c:=hfst
    rw [hfst] at hgc hmem
    rw [hgc] at hf
    have fin:∀ (fs':List (Nat × Nat)) (x10:Option Q.B),fs'=fs++headC l c→∃ m',m' < m∧∃ (ws:List (Nat × Nat)) (fs:List (Nat × Nat)) (x8 x9 y10:Option Q.B),[some (Q.B.val false (rwD n ps)),some (.val false (wD ps w)),some (.val false (fullT n (tW ps w))),some (.val false (.int i)),some (.val false (.int j)),some (.val true (ptD n ps)),some (.own (tsD fs')),some (.own (.lst (ws'.map prD++(parts l c h).reverse.map prD))),some (.val true (.int l)),some (.val true (.int h)),x10]=[some (Q.B.val false (rwD n ps)),some (.val false (wD ps w)),some (.val false (fullT n (tW ps w))),some (.val false (.int i)),some (.val false (.int j)),some (.val true (ptD n ps)),some (.own (tsD fs)),some (.own (.lst (ws.map prD))),x8,x9,y10]∧(∀ p ∈ ws,p.2≤n)∧wgt ws=m'∧m'≤200∧fs++(ws.reverse.flatMap fun p=>fstG ps w p.1 p.2)=fstG ps w i j:=fun fs' x10 e=>by
     have hwp:wgt (parts l c h).reverse < 2 * (h - l)+1:=by
      rw [wgt_rev]
      cases c with
      | none=>show 2 * (h - (l+1))+1+0 < _; omega
      | some k =>
       have:=hp _ hmem.1
       dsimp only at this
       have h3:=hmem.2.1
       show 2 * (k - (l+1))+1+(2 * (h - (k+1))+1+0) < _
       omega
     refine ⟨wgt (ws'++(parts l c h).reverse),by rw [wgt_app]; omega,ws'++(parts l c h).reverse,fs',_,_,_,by rw [List.map_append],fun p hp'=>?_,rfl,by rw [wgt_app]; omega,?_⟩
     ·rcases List.mem_append.mp hp' with z | z
      ·exact hw p (by simp [z])
      ·have z:=List.mem_reverse.mp z
       cases c with
       | none=>rw [List.mem_singleton.mp z]; exact hh
       | some k =>
        have h3:=hmem.2.1
        rcases List.mem_cons.mp z with rfl | z
        ·show k≤n; omega
        ·rw [List.mem_singleton.mp z]; exact hh
     ·rw [← hf,e,List.reverse_append,List.reverse_reverse,List.flatMap_append]
      simp only [List.append_assoc]
    refine ⟨_,rfl,trivial,_,rfl,trivial,_,rfl,trivial,_,rfl,trivial,_,rfl,trivial,n,ps,w,tW ps w,l,h,rfl,ok,hlh,hh,trivial,oD c,ixInt (i:=0) rfl (by rw [hb]; rfl),?_⟩
    cases c with
    | none =>
     refine ⟨fun β=>β=[some (Q.B.val false (rwD n ps)),some (.val false (wD ps w)),some (.val false (fullT n (tW ps w))),some (.val false (.int i)),some (.val false (.int j)),some (.val true (ptD n ps)),some (.own (tsD fs)),some (.own (.lst (ws'.map prD))),some (.val true (.int l)),some (.val true (.int h)),some (.val true .non)],⟨_,rfl,trivial,_,rfl,_,rfl,ifF rfl rfl⟩,?_⟩
     rintro β rfl
     exact ⟨⟨_,rfl⟩,_,rfl,trivial,_,rfl,trivial,_,rfl,trivial,l,none,h,rfl,_,rfl,.inl ⟨rfl,_,_,rfl,rfl,rfl,by rw [List.length_map]; exact sz_le (show ws'.length+1≤1000 by omega),fin fs _ (by simp [headC])⟩⟩
    | some k =>
     refine ⟨fun β=>β=[some (Q.B.val false (rwD n ps)),some (.val false (wD ps w)),some (.val false (fullT n (tW ps w))),some (.val false (.int i)),some (.val false (.int j)),some (.val true (ptD n ps)),some (.own (tsD (fs++[(l,k)]))),some (.own (.lst (ws'.map prD))),some (.val true (.int l)),some (.val true (.int h)),some (.val true (.int k))],⟨_,rfl,trivial,_,rfl,_,rfl,ifT rfl ⟨⟨_,rfl⟩,_,rfl,trivial,_,rfl,trivial,sz2,trivial,_,rfl,?_,?_⟩⟩,?_⟩
     ·rw [List.length_map]
      have:=congrArg List.length hf
      rw [List.length_append] at this
      exact sz_lt (by omega)
     ·unfold tsD
      rw [List.map_append]
      rfl
     ·rintro β rfl
      exact ⟨⟨_,rfl⟩,_,rfl,trivial,_,rfl,trivial,_,rfl,trivial,l,some k,h,rfl,_,rfl,.inl ⟨rfl,_,_,rfl,rfl,rfl,by rw [List.length_map]; exact sz_le (show ws'.length+2≤1000 by omega),fin (fs++[(l,k)]) _ rfl⟩⟩
  ·have hlh:¬ l < h:=by omega
   rw [fstG_nil hlh] at hf
   exact ⟨wgt ws',by omega,ws',fs,_,_,_,rfl,fun p hp'=>hw p (by simp [hp']),rfl,by omega,by simpa using hf⟩
theorem sc_most_of:FnScope ["row","i","j","table"] ["row","i","j"] (defScope s_most_of):=⟨rfl,rfl,rfl,by decide +kernel,rfl,by decide +kernel,by decide +kernel⟩
theorem ok_mostOf {fdMo:Addr} {fddMo:FuncData} (dMo:Df K mg "most_of" s_most_of ["row","i","j"] fdMo fddMo) {fdTb:Addr} {fddTb:FuncData} (dTb:Df K mg "table_of" s_table_of ["row"] fdTb fddTb) {fdGt:Addr} {fddGt:FuncData} (dGt:Df K mg "greatest_table" s_greatest_table ["row","worth"] fdGt fddGt) {fdPt:Addr} {fddPt:FuncData} (dPt:Df K mg "partners_of" s_partners_of ["row"] fdPt fddPt) {fdSt:Addr} {fddSt:FuncData} (dSt:Df K mg "stretches_rising" s_stretches_rising ["many"] fdSt fddSt) {fdLn:Addr} {fddLn:FuncData} (dLn:Df K mg "least_number" s_least_number ["partners","worth","table","i","j"] fdLn fddLn) {fdNw:Addr} {fddNw:FuncData} (dNw:Df K mg "number_with" s_number_with ["worth","table","i","k","j"] fdNw fddNw) {fdOe:Addr} {fddOe:FuncData} (dOe:Df K mg "one_each" s_one_each ["row"] fdOe fddOe) {fdFg:Addr} {fddFg:FuncData} (dFg:Df K mg "first_greatest" s_first_greatest ["row","worth","table","i","j"] fdFg fddFg) {fdBc:Addr} {fddBc:FuncData} (dBc:Df K mg "best_choices" s_best_choices ["partners","worth","table","i","j"] fdBc fddBc) {fdPa:Addr} {fddPa:FuncData} (dPa:Df K mg "parts_left" s_parts_left ["i","k","j"] fdPa fddPa) (B:Bs3 mg):FnOk P w K mg base CX0 5 fdMo fddMo ["row","i","j"] (spQ P w true fMostOf):=by
 have GTb:FnOk P w K mg base CX0 4 _ _ _ (spQ P w true fTable):= ok_table dTb dGt dPt dSt dLn dNw dOe B
 have GFg:FnOk P w K mg base CX0 3 _ _ _ (spQ P w true fFstG):= ok_fstG dFg dPt dBc dNw dPa B
 have GOe:FnOk P w K mg base CX0 1 _ _ _ (spQ P w true fOne):= ok_one dOe
 refine okQ dMo.F sc_most_of (fun ds R ⟨n,ps,i,j,e,_⟩=>by subst e; rfl) fun cdv A outer s H E hr=>⟨_,(pbs_cons (pb_if (pqt_not (pqt_chain pq_int (pqc_cons op_dLe (pq_var (i:=1)) (pqc_cons op_dLe (pq_var (i:=2)) (pqc_one op_dLe (pq_ix nok_NF ix_m (pq_var (i:=0)) pq_int)))))) pbs_never pbs_nil)
    (pbs_cons (pb_set (i:=3) (pq_call fTable.mono GTb (hr.mono (by decide)) dTb.m dTb.F.kp dTb.b (pqa_cons (pq_var (i:=0)) pqa_nil)) sc_most_of.nd)
    (pbs_one (pb_ret (pq_tup (pqa_cons (pq_ix nok_NF ix_m (pq_ix nok_NF ix_m (pq_var (i:=3)) (pq_var (i:=1))) (pq_op nok_NF (OpD.m op_dSub) (pq_var (i:=2)) (pq_var (i:=1)))) (pqa_cons (pq_call fFstG.mono GFg (hr.mono (by decide)) dFg.m dFg.F.kp dFg.b (pqa_cons (pq_var (i:=0)) (pqa_cons (pq_call fOne.mono GOe (hr.mono (by decide)) dOe.m dOe.F.kp dOe.b (pqa_cons (pq_var (i:=0)) pqa_nil)) (pqa_cons (pq_var (i:=3)) (pqa_cons (pq_var (i:=1)) (pqa_cons (pq_var (i:=2)) pqa_nil)))))) pqa_nil))))))),fun ds R h=>?_⟩
 obtain ⟨n,ps,i,j,rfl,ok,h1,h2,q⟩:=h
 have ej:(j:Int) - (i:Int)=((j - i:Nat):Int):=by omega
 refine ⟨_,rfl,_,rfl,ifT (decide_eq_true (by omega)) ⟨_,rfl,_,rfl,ifT (decide_eq_true (by omega)) ⟨_,rfl,trivial,_,rfl,_,rfl,_,rfl,ifF (by show (!decide _)=false; rw [decide_eq_true (show (j:Int)≤(n:Int) by omega)]; rfl) ?_⟩⟩⟩
 exact ⟨_,rfl,trivial,n,ps,rfl,ok,_,rfl,trivial,_,rfl,_,ixTab rfl (by omega),.inr ⟨trivial,_,rfl,trivial,_,rfl,_,rfl,_,ixRow (l:=j - i) ej (by omega),trivial,_,rfl,trivial,_,rfl,trivial,n,ps,rfl,ok,trivial,_,rfl,trivial,_,rfl,trivial,_,rfl,trivial,n,ps,w1,i,j,rfl,ok,h1,h2,trivial,sz2,trivial,q⟩⟩
theorem sc_most_ties:FnScope ["row"] ["row"] (defScope s_most_ties):=⟨rfl,rfl,rfl,by decide +kernel,rfl,by decide +kernel,by decide +kernel⟩
theorem ok_most {fdMt:Addr} {fddMt:FuncData} (dMt:Df K mg "most_ties" s_most_ties ["row"] fdMt fddMt) {fdMo:Addr} {fddMo:FuncData} (dMo:Df K mg "most_of" s_most_of ["row","i","j"] fdMo fddMo) {fdTb:Addr} {fddTb:FuncData} (dTb:Df K mg "table_of" s_table_of ["row"] fdTb fddTb) {fdGt:Addr} {fddGt:FuncData} (dGt:Df K mg "greatest_table" s_greatest_table ["row","worth"] fdGt fddGt) {fdPt:Addr} {fddPt:FuncData} (dPt:Df K mg "partners_of" s_partners_of ["row"] fdPt fddPt) {fdSt:Addr} {fddSt:FuncData} (dSt:Df K mg "stretches_rising" s_stretches_rising ["many"] fdSt fddSt) {fdLn:Addr} {fddLn:FuncData} (dLn:Df K mg "least_number" s_least_number ["partners","worth","table","i","j"] fdLn fddLn) {fdNw:Addr} {fddNw:FuncData} (dNw:Df K mg "number_with" s_number_with ["worth","table","i","k","j"] fdNw fddNw) {fdOe:Addr} {fddOe:FuncData} (dOe:Df K mg "one_each" s_one_each ["row"] fdOe fddOe) {fdFg:Addr} {fddFg:FuncData} (dFg:Df K mg "first_greatest" s_first_greatest ["row","worth","table","i","j"] fdFg fddFg) {fdBc:Addr} {fddBc:FuncData} (dBc:Df K mg "best_choices" s_best_choices ["partners","worth","table","i","j"] fdBc fddBc) {fdPa:Addr} {fddPa:FuncData} (dPa:Df K mg "parts_left" s_parts_left ["i","k","j"] fdPa fddPa) (B:Bs3 mg):FnOk P w K mg base CX0 6 fdMt fddMt ["row"] (spQ P w true fMost):=by
 have GMo:FnOk P w K mg base CX0 5 _ _ _ (spQ P w true fMostOf):= ok_mostOf dMo dTb dGt dPt dSt dLn dNw dOe dFg dBc dPa B
 refine okQ dMt.F sc_most_ties (fun ds R ⟨n,ps,e,_⟩=>by subst e; rfl) fun cdv A outer s H E hr=>⟨_,(pbs_one (pb_ret (pq_call fMostOf.mono GMo (hr.mono (by decide)) dMo.m dMo.F.kp dMo.b (pqa_cons (pq_var (i:=0)) (pqa_cons pq_int (pqa_cons (pq_ix nok_NF ix_m (pq_var (i:=0)) pq_int) pqa_nil)))))),fun ds R h=>?_⟩
 obtain ⟨n,ps,rfl,ok,q⟩:=h
 exact ⟨_,rfl,trivial,trivial,_,rfl,trivial,_,rfl,trivial,n,ps,0,n,rfl,ok,Nat.zero_le _,Nat.le_refl _,trivial,q⟩
end
end K30
end

noncomputable section
set_option Elab.async false
set_option linter.all false
set_option maxRecDepth 100000
namespace L2.Q
open PySem
section
variable {ps:List (Nat × Nat)}
def mX (ps:List (Nat × Nat)) (i j:Nat):Int:=tW ps w1 (j - i) i
theorem mX_self {i j:Nat} (h:j≤i):mX ps i j=0:=by unfold mX; rw [show j - i=0 by omega]; rfl
theorem maxI_le {l:List Int} {m:Int} (h:maxI l=some m):m ∈ l∧∀ x ∈ l,x≤m:=by
 cases l with
 | nil=>cases h
 | cons a l=>cases h; exact foldl_max_spec l a
theorem maxI_of {l:List Int} {m:Int} (h1:m ∈ l) (h2:∀ x ∈ l,x≤m):maxI l=some m:=by
 cases h:maxI l with
 | none=>cases l with | nil=>cases h1 | cons a l=>cases h
 | some k =>
  obtain ⟨g1,g2⟩:=maxI_le h
  have:=h2 _ g1
  have:=g2 _ h1
  rw [show k=m by omega]
theorem mX_left (hp:∀ p ∈ ps,p.1 < p.2) {i j:Nat} (h:i < j):maxI ((((prt ps i).filter fun k=>decide (k < j)).map fun k=>1+mX ps (i+1) k+mX ps (k+1) j)++[mX ps (i+1) j])=some (mX ps i j):=by
 have e:mX ps i j=lnum ps w1 (tW ps w1) i j:=by
  unfold mX
  rw [show j - i=(j - i - 1)+1 by omega,tW_succ hp,show i+(j - i - 1)+1=j by omega]
 rw [e]
 unfold lnum
 rw [← maxI_some]
 have e2:(((prt ps i).filter fun k=>decide (k < j)).map fun k=>1+mX ps (i+1) k+mX ps (k+1) j)=((prt ps i).filter fun k=>decide (k < j)).map fun k=>w1 (i,k)+tW ps w1 (k - i - 1) (i+1)+tW ps w1 (j - k - 1) (k+1):=by
  refine List.map_congr_left fun k _=>?_
  unfold mX
  rw [show k - (i+1)=k - i - 1 by omega,show j - (k+1)=j - k - 1 by omega]
  rfl
 rw [e2]
 unfold mX
 rw [show j - (i+1)=j - i - 1 by omega]
theorem mX_skip (hp:∀ p ∈ ps,p.1 < p.2) {i j:Nat} (h:i < j):mX ps (i+1) j≤mX ps i j:=(maxI_le (mX_left hp h)).2 _ (by simp)
theorem mX_tie (hp:∀ p ∈ ps,p.1 < p.2) {i j k:Nat} (h:(i,k) ∈ ps) (hk:k < j):1+mX ps (i+1) k+mX ps (k+1) j≤mX ps i j:=by
 have hik:=hp _ h
 dsimp only at hik
 refine (maxI_le (mX_left hp (show i < j by omega))).2 _ (List.mem_append_left _ (List.mem_map.mpr ⟨k,List.mem_filter.mpr ⟨mem_prt.mpr h,decide_eq_true hk⟩,rfl⟩))
theorem mX_cases (hp:∀ p ∈ ps,p.1 < p.2) {i j:Nat} (h:i < j):mX ps i j=mX ps (i+1) j∨∃ k,(i,k) ∈ ps∧k < j∧mX ps i j=1+mX ps (i+1) k+mX ps (k+1) j:=by
 rcases List.mem_append.mp (maxI_le (mX_left hp h)).1 with z | z
 ·obtain ⟨k,hk,e⟩:=List.mem_map.mp z
  obtain ⟨h1,h2⟩:=List.mem_filter.mp hk
  exact .inr ⟨k,mem_prt.mp h1,of_decide_eq_true h2,e.symm⟩
 ·exact .inl (List.mem_singleton.mp z)
end
section
variable {V:Nat→Nat→Int} {kvs:List (List Int × D)} {J m i:Nat}
end
theorem max_intsM {l:List Int} {m:Int} (h:maxI l=some m):dOfInts maxI [.lst (l.map D.int)]=some (.int m):=dOfInts_of h
theorem mem_tK {ks:List Int} {ps:List (List Int)} {g:Int} {p:Nat × Nat} (h:p ∈ tK ks ps g):p.1 < p.2∧p.2 < ks.length:=by
 obtain ⟨a,ha,hp⟩:=List.mem_flatMap.mp h
 obtain ⟨k,hk,rfl⟩:=List.mem_map.mp hp
 have:=List.mem_range.mp (List.mem_filter.mp hk).1
 exact ⟨by show a < a+1+k; omega,by show a+1+k < _; omega⟩
theorem tK_pw {ks:List Int} {ps:List (List Int)} {g:Int}:(tK ks ps g).Pairwise fun p q=>p.1 < q.1∨(p.1=q.1∧p.2 < q.2):=by
 unfold tK
 rw [List.pairwise_flatMap]
 refine ⟨fun a _=>?_,List.pairwise_lt_range.imp fun {a b} h x hx y hy=>?_⟩
 ·unfold rowK
  rw [List.pairwise_map]
  exact (List.pairwise_lt_range.filter _).imp fun {x y} h=>.inr ⟨rfl,by show a+1+x < a+1+y; omega⟩
 ·obtain ⟨k,_,rfl⟩:=List.mem_map.mp hx
  obtain ⟨k',_,rfl⟩:=List.mem_map.mp hy
  exact .inl h
theorem tK_nd {ks:List Int} {ps:List (List Int)} {g:Int}:(tK ks ps g).Nodup:=by
 have key:=tK_pw (ks:=ks) (ps:=ps) (g:=g)
 exact key.imp fun {p q} h e=>by subst e; omega
theorem tK_half {n m:Nat} {ok:Nat→Nat→Bool} (h:m≤n):2 * (((List.range n).take m).flatMap (rowK n ok)).length+m * (m+1)≤2 * (m * n):=by
 induction m with
 | zero=>simp
 | succ m ih =>
  have:=ih (by omega)
  rw [List.take_add_one,List.flatMap_append,List.length_append,List.getElem?_range (by omega)]
  have hr:(rowK n ok m).length≤n - (m+1):=by
   unfold rowK
   rw [List.length_map]
   exact Nat.le_trans (List.length_filter_le _ _) (by rw [List.length_range]; exact Nat.le_refl _)
  have e1:((some m).toList.flatMap (rowK n ok)).length=(rowK n ok m).length:=by simp
  rw [e1,Nat.succ_mul m n]
  have e2:(m+1) * (m+1+1)=m * (m+1)+2 * (m+1):=by rw [Nat.add_mul,Nat.mul_add m (m+1) 1,Nat.mul_add,Nat.mul_add]; omega
  rw [e2]
  omega
theorem tK_ok {ks:List Int} {ps:List (List Int)} {g:Int} (h:ks.length≤28):OkR ks.length (tK ks ps g):=by
 refine ⟨fun p hp=>mem_tK hp,tK_nd,by omega,?_⟩
 have h1:=tK_half (n:=ks.length) (m:=ks.length) (ok:=okK ks ps g) (Nat.le_refl _)
 rw [pK_all] at h1
 have h2:ks.length * ks.length≤28 * ks.length:=Nat.mul_le_mul_right _ h
 rw [Nat.mul_add,Nat.mul_one] at h1
 omega
def fMok:FD:=fun ds R=>∃ (ks:List Int) (ps:List (List Int)) (g:Int),ds=[.lst (ks.map D.int),.lst (ps.map kD),.int g]∧ks.length≤28∧ps.length≤300∧Pairs ps∧0≤g∧R (mostD (tK ks ps g) 0 ks.length)
theorem fMok.mono:Mono fMok:=fun ds R R' k h=>by obtain ⟨ks,ps,g,e,h1,h2,h3,h4,q⟩:=h; exact ⟨ks,ps,g,e,h1,h2,h3,h4,k _ q⟩
end L2.Q
end

noncomputable section
set_option Elab.async false
set_option linter.all false
set_option maxRecDepth 100000
namespace Mnt
open PySem PySem.Spec PyProof.Rows
def pickT:Option (Addr × List Int)→Addr × List Int→Option (Addr × List Int)
 | none,x=>some x
 | some m,x=>if HT.lexLt x.2 m.2=true then some x else some m
def arrT:Option (Addr × List Int)→Array Value
 | none=>#[]
 | some m=>#[.ref m.1,.ref m.1]
variable {prog:Program} {w:World} {A:Around} {R:Result→Shared→Prop} {I l S:Addr} {xs:List (Addr × List Int)}
end Mnt
namespace L2
open PySem PySem.Spec PySem.SeqAt PyProof.Rows
variable {X:Cx}
end L2
end

noncomputable section
set_option Elab.async false
set_option linter.all false
set_option maxRecDepth 100000
namespace L2.Q
open PySem PySem.Spec PySem.SeqAt PyProof.Rows
def flV:V→D
 | .non=>.non
 | .bl b=>.bl b
 | .int i=>.int i
 | .str x=>.str x
 | .ref a=>.obj a
 | _=>.non
def unS:D→List V→D
 | .lst _,vs=>.lst (vs.map flV)
 | .dT ks _,vs=>.dT ks (vs.map flV)
 | .dK ks _,vs=>.dK ks (vs.map flV)
 | d,_=>d
section
variable {P:Program} {w:World} {C:Cfg} {σ:St} {H:Hp} {β:Bet} {own:Nat→List Addr} {i:Nat}
theorem own_fl {W:Addr→Prop} {H':Hp} {d:D} {v:V} (r:RepD P w W H' d v):Own P w H (flV v) v []:=by
 cases d with
 | tup ds=>obtain ⟨a,vs,rfl,_⟩:=r; exact ⟨rfl,rfl⟩
 | lst ds=>obtain ⟨a,vs,rfl,_⟩:=r; exact ⟨rfl,rfl⟩
 | dT ks ds=>obtain ⟨a,vs,rfl,_⟩:=r; exact ⟨rfl,rfl⟩
 | dK ks ds=>obtain ⟨a,vs,rfl,_⟩:=r; exact ⟨rfl,rfl⟩
 | sT ts=>obtain ⟨a,rfl,_⟩:=r; exact ⟨rfl,rfl⟩
 | non=>cases (show v=_ from r); exact ⟨rfl,rfl⟩
 | bl b=>cases (show v=_ from r); exact ⟨rfl,rfl⟩
 | int b=>cases (show v=_ from r); exact ⟨rfl,rfl⟩
 | str b=>cases (show v=_ from r); exact ⟨rfl,rfl⟩
 | obj b=>cases (show v=_ from r); exact ⟨rfl,rfl⟩
theorem owns_fl {W:Addr→Prop} {H':Hp}:∀ {ds:List D} {vs:List V},RepDs P w W H' ds vs→Owns P w H (vs.map flV) vs []
 | [],_,e=>by cases e; exact ⟨rfl,rfl⟩
 | _::_,_,⟨v,vs,rfl,h1,h2⟩=>⟨v,vs,[],[],rfl,rfl,own_fl h1,owns_fl h2⟩
theorem own_unS {W:Addr→Prop} {H':Hp} {d:D} {o:HO} {vs:List V} {a:Addr} (r:RepDs P w W H' (shD d) vs) (sh:shO d o vs) (h:H a=some o):Own P w H (unS d vs) (.ref a) [a]:=by
 cases d with
 | lst ds=>cases sh; exact ⟨a,vs,[],rfl,h,rfl,owns_fl r⟩
 | dT ks ds=>obtain ⟨rfl,l⟩:=sh; exact ⟨a,vs,[],rfl,h,l,rfl,owns_fl r⟩
 | dK ks ds=>obtain ⟨rfl,l⟩:=sh; exact ⟨a,vs,[],rfl,h,l,rfl,owns_fl r⟩
 | _=>exact sh.elim
theorem sh_nt {d:D} {o:HO} {vs:List V} (sh:shO d o vs):∀ xs,o≠.tup xs:=fun xs z=>by
 cases d with
 | lst ds=>cases sh; cases z
 | dT ks ds=>obtain ⟨rfl,l⟩:=sh; cases z
 | dK ks ds=>obtain ⟨rfl,l⟩:=sh; cases z
 | _=>exact sh.elim
theorem SQ'.toShl {d0 d:D} {v:V} {y:Bool} (s:SQ' P w C σ H β own) (e:β[i]?=some (some (.own d0))) (hσ:σ[i]?=some (some v)) (r:Shl P w (av' C (Wn own) (yk y)) H d v (own i)):SQ' P w C σ H (β.set i (some (.shl y d))) own:=by
 refine ⟨by simp [s.len],fun j y' d' q=>?_,fun j d' q=>?_,fun j ok q=>?_,s.dm,s.dis,s.nod,s.kp,s.dmn,fun j y' d' q=>?_⟩
 ·by_cases hij:i=j
  ·subst hij; obtain ⟨e',_⟩:=set_eq q; cases e'
  ·rw [set_ne hij] at q; exact s.val j y' d' q
 ·by_cases hij:i=j
  ·subst hij; obtain ⟨e',_⟩:=set_eq q; cases e'
  ·rw [set_ne hij] at q; exact s.ow j d' q
 ·by_cases hij:i=j
  ·subst hij; obtain ⟨e',_⟩:=set_eq q; cases e'
  ·rw [set_ne hij] at q; exact s.hnd j ok q
 ·by_cases hij:i=j
  ·subst hij
   obtain ⟨e',_⟩:=set_eq q
   cases e'
   obtain ⟨_,_,_,h0⟩:=s.ow i d0 e
   exact ⟨v,hσ,r,h0⟩
  ·rw [set_ne hij] at q; exact s.shl j y' d' q
theorem SQ'.unShl {d:D} {y:Bool} (s:SQ' P w C σ H β own) (e:β[i]?=some (some (.shl y d))):∃ a o vs,σ[i]?=some (some (.ref a))∧own i=[a]∧H a=some o∧shO d o vs∧RepDs P w (av' C (Wn own) (yk y)) H (shD d) vs∧C.H0 a=none∧SQ' P w C σ H (β.set i (some (.own (unS d vs)))) own:=by
 obtain ⟨v,h1,⟨a,o,vs,rfl,h2,h3,h4,h5⟩,h6⟩:=s.shl i y d e
 refine ⟨a,o,vs,h1,h2,h3,h4,h5,h6 a (by rw [h2]; simp),by simp [s.len],fun j y' d' q=>?_,fun j d' q=>?_,fun j ok q=>?_,s.dm,s.dis,s.nod,s.kp,s.dmn,fun j y' d' q=>?_⟩
 ·by_cases hij:i=j
  ·subst hij; obtain ⟨e',_⟩:=set_eq q; cases e'
  ·rw [set_ne hij] at q; exact s.val j y' d' q
 ·by_cases hij:i=j
  ·subst hij
   obtain ⟨e',_⟩:=set_eq q
   cases e'
   exact ⟨.ref a,h1,by rw [h2]; exact own_unS h5 h4 h3,h6⟩
  ·rw [set_ne hij] at q; exact s.ow j d' q
 ·by_cases hij:i=j
  ·subst hij; obtain ⟨e',_⟩:=set_eq q; cases e'
  ·rw [set_ne hij] at q; exact s.hnd j ok q
 ·by_cases hij:i=j
  ·subst hij; obtain ⟨e',_⟩:=set_eq q; cases e'
  ·rw [set_ne hij] at q; exact s.shl j y' d' q
theorem sh_rep {W:Addr→Prop} {d:D} {o:HO} {vs:List V} {a:Addr} (sh:shO d o vs) (h:H a=some o) (nw:¬ W a) (r:RepDs P w W H (shD d) vs):RepD P w W H d (.ref a):=by
 cases d with
 | lst ds=>cases sh; exact ⟨a,vs,rfl,h,nw,r⟩
 | dT ks ds=>obtain ⟨rfl,l⟩:=sh; exact ⟨a,vs,rfl,h,l,nw,r⟩
 | dK ks ds=>obtain ⟨rfl,l⟩:=sh; exact ⟨a,vs,rfl,h,l,nw,r⟩
 | _=>exact sh.elim
theorem SQ'.freezeS {d:D} {y:Bool} (s:SQ' P w C σ H β own) (e:β[i]?=some (some (.shl y d))):SQ' P w C σ H (β.set i (some (.val y d))) (ownSet own i []):=by
 obtain ⟨a,o,vs,h1,h2,h3,h4,h5,h6,s'⟩:=s.unShl e
 have hl:i < β.length:=(List.getElem?_eq_some_iff.mp e).1
 have f:=s'.freeze (get_set hl)
 have sub:∀ c,av' C (Wn (ownSet own i [])) (yk y) c→av' C (Wn own) (yk y) c:=avp_mono (fun c z=>wn_set z) _
 have q:=SQ'.setVal (i:=i) (d:=d) (v:=.ref a) (y:=y) f (sh_rep h4 h3 (fun z=>?_) (RepDs.anti sub h5))
 ·have es:σ.set i (some (.ref a))=σ:=by
   apply List.ext_getElem?
   intro j
   rw [List.getElem?_set]
   by_cases hij:i=j
   ·subst hij
    rw [if_pos rfl,h1,if_pos (List.getElem?_eq_some_iff.mp h1).1]
   ·rw [if_neg hij]
  have eo:ownSet (ownSet own i []) i []=ownSet own i []:=by
   funext j
   by_cases hij:i=j
   ·rw [← hij,os_eq,os_eq]
   ·rw [os_ne hij,os_ne hij]
  rw [es,List.set_set,List.set_set,eo] at q
  exact q
 ·have nW:¬ Wn (ownSet own i []) a:=fun ⟨j,hj⟩=>by
   obtain ⟨hj,ne⟩:=ownSet_sub hj
   exact ne (s.dis j i a hj (by rw [h2]; simp))
  rcases z with z | z
  ·cases y with
   | true=>exact z.elim nW fun z=>z h6
   | false=>exact nW z
  ·exact (s.dm i a (by rw [h2]; simp)).2.2.2 z
end
abbrev kYg (k:Kd) (d:D):Prop:=match k with
 | .own=>True
 | .yng=>True
 | _=>d.flat=true
theorem KV.yg {P:Program} {w:World} {C:Cfg} {Z:Hp × (Addr→Prop)} {own:Nat→List Addr} {H:Hp} {d:D} {v:V} {k:Kd} (f:kYg k d) (r:KV P w C Z own H k d v):RepD P w (av C (Wn own) .yng) H d v:=by
 cases k with
 | own=>exact r.yng
 | yng=>exact r
 | old=>exact RepD.flat f r
 | bor=>exact RepD.flat f r
theorem RepDs.snoc {P:Program} {w:World} {W:Addr→Prop} {H:Hp} {d:D} {v:V} (h:RepD P w W H d v):∀ {ds:List D} {vs:List V},RepDs P w W H ds vs→RepDs P w W H (ds++[d]) (vs++[v])
 | [],_,e=>by cases e; exact ⟨v,[],rfl,h,rfl⟩
 | _::_,_,⟨u,r,rfl,h1,h2⟩=>⟨u,r++[v],rfl,h1,RepDs.snoc h h2⟩
section
variable {X:Cx} {C:Cfg} {k e:Expr} {es:List Expr} {φ φk:PhiQ} {φs:PhiQS} {i:Nat} {x:Str} {pos pos' px pc ap cp:Pos} {p pk:Bool}
def qFrzS (i:Nat):PhiQ:=fun β R=>∃ d,β[i]?=some (some (.shl true d))∧R d .yng (β.set i (some (.val true d)))
theorem pq_frzS (hN:X.N[i]?=some x:=by rfl) (hv:Vis X.env.scope x:=by first | exact .inl rfl | exact .inr (.inl rfl) | exact .inr (.inr rfl)) (hd:(x == ("__debug__" : Str))=false:=by decide) (hcd:(x == ("__classdict__" : Str))=false:=by decide) :
  PQ X C false (.Name x pos) (qFrzS i):=⟨fun β R R' k h=>by obtain ⟨b,e,h⟩:=h; exact ⟨b,e,k _ _ _ h⟩,(pe_var hN hv hd hcd).pre fun σ H Q h=>by
 obtain ⟨β,own,s,d,e,q⟩:=h
 have f:=s.freezeS e
 obtain ⟨v,h1,h2⟩:=f.valA (y:=true) (get_set (List.getElem?_eq_some_iff.mp e).1)
 exact ⟨v,h1,q v H _ ⟨f,⟨fun b z=>.inl (wn_set z),Kp.refl,fun _ z=>z⟩,fun z=>(nomatch z),fun _ z=>wn_set z⟩ h2⟩⟩
theorem sub_os {own:Nat→List Addr} {i:Nat} {a:Addr} (h:own i=[a]):∀ c,Wn (ownSet own i [a]) c→Wn own c:=fun c ⟨j,hj⟩=>by
 by_cases hij:i=j
 ·rw [← hij,os_eq] at hj; exact ⟨i,by rw [h]; exact hj⟩
 ·rw [os_ne hij] at hj; exact ⟨j,hj⟩
theorem SQ'.putS {P:Program} {w:World} {U:Addr→Prop} {σ:St} {H:Hp} {β:Bet} {own:Nat→List Addr} {d d':D} {a:Addr} {o:HO} {vs':List V} (b:SQ' P w (C.u U) σ H β own) (e:β[i]?=some (some (.shl true d))) (hσ:σ[i]?=some (some (.ref a)))
  (sh:shO d' o vs') (r:RepDs P w (av (C.u U) (Wn own) .yng) (upd H a o) (shD d') vs'):SQ' P w C.z σ (upd H a o) (β.set i (some (.shl true d'))) (ownSet own i [a])∧(∀ c ∈ [a],c ∈ own i∨(C.H0 c=none∧¬ Wn own c∧U c))∧Wn own a∧∃ oc,H a=some oc∧∀ xs,oc≠.tup xs:=by
 obtain ⟨a',o1,vs,h1,h2,h3,h4,h5,h6,s'⟩:=b.unShl e
 rw [hσ] at h1
 cases h1
 have hl:i < β.length:=(List.getElem?_eq_some_iff.mp e).1
 have ha:a ∈ own i:=by rw [h2]; simp
 have hA:∀ c ∈ [a],c ∈ own i∨(C.H0 c=none∧¬ Wn own c∧U c):=fun c hc=>.inl (by rw [h2]; exact hc)
 have q:=s'.putIn (get_set hl) hσ ha (own_unS r sh upd_same) (by simp) hA
 rw [List.set_set] at q
 have q2:=q.toShl (d:=d') (y:=true) (get_set (by simpa using hl)) hσ ⟨a,o,vs',rfl,by rw [os_eq],upd_same,sh,RepDs.anti (fun c z=>?_) r⟩
 ·rw [List.set_set] at q2
  exact ⟨q2,hA,⟨i,ha⟩,o1,h3,sh_nt h4⟩
 ·rcases z with z | z
  ·exact av_mono (C:=C) (sub_os h2) .yng c z
  ·exact z.elim
theorem kp_shl {H:Hp} {a:Addr} {o oc:HO} {W:Addr→Prop} (h:H a=some oc) (ht:∀ xs,oc≠.tup xs) (hw:W a):Kp W H (upd H a o):=(kp_upd h ht).mono fun c z=>by rw [z]; exact hw
theorem pb_appS (he:∀ U,PQ X (C.u U) p e φ) (hN:X.N[i]?=some x:=by rfl) (hv:Vis X.env.scope x:=by first | exact .inl rfl | exact .inr (.inl rfl) | exact .inr (.inr rfl)) (hd:(x == ("__debug__" : Str))=false:=by decide) (hcd:(x == ("__classdict__" : Str))=false:=by decide)
  (hbase:attributeBase (.Name x px) "append" X.env (eval (.Name x px) X.env)=eval (.Name x px) X.env:=by rfl)
  (hfew:((backTo cp (starEach [e] X.env)).all (fun x=>!x.1) && (backToKw cp (keywordEach [] X.env)).all (fun x=>x.1.isSome) && decide ([e].length+([]:List Keyword).length+(if ([]:List Keyword).isEmpty then 0 else 1) < 30))=true:=by rfl)
  (hline:(ap.endLine == cp.line)=true:=by rfl) (hs:starEach [e] X.env=(false,eval e X.env)::starEach [] X.env:=by rfl) (hplain:(backTo cp (starEach [] X.env)).any (·.1)=false:=by rfl)
  (hsw:swapsWith (.Call (.Attribute (.Name x px) "append" ap) [e] [] cp) none pos.line X.env=pure false:=by rfl) :
  PB X C (.Expr (.Call (.Attribute (.Name x px) "append" ap) [e] [] cp) pos) (fun E β=>(∃ ds,β[i]?=some (some (.shl true (.lst ds))))∧φ β fun d k β'=>kYg k d∧∃ ds,β'[i]?=some (some (.shl true (.lst ds)))∧ds.length < sizeLine∧E.nx (β'.set i (some (.shl true (.lst (ds++[d])))))):=by
 refine ⟨fun E E' β l h=>by obtain ⟨h1,q⟩:=h; exact ⟨h1,(he fun _=>False).mono _ _ _ (fun d k β' h=>by obtain ⟨f,ds,h1,h2,q⟩:=h; exact ⟨f,ds,h1,h2,l.nx _ q⟩) q⟩,fun pins s σ H D I ⟨Z,E,β,⟨own,sq,n⟩,⟨⟨ds0,hb⟩,q⟩,ok⟩=>?_⟩
 refine ps_expr (pos:=pos) (pe_bm (apos:=ap) (cpos:=cp) PySem.F.plainAttrs_list PySem.F.slot_list_append PySem.F.type_list_append mt_append (pe_var (pos:=px) hN hv hd hcd) (pa_cons (he fun a=>H a=none).pe pa_nil hs) hbase hfew hline hs hplain) hsw pins s σ H D I ?_
 obtain ⟨a,o0,vs,h1,h2,h3,h4,_⟩:=sq.unShl hb
 cases h4
 refine ⟨.ref a,h1,.inl ⟨rfl,vs,SqL.of h3⟩,tQ.of (he fun a=>H a=none) (sq.withU (C:=C.z) (U:=fun a=>H a=none) fun a z=>z) q fun d k β' v H1 own1 ⟨f,ds,hb',hl,q⟩ o r=>?_⟩
 obtain ⟨a',o1,vs',g1,g2,g3,g4,g5,_,_⟩:=o.sq.unShl hb'
 rw [h1] at g1
 cases g1
 cases g4
 have wa:av (C.u fun a=>H a=none) (Wn own1) .yng a:=.inl ⟨i,by rw [g2]; simp⟩
 have kp:Kp (av (C.u fun a=>H a=none) (Wn own1) .yng) H1 (upd H1 a (.lst (vs'++[v]))):=kp_shl g3 (fun xs z=>by cases z) wa
 obtain ⟨s2,hA,hw,hoc⟩:=o.sq.putS (d':=.lst (ds++[d])) (o:=.lst (vs'++[v])) (vs':=vs'++[v]) hb' h1 rfl (RepDs.snoc ((r.yg f).keep kp) ((RepDs.anti (fun c z=>.inl z) g5).keep kp))
 exact ⟨a,vs',v,rfl,rfl,g3,by rw [g5.length]; exact hl,ok.nx _ _ _ ⟨_,s2,sn_put (C:=C) (n.trans o.sn) (fun b z=>n.free z) hw hoc hA⟩ q⟩
theorem pb_dputS (hu:X.A.units+1 < cLine) (he:∀ U,PQ X (C.u U) p e φ) (hk:∀ U,PQ X (C.u U) pk k φk) (hN:X.N[i]?=some x:=by rfl) (hv:Vis X.env.scope x:=by first | exact .inl rfl | exact .inr (.inl rfl) | exact .inr (.inr rfl)) (hd:(x == ("__debug__" : Str))=false:=by decide) (hcd:(x == ("__classdict__" : Str))=false:=by decide)
  (hs:swapsWith e (some (.Subscript (.Name x px) k pos')) pos.line X.env=pure false:=by rfl) :
  PB X C (.Assign [.Subscript (.Name x px) k pos'] e pos) (fun E β=>φ β fun d kd β1=>(kYg kd d∧kd≠.bor)∧(∃ kvs,β1[i]?=some (some (.shl true (dA kvs))))∧φk β1 fun jd _ β2=>∃ kvs t,jd=.tup (t.map D.int)∧β2[i]?=some (some (.shl true (dA kvs)))∧valA kvs t=none∧kvs.length < sizeLine∧E.nx (β2.set i (some (.shl true (dA (kvs++[(t,d)])))))):=by
 refine ⟨fun E E' β l q=>(he fun _=>False).mono _ _ _ (fun d kd β1 h=>by obtain ⟨f,h0,q⟩:=h; exact ⟨f,h0,(hk fun _=>False).mono _ _ _ (fun jd _ β2 h=>by obtain ⟨kvs,t,h1,h2,h3,h4,q⟩:=h; exact ⟨kvs,t,h1,h2,h3,h4,l.nx _ q⟩) q⟩) q,fun pins s σ H De I ⟨Z,E,β,⟨own,sq,n⟩,q,ok⟩=>?_⟩
 refine ps_dput hu (pe_var (pos:=px) hN hv hd hcd) (hk fun a=>H a=none).pe (he fun a=>H a=none).pe hs pins s σ H De I ?_
 refine tQ.of (he fun a=>H a=none) (sq.withU (C:=C.z) (U:=fun a=>H a=none) fun a z=>z) q fun d kd β1 v H1 own1 ⟨⟨f,nb⟩,⟨kvs0,hb0⟩,q⟩ o r=>?_
 obtain ⟨a0,_,_,hv0,_⟩:=o.sq.unShl hb0
 refine ⟨_,hv0,tQ.of (hk fun a=>H a=none) o.sq q fun jd kj β2 jv H2 own2 ⟨kvs,t,e1,hb,hn,hl,q⟩ o2 r2=>?_⟩
 subst e1
 have rv:=(KV.held (Z:=(H,Wn own)) nb r o2.sn).yg f
 obtain ⟨a,o1,vs,g1,g2,g3,g4,g5,_,_⟩:=o2.sq.unShl hb
 rw [hv0] at g1
 cases g1
 obtain ⟨rfl,l⟩:=g4
 obtain ⟨b,us,rfl,hb1,rt⟩:=r2.rep
 rw [L2.reps_ints rt] at hb1
 have hval:valV ((kvs.map fun p=>iK p.1).zip vs) (iK t)=none:=by
  have:=(reps_at (k:=iK t) (ks:=kvs.map fun p=>iK p.1) (ds:=kvs.map (·.2)) l g5).1
  rw [valK_A,hn] at this
  exact Option.isNone_iff_eq_none.mp (by rw [← Option.not_isSome,this]; rfl)
 have hnew:putK ((kvs.map fun p=>iK p.1).zip vs) (iK t) v=((kvs++[(t,d)]).map fun p=>iK p.1).zip (vs++[v]):=by
  rw [putK_new v hval,List.map_append,List.zip_append l]
  rfl
 refine ⟨a0,_,rfl,.inr ⟨_,iK t,b,g3,rfl,by rw [iK_kV]; exact hb1,by rw [List.length_zip,← l,Nat.min_self,List.length_map]; exact hl,rfl⟩,?_⟩
 have wa:av (C.u fun a=>H a=none) (Wn own2) .yng a0:=.inl ⟨i,by rw [g2]; simp⟩
 have kp:Kp (av (C.u fun a=>H a=none) (Wn own2) .yng) H2 (upd H2 a0 (.dT (putK ((kvs.map fun p=>iK p.1).zip vs) (iK t) v))):=kp_shl g3 (fun xs z=>by cases z) wa
 obtain ⟨s2,hA,hw,hoc⟩:=o2.sq.putS (d':=dA (kvs++[(t,d)])) (o:=.dT (putK ((kvs.map fun p=>iK p.1).zip vs) (iK t) v)) (vs':=vs++[v]) hb hv0 ⟨by rw [hnew],by rw [List.length_map,List.length_append,List.length_append,← l,List.length_map]; rfl⟩
  (by show RepDs _ _ _ _ ((kvs++[(t,d)]).map (·.2)) _; rw [List.map_append]; exact RepDs.snoc (rv.keep kp) ((RepDs.anti (fun c z=>.inl z) g5).keep kp))
 exact ok.nx _ _ _ ⟨_,s2,sn_put (C:=C) ((n.trans o.sn).trans o2.sn) (fun b z=>n.free z) hw hoc hA⟩ q
theorem pb_dnewS (hN:X.N.Nodup) (hi:X.N[i]?=some x:=by rfl) (hx:Loc X.env.scope x:=by first | exact .inl rfl | exact .inr rfl)
  (hs:swapsWith (.Dict [] [] pc) (some (.Name x pos')) pos.line X.env=pure false:=by rfl) (hf:X.fn x=true∨X.env.scope.names.lookup x=some .local:=by first | exact .inl rfl | exact .inr rfl | assumption) :
  PB X C (.Assign [.Name x pos'] (.Dict [] [] pc) pos) (fun E β=>i < β.length∧E.nx (β.set i (some (.shl true (dA []))))) :=
 ⟨fun E E' β l h=>⟨h.1,l.nx _ h.2⟩,fun pins s σ H D I ⟨Z,E,β,⟨own,sq,n⟩,⟨hil,q⟩,ok⟩=>by
  refine ps_set hN hi hx pe_dnewT hs hf pins s σ H D I fun a ha=>?_
  have h0:C.H0 a=none:=Decidable.by_contra fun z=>sq.dmn a z ha
  have nw:¬ Wn own a:=fun z=>sq.dmW a z ha
  have s1:=(sq.withU (C:=C.z) (U:=fun c=>c=a) fun c z=>by rw [z]; exact ha).same (Same.new (o:=.dT []) ha)
  have s2:=s1.setOwn (i:=i) (own_unS (d:=dA []) (vs:=[]) (W:=fun _=>False) (H':=H) (by rfl) ⟨rfl,rfl⟩ upd_same) (by simp) fun c hc=>⟨by rw [List.mem_singleton.mp hc]; exact h0,by rw [List.mem_singleton.mp hc]; exact nw,List.mem_singleton.mp hc⟩
  have s3:=s2.toShl (d:=dA []) (y:=true) (get_set hil) (get_set (by rw [← sq.len]; exact hil)) ⟨a,.dT [],[],rfl,by rw [os_eq],upd_same,⟨rfl,rfl⟩,rfl⟩
  rw [List.set_set] at s3
  refine ok.nx _ _ _ ⟨_,s3,?_⟩ q
  have m:=n.same (Same.new (o:=.dT []) ha)
  exact ⟨fun b ⟨j,hj⟩=>by
   by_cases hij:i=j
   ·rw [← hij,os_eq] at hj
    rw [List.mem_singleton.mp hj]
    exact .inr (n.free ha)
   ·rw [os_ne hij] at hj
    exact m.w b ⟨j,hj⟩,m.k,m.d⟩⟩
theorem pb_lstS (he:∀ U,PQA X (C.u U) p es φs) (hN:X.N.Nodup) (hi:X.N[i]?=some x:=by rfl) (hx:Loc X.env.scope x:=by first | exact .inl rfl | exact .inr rfl)
  (hs:swapsWith (.List es pc) (some (.Name x pos')) pos.line X.env=pure false:=by rfl) (hf:X.fn x=true∨X.env.scope.names.lookup x=some .local:=by first | exact .inl rfl | exact .inr rfl | assumption) :
  PB X C (.Assign [.Name x pos'] (.List es pc) pos) (fun E β=>φs β fun ds ks β'=>kAll ks=.yng∧ds.length≤sizeLine∧i < β'.length∧E.nx (β'.set i (some (.shl true (.lst ds))))) :=
 ⟨fun E E' β l h=>(he fun _=>False).mono _ _ _ (fun ds ks β' h=>⟨h.1,h.2.1,h.2.2.1,l.nx _ h.2.2.2⟩) h,fun pins s σ H D I ⟨Z,E,β,⟨own,sq,n⟩,q,ok⟩=>by
  refine ps_set hN hi hx (pe_lst (he fun a=>H a=none).pa) hs hf pins s σ H D I ?_
  refine tQS.of (he fun a=>H a=none) (sq.withU (C:=C.z) (U:=fun a=>H a=none) fun a z=>z) q fun ds ks β1 vs H1 own1 ⟨hk,hl,hil,q⟩ o r=>⟨by rw [r.length]; exact hl,fun a ha=>?_⟩
  have hHa:H a=none:=o.sn.free ha
  have h0:C.H0 a=none:=Decidable.by_contra fun z=>o.sq.dmn a z ha
  have nw:¬ Wn own1 a:=fun z=>o.sq.dmW a z ha
  have rr:=r.reps
  rw [hk] at rr
  have s1:=o.sq.same (Same.new (o:=.lst vs) ha)
  have s2:=s1.setOwn (i:=i) (own_unS (d:=.lst ds) (vs:=vs) rr rfl upd_same) (by simp) fun c hc=>⟨by rw [List.mem_singleton.mp hc]; exact h0,by rw [List.mem_singleton.mp hc]; exact nw,by rw [List.mem_singleton.mp hc]; exact hHa⟩
  have s3:=s2.toShl (d:=.lst ds) (y:=true) (get_set hil) (get_set (by rw [← o.sq.len]; exact hil)) ⟨a,.lst vs,vs,rfl,by rw [os_eq],upd_same,rfl,(RepDs.grow (fun c z=>?_) rr).same (Same.new ha)⟩
  ·rw [List.set_set] at s3
   refine ok.nx _ _ _ ⟨_,s3,?_⟩ q
   have m:=(n.trans o.sn).same (Same.new (o:=.lst vs) ha)
   exact ⟨fun b ⟨j,hj⟩=>by
    by_cases hij:i=j
    ·rw [← hij,os_eq] at hj
     rw [List.mem_singleton.mp hj]
     exact .inr (n.free hHa)
    ·rw [os_ne hij] at hj
     exact m.w b ⟨j,hj⟩,m.k,m.d⟩
  ·rcases z with z | z
   ·rcases z with ⟨j,hj⟩ | z
    ·by_cases hij:i=j
     ·rw [← hij,os_eq] at hj
      rw [List.mem_singleton.mp hj]
      exact .inr ha
     ·rw [os_ne hij] at hj
      exact .inl (.inl ⟨j,hj⟩)
    ·exact .inl (.inr z)
   ·exact z.elim⟩
def rShl:R2:=fun x y H Q=>∃ (p:Addr) (ks:List (List Key)) (vs:List V) (t:List Int) (v:V),x=.ref p∧DGet H p y (valV (ks.zip vs) (iK t))∧valV (ks.zip vs) (iK t)=some v∧Q v H
theorem ixd_s (hu:X.A.units+1 < cLine):IxR X rShl:=by
 intro value slice pins s σ H x y v u Q I rx ry h hs
 obtain ⟨p,ks,vs,t,w',rfl,g,hw,q⟩:=h
 rw [hw] at g
 cases (show v=Value.ref p from rx)
 exact tail_any (dict_typeIs I g) PySem.F.slot_dict_getitem.lookup (d_getItem hu I g ry fun u' s' I' r'=>⟨w',H,I',r',q⟩) hs
def qGetS (i:Nat) (φk:PhiQ):PhiQ:=fun β R=>(∃ d,β[i]?=some (some (.shl true d)))∧φk β fun jd _ β1=>∃ kvs t d,jd=.tup (t.map D.int)∧β1[i]?=some (some (.shl true (dA kvs)))∧valA kvs t=some d∧R d .yng β1
theorem pq_getS (hu:X.A.units+1 < cLine) (hk:PQ X C pk k φk) (hN:X.N[i]?=some x:=by rfl) (hv:Vis X.env.scope x:=by first | exact .inl rfl | exact .inr (.inl rfl) | exact .inr (.inr rfl)) (hd:(x == ("__debug__" : Str))=false:=by decide) (hcd:(x == ("__classdict__" : Str))=false:=by decide) (hs:PlainIx k:=by exact fun _ _=>rfl) :
  PQ X C pk (.Subscript (.Name x px) k pos) (qGetS i φk) :=
 ⟨fun β R R' kk h=>⟨h.1,hk.mono _ _ _ (fun jd _ β1 h=>by obtain ⟨kvs,t,d,h1,h2,h3,q⟩:=h; exact ⟨kvs,t,d,h1,h2,h3,kk _ _ _ q⟩) h.2⟩,(pe_ix (ixd_s hu) (pe_var (pos:=px) hN hv hd hcd) hk.pe hs).pre fun σ H Q ⟨β,own,sq,⟨d0,hb0⟩,q⟩=>by
  obtain ⟨a0,_,_,hv0,_⟩:=sq.unShl hb0
  refine ⟨_,hv0,tQ.of hk sq q fun jd kj β1 jv H1 own1 ⟨kvs,t,d,e1,hb,hval,q⟩ o r=>?_⟩
  subst e1
  obtain ⟨a,o1,vs,g1,g2,g3,g4,g5,_,_⟩:=o.sq.unShl hb
  rw [hv0] at g1
  cases g1
  obtain ⟨rfl,l⟩:=g4
  obtain ⟨b,us,rfl,hb1,rt⟩:=r.rep
  rw [L2.reps_ints rt] at hb1
  obtain ⟨w',hw,rw'⟩:=(reps_at (k:=iK t) (ks:=kvs.map fun p=>iK p.1) (ds:=kvs.map (·.2)) l g5).2 d (by rw [valK_A]; exact hval)
  exact ⟨a0,_,vs,t,w',rfl,DGet.t g3 (by rw [iK_kV]; exact hb1),hw,q _ _ own1 o (RepD.anti (fun c z=>.inl z) rw')⟩⟩
end
end L2.Q
end

noncomputable section
set_option Elab.async false
set_option linter.all false
set_option maxRecDepth 100000
namespace L2.Q
open PySem PySem.Spec PySem.SeqAt PyProof.Rows
def loopF (τ:PhiQB) (T:Nat) (ds:List D) (β0:Bet) (K:List D→Prop):Prop:=∃ I:Nat→Bet→List D→Prop,I 0 β0 [] ∧
 (∀ i d β o,ds[i]?=some d→I i β o→τ (β.set T (some (.val true d))) fun t β2=>if t=true then o.length < sizeLine∧I (i+1) β2 (o++[d]) else I (i+1) β2 o)∧∀ β o,I ds.length β o→hndOk β0 β∧K o
theorem loopF.mono {τ:PhiQB} {T:Nat} {ds:List D} {β0:Bet} {K K':List D→Prop} (h:∀ o,K o→K' o) (q:loopF τ T ds β0 K):loopF τ T ds β0 K':=let ⟨I,h0,h1,h2⟩:=q; ⟨I,h0,h1,fun β o z=>⟨(h2 β o z).1,h _ (h2 β o z).2⟩⟩
section
variable {X:Cx} {C:Cfg} {lk:List (Option Nat)} {τ:PhiQB} {T:Nat}
theorem filt_core {σ:St} {H1:Hp} {β:Bet} {own:Nat→List Addr} {a:Addr} {J:It} {ds:List D} {K:List D→Prop} {End:Hp→Prop}
  (τm:∀ β R R',(∀ d β,R d β→R' d β)→τ β R→τ β R')
  (inj:∀ (i i' j:Nat),lk[i]?=some (some j)→lk[i']?=some (some j)→i=i') (hT:∀ j,lk[T]?≠some (some j)) (hTl:T < lk.length)
  (s1:SQ X C σ H1 β own) (ha:H1 a=none) (it:ItD X (av C (Wn own) .yng) J ds H1) (q:loopF τ T ds (inBet lk β) K)
  (fin:∀ o H',K o→Out X C σ H1 own true β H' own→KV X.prog X.w C (H1,Wn own) own H' .yng (.lst o) (.ref a)→End H') :
  tLoop J (gName T) (tQB X (C.u fun c=>c=a) true τ) (fun N σ H=>(∃ v,σ[T]?=some (some v)∧∃ xs,H a=some (.lst xs)∧xs.length < sizeLine∧N σ (upd H a (.lst (xs++[v])))))
   (fun _ H'=>End H') (inSt lk σ) (upd H1 a (.lst [])):=by
 obtain ⟨I,i0,i1,i2⟩:=q
 have h0:C.H0 a=none:=Decidable.by_contra fun z=>s1.dmn a z ha
 have sm:Same H1 (upd H1 a (.lst [])):=Same.new ha
 have nav:¬ av C (Wn own) .yng a:=fun z=>z.elim (fun z=>s1.dmW a z ha) fun z=>z h0
 let W:Addr→Prop:=fun b=>av C (Wn own) .yng b∨H1 b=none
 let S:Nat→St→Hp→Prop:=fun i σ' H'=>∃ βi owni vs o,SQ X (C.u fun c=>c=a) σ' H' βi owni∧(∀ c,Wn owni c→Wn (inOwn lk β own) c)∧H' a=some (.lst vs)∧RepDs X.prog X.w W H' o vs ∧
  Same H1 H'∧σ'.length=lk.length∧(∀ j,j≠T→σ'[j]?=(inSt lk σ)[j]?)∧I i βi o
 have itw:=it (fun b=>av C (Wn own) .yng b∨H1 b=none) fun b z=>z
 refine ⟨fun i m σ' H'=>i≤ds.length∧m=ds.length - i∧S i σ' H',⟨_,Nat.zero_le _,rfl,inBet lk β,inOwn lk β own,[],[],s1.enter ha inj,fun _ z=>z,upd_same,rfl,sm,by unfold inSt; simp,fun _ _=>rfl,i0⟩,?_⟩
 rintro i m σ2 H2 ⟨hi,rfl,βi,owni,vs,o,sq,le,hav,os,pu,hlen,st,hl⟩
 obtain ⟨it1,it2⟩:=itw i H2 (pu.kp.mono fun b z=>.inr z)
 by_cases hlt:i < ds.length
 ·right
  have hd:ds[i]?=some ds[i]:=List.getElem?_eq_getElem hlt
  obtain ⟨go,yl⟩:=it1 _ hd
  refine ⟨go,fun σ' H'=>S (i+1) σ' H',fun σ' H' h=>⟨_,by omega,hlt,rfl,h⟩,fun x H3 y=>?_⟩
  obtain ⟨s3,r3⟩:=yl x H3 y
  have r3':RepD X.prog X.w W H3 ds[i] x:=r3
  have sub:∀ c,av' (C.u fun c=>c=a) (Wn owni) .yng c→W c:=fun c z=>z.elim (fun z=>.inl (z.imp (fun z=>inOwn_le c (le c z)) id)) fun z=>.inr (by rw [z]; exact ha)
  have s4:=(sq.same s3).setVal (i:=T) (y:=true) (RepD.anti sub r3')
  have le4:∀ c,Wn (ownSet owni T []) c→Wn (inOwn lk β own) c:=fun c z=>le c (wn_set z)
  refine ⟨_,_,s4,τm _ _ _ (fun t β5 q H5 own5 o5=>?_) (i1 i _ βi o hd hl)⟩
  obtain ⟨s5,e5⟩:=o5.pu rfl
  have ee:Same H1 H5:=(pu.trans s3).trans s5
  have os5:RepDs X.prog X.w W H5 o vs:=(os.same s3).same s5
  have hav5:H5 a=some (.lst vs):=s5 _ _ (s3 _ _ hav)
  have le5:∀ c,Wn own5 c→Wn (inOwn lk β own) c:=fun c z=>le4 c (o5.le c z)
  have st5:∀ j,j≠T→(σ2.set T (some x))[j]?=(inSt lk σ)[j]?:=fun j hj=>(set_ne (Ne.symm hj)).trans (st j hj)
  cases t with
  | false=>exact ⟨β5,own5,vs,o,o5.sq,le5,hav5,os5,ee,by simpa using hlen,st5,q⟩
  | true =>
   obtain ⟨hz,q⟩:=q
   have kp:Kp W H5 (upd H5 a (.lst (vs++[x]))):=kp_shl hav5 (fun xs z=>by cases z) (.inr ha)
   refine ⟨x,get_set (by rw [hlen]; exact hTl),vs,hav5,by rw [os5.length]; exact hz,β5,own5,vs++[x],o++[ds[i]],o5.sq.setU hav5 (fun xs z=>by cases z) h0,le5,upd_same,RepDs.snoc ((r3'.same s5).keep kp) (os5.keep kp),fun b ob e=>?_,by simpa using hlen,st5,q⟩
   rw [upd_ne (fun z'=>by rw [z',ha] at e; cases e)]
   exact ee b ob e
 ·left
  have e:i=ds.length:=by omega
  subst e
  obtain ⟨hh,q⟩:=i2 βi o hl
  have sn:Sn (H1,Wn (inOwn lk β own)) H2 (Wn owni):=⟨fun b z=>.inl (le b z),pu.kp.mono fun b z=>.inr z,fun b z e=>z (pu.free e)⟩
  have lv:SQ X C σ H2 β own:=s1.leave sq sn le hh fun j ok i' e1 e2=>st i' fun z=>hT j (z ▸ e2)
  exact ⟨it2 (Nat.le_refl _),fin o H2 q ⟨lv,⟨fun b z=>.inl z,pu.kp.mono fun b z=>.inr z,fun b z e=>z (pu.free e)⟩,fun z=>⟨pu,rfl⟩,fun _ z=>z⟩ ⟨a,vs,rfl,hav,nav,RepDs.anti (fun c z=>.inl z) os⟩⟩
variable {scope:Scope} {N':List Str} {it1:Expr} {ifs:List Expr} {ι:PhiQI} {pos px py:Pos} {x:Str} {pi:Bool}
def qFilt (lk:List (Option Nat)) (ι:PhiQI) (τ:PhiQB) (T:Nat):PhiQ:=fun β R=>ι β fun ds k β1=>k=.yng∧loopF τ T ds (inBet lk β1) fun o=>R (.lst o) .yng β1
theorem lcF (T:Nat) (N':List Str) (lk:List (Option Nat)) (L:linksB X.env.scope.names X.N scope N' lk=true) (hN':N'.Nodup) (hc:X.calm=true) (hi:PQI X C pi (.Name x px) it1 ι)
  (hts:∀ U cl c s H ex,PQTs (compCx X scope N' cl c s H ex) (C.u U) true ifs τ) (hx:N'[T]?=some x:=by rfl) (hT:lk[T]?=some none:=by rfl)
  (hloc:∀ cl c s H ex,Loc (compCx X scope N' cl c s H ex).env.scope x:=by intro _ _ _ _ _; first | exact .inl rfl | exact .inr rfl)
  (hv:∀ cl c s H ex,Vis (compCx X scope N' cl c s H ex).env.scope x:=by intro _ _ _ _ _; first | exact .inl rfl | exact .inr (.inl rfl) | exact .inr (.inr rfl))
  (hf:∀ cl c s H ex,(compCx X scope N' cl c s H ex).fn x=true∨(compCx X scope N' cl c s H ex).env.scope.names.lookup x=some .local:=by intro _ _ _ _ _; first | exact .inl rfl | exact .inr rfl)
  (hd:(x == ("__debug__" : Str))=false:=by decide) (hcd:(x == ("__classdict__" : Str))=false:=by decide)
  (hs:∀ x,foldedSetIterable it1 X.env x=pure x:=by intro _; rfl):PQ X C pi (.ListComp (.Name x py) [⟨.Name x px,it1,ifs,0⟩] scope pos) (qFilt lk ι τ T):=by
 have L':=Links.of L
 refine ⟨fun β R R' k h=>hi.mono β _ _ (fun ds kd β1 q=>⟨q.1,q.2.mono fun o z=>k _ _ _ z⟩) h,?_⟩
 refine (pe_comp2 (g:=⟨.Name x px,it1,ifs,0⟩) (gs:=[]) (tg:=fun _=>gName T) (tt:=fun a=>tQB X (C.u fun c=>c=a) true τ) (ta:=fun a N σ H=>∃ v,σ[T]?=some (some v)∧∃ xs,H a=some (.lst xs)∧xs.length < sizeLine∧N σ (upd H a (.lst (xs++[v]))))
  L' hc new_list rfl rfl (fun _ _=>cf_l1) hi.pi (fun a cl c s H ex=>⟨pg_name hN' hx (hloc cl c s H ex) (hf cl c s H ex),(hts _ cl c s H ex).pt,pa_emitL rfl (pe_var hx (hv cl c s H ex) hd hcd)⟩) hs).pre fun σ H Q ⟨β,own,s,h⟩=>?_
 refine ⟨β,own,s,hi.mono β _ _ (fun ds k β1 ⟨hk,q⟩ J H1 own1 o1 it a ha=>?_) h⟩
 subst hk
 exact filt_core (hts (fun _=>False) [] 0 X.s₀ X.H₀ []).mono (links_inj L' hN') (fun j e=>by rw [hT] at e; cases e) (List.getElem?_eq_some_iff.mp hT).1 o1.sq ha it q fun o H' q o2 r=>q _ _ own1 (o1.tr2 o2 fun z=>⟨z,rfl⟩) (r.later o1.sn)
end
theorem loop1F {α:Type} {τ:PhiQB} {l:List α} {f:α→D} {cap:Bet} {K:List D→Prop} (t:α→Bool) (h0:hndOk cap cap) (hl:l.length≤sizeLine) (h:∀ x ∈ l,∀ R:Bool→Bet→Prop,R (t x) (some (.val true (f x))::cap)→τ (some (.val true (f x))::cap) R) (q:K ((l.filter t).map f)):loopF τ 0 (l.map f) (none::cap) K:=by
 refine ⟨fun i β o=>i≤l.length∧(∃ x0,β=x0::cap)∧o=((l.take i).filter t).map f,⟨Nat.zero_le _,⟨_,rfl⟩,rfl⟩,?_,?_⟩
 ·rintro i d β o hd ⟨hi,⟨x0,rfl⟩,rfl⟩
  rw [List.getElem?_map] at hd
  obtain ⟨x,hx,rfl⟩:=Option.map_eq_some_iff.mp hd
  have hil:=(List.getElem?_eq_some_iff.mp hx).1
  have hlen:(((l.take i).filter t).map f).length≤i:=by
   rw [List.length_map]
   exact Nat.le_trans (List.length_filter_le _ _) (by rw [List.length_take]; omega)
  have et:(l.take (i+1)).filter t=(l.take i).filter t++if t x=true then [x] else []:=by
   rw [List.take_add_one,hx,List.filter_append]
   cases ee:t x <;> simp [ee]
  refine h x (List.mem_of_getElem? hx) _ ?_
  cases e:t x with
  | true =>
   rw [if_pos rfl]
   exact ⟨by omega,by omega,⟨_,rfl⟩,by rw [et,e,if_pos rfl,List.map_append]; rfl⟩
  | false =>
   rw [if_neg (by simp)]
   exact ⟨by omega,⟨_,rfl⟩,by rw [et,e,if_neg (by simp),List.append_nil]⟩
 ·rintro β o ⟨_,⟨x0,rfl⟩,rfl⟩
  rw [List.length_map,List.take_length]
  exact ⟨h0,q⟩
end L2.Q
end

noncomputable section
set_option Elab.async false
set_option linter.all false
set_option maxRecDepth 100000
namespace Mnl
open PySem PySem.Spec PyProof.Rows Mnt
section
variable {A:Around} {s:Shared}
theorem intsAre_get:∀ {vs:List Value} {ns:List Int} {j:Nat},IntsAre vs ns→∀ (h:j < vs.length),∃ n t,ns[j]?=some n∧vs[j]=.int n t
 | _,_,_,.nil,h=>by cases h
 | _,_,0,.cons a t _,_=>⟨a,t,rfl,rfl⟩
 | _,_,j+1,.cons a t r,h=>by
  obtain ⟨n,t',h1,h2⟩:=intsAre_get (j:=j) r (Nat.lt_of_succ_lt_succ h)
  exact ⟨n,t',h1,h2⟩
theorem intsAre_fun:∀ {vs:List Value} {ns ms:List Int},IntsAre vs ns→IntsAre vs ms→ns=ms
 | _,_,_,.nil,.nil=>rfl
 | _,_,_,.cons a t r,.cons _ _ r'=>by rw [intsAre_fun r r']
theorem eqAt_tups {l b:Addr} {items items2:Array Value} {ns ms:List Int} (hl:IsTup s.heap l items) (hb:IsTup s.heap b items2) (hi:IntsAre items.toList ns) (hj:IntsAre items2.toList ms) (ne:ns≠ms) (hu:A.units < cLine):SeqAt.EqAt A s (.ref l) (.ref b) false:=by
 have nlb:l≠b:=fun z=>by
  subst z
  obtain ⟨o,g1,_,_,g2⟩:=id hl
  obtain ⟨o',g1',_,_,g2'⟩:=id hb
  rw [g1] at g1'
  cases g1'
  rw [g2] at g2'
  injection g2' with e
  subst e
  exact ne (intsAre_fun hi hj)
 have q:=SeqAt.RcAt.tuples (e:=fun j=>ns[j]? == ms[j]?) hl hb hu fun j h1 h2=>by
  obtain ⟨n,t,e1,e2⟩:=intsAre_get hi (j:=j) (by simpa using h1)
  obtain ⟨m,t',e3,e4⟩:=intsAre_get hj (j:=j) (by simpa using h2)
  have e2':items[j]=.int n t:=by simpa using e2
  have e4':items2[j]=.int m t':=by simpa using e4
  rw [e1,e3,e2',e4']
  have:=SeqAt.EqAt.int_int (A:=A.in1) (s:=s) n t m t'
  simpa using this
 have z1:items.size=ns.length:=by rw [← hi.length]; simp
 have z2:items2.size=ms.length:=by rw [← hj.length]; simp
 have ef:((List.range (min items.size items2.size)).all (fun j=>ns[j]? == ms[j]?) && items.size == items2.size)=false:=by
  cases h:((List.range (min items.size items2.size)).all (fun j=>ns[j]? == ms[j]?) && items.size == items2.size) with
  | false=>rfl
  | true =>
   refine absurd ?_ ne
   rw [Bool.and_eq_true,List.all_eq_true,beq_iff_eq] at h
   apply List.ext_getElem?
   intro j
   by_cases hj':j < ns.length
   ·exact beq_iff_eq.mp (h.1 j (List.mem_range.mpr (by lia)))
   ·rw [List.getElem?_eq_none (by lia),List.getElem?_eq_none (by lia)]
 rw [ef] at q
 exact SeqAt.EqAt.of_refs nlb q
end
section
open PySem.SeqAt
open PySem.AutoSeq1 (wpAny_loadPart')
open PySem.MeetsSeq PySem.MeetsSeq2 PySem.MeetsSeq3
theorem lt_loop (l b:Addr) (items items2:Array Value) (n n2:Nat) (dd dd2:Option Addr) (sl sl2:Array (Option Value)) (x y:Value) (r:Bool) (h1:items[0]?=some x) (h2:items2[0]?=some y) :
  Meets (Builtin.«list.__eq__.loop» ⟨[.ref l,.ref b,rawInt 0,rawInt 0],[]⟩)
   (fun A R s=>s.heap.get? l=some { cls:=.type "list",dict:=dd,data:=.seq items n,slots:=sl }∧s.heap.get? b=some { cls:=.type "list",dict:=dd2,data:=.seq items2 n2,slots:=sl2 } ∧
    EqAt A.in1 s x y false∧(∀ (prog:Program) (w:World) (E:Value→Shared→Prop) (Q:Value→Shared→Prop),Q (.bool r) s→wpAny (model prog w) A.in1 (richCompare .Lt x y) Q E s)∧R (.ok (.ret (.bool r))) s):=by
 intro prog w A R s h
 obtain ⟨hp,g,d,tk,os⟩:=s; obtain ⟨hl,hb,he,hr,h⟩:=h
 wp_walk using wpAny_loadPart' hl,wpAny_loadPart' hb
 have hi1:items[(0:Int).toNat]?=some x:=h1
 have hi2:items2[(0:Int).toNat]?=some y:=h2
 rw [hi1,hi2]
 refine wpAny_bind (he prog w _ _ ?_)
 wp_walk using wpAny_loadPart' hl,wpAny_loadPart' hb
 rw [hi1,hi2]
 have hri:=hr prog w
 wp_walk using hri
 exact h
theorem list_lt_heads (l b:Addr) (items items2:Array Value) (n n2:Nat) (dd dd2:Option Addr) (sl sl2:Array (Option Value)) (x y:Value) (r:Bool) (h1:items[0]?=some x) (h2:items2[0]?=some y) :
  Meets (Builtin.«list.__lt__» ⟨[.ref l,.ref b],[]⟩)
   (fun A R s=>s.heap.get? l=some { cls:=.type "list",dict:=dd,data:=.seq items n,slots:=sl }∧s.heap.get? b=some { cls:=.type "list",dict:=dd2,data:=.seq items2 n2,slots:=sl2 } ∧
    EqAt A.in1 s x y false∧(∀ (prog:Program) (w:World) (E:Value→Shared→Prop) (Q:Value→Shared→Prop),Q (.bool r) s→wpAny (model prog w) A.in1 (richCompare .Lt x y) Q E s)∧R (.ok (.ret (.bool r))) s):=by
 intro prog w A R s h
 obtain ⟨hp,g,d,tk,os⟩:=s; obtain ⟨hl,hb,he,hr,h⟩:=h
 have f3:=AutoSeq1.sub_list_list
 wp_walk using wpAny_loadPart' hl,wpAny_loadPart' hb
 exact ⟨plainId_quiet plain_eq_loop _,codeAny_builtin entry_eq_loop (by
  rw [Around.under_plainId plain_eq_loop _]
  exact lt_loop l b items items2 n n2 dd dd2 sl sl2 x y r h1 h2 prog w A R _ ⟨hl,hb,he,hr,h⟩)⟩
end
variable {prog:Program} {w:World} {A:Around} {R:Result→Shared→Prop} {I l S:Addr} {xs:List (Addr × List Int)}
theorem loop (hh:A.handled=none) (nI:l≠I) (nS:S≠I) (nl:S≠l) (K:Heap→Prop) (kk:∀ h h',K h→(∀ b o,b≠I→b≠S→h.get? b=some o→h'.get? b=some o)→K h') (kc:∀ s,K s.heap→∀ (i j:Nat) (x m:Addr × List Int),xs[j]?=some x→xs[i]?=some m→i < j→∀ (Q E:Value→Shared→Prop),Q (.bool (HT.lexLt x.2 m.2)) s→wpAny (model prog w) A.in1 (richCompare .Lt (.ref x.1) (.ref m.1)) Q E s) :
  ∀ (r j:Nat) (s:Shared) (st:Option (Addr × List Int)) (c:Nat),xs.length=j+r→(j=0→r≠0)→(st=none→j=0)→(∀ m,st=some m→∃ i,i < j∧xs[i]?=some m)→K s.heap→s.heap.IsListIter I l j→s.heap.IsList l (xs.map fun x=>Value.ref x.1).toArray →
  s.heap.get? S=some { cls:=.type "list",dict:=none,data:=.seq (arrT st) c,slots:=#[] } →
  (∀ h' tk m,(∀ b o,b≠I→b≠S→s.heap.get? b=some o→h'.get? b=some o)→(xs.drop j).foldl pickT st=some m→R (.ok (.ret (.ref m.1))) { s with heap:=h',toks:=tk }) →
  codeAny (model prog w) A (.builtin "min.loop" ⟨[.ref I,.none,.ref S],[]⟩) R s:=by
 have W:=Walks.list (prog:=prog) (w:=w) (A:=A.in1) hh I l nI (xs.map fun x=>Value.ref x.1).toArray
 have nm:(toString "min" ++ toString ".loop" : String)="min.loop" := by decide
 intro r
 induction r with
 | zero =>
  intro j s st c e1 e0 es em eK e2 e3 e4 k
  have ej:j=(xs.map fun x=>Value.ref x.1).toArray.size:=by simp; lia
  rw [List.drop_of_length_le (by lia)] at k
  cases st with
  | none=>exact absurd rfl (e0 (es rfl))
  | some m =>
   refine codeAny_builtin PySem.F.entry_min_loop ?_
   rw [Around.under_plainId PySem.F.plain_min_loop _]
   show wpAny _ _ (seqItems? (.ref S) >>= _) _ _ s
   refine wpAny_bind (wpAny_seqItems e4 rfl ?_)
   show wpAny _ _ (tryCatch (pyNext (.ref I)) _ >>= _) _ _ s
   refine wpAny_bind (wpAny_tryCatch (W.done s _ _ (by rw [← ej]; exact ⟨e2,e3⟩) fun h' tk g=>?_))
   have g4:=g S _ (by simpa using nS) e4
   show wpAny _ _ (updateSeq S (fun _=>#[]) >>= _) _ _ _
   refine wpAny_bind (wpAny_updateSeq (hz:=by show (2:Nat)≤sizeLine; decide) g4 rfl (wpAny_bind (wpAny_letGo (wpAny_pure ?_))))
   exact k _ tk m (fun b o b1 b2 e=>(Heap.get?_update_other _ _ (Ne.symm b2)).trans (g b o (by simpa using b1) e)) rfl
 | succ r ih =>
  intro j s st c e1 e0 es em eK e2 e3 e4 k
  have hj:j < xs.length:=by lia
  have hd:xs.drop j=xs[j]::xs.drop (j+1):=List.drop_eq_getElem_cons hj
  rw [hd,List.foldl_cons] at k
  have hme:xs[j]?=some xs[j]:=List.getElem?_eq_getElem hj
  refine codeAny_builtin PySem.F.entry_min_loop ?_
  rw [Around.under_plainId PySem.F.plain_min_loop _]
  show wpAny _ _ (seqItems? (.ref S) >>= _) _ _ s
  refine wpAny_bind (wpAny_seqItems e4 rfl ?_)
  show wpAny _ _ (tryCatch (pyNext (.ref I)) _ >>= _) _ _ s
  refine wpAny_bind (wpAny_tryCatch (W.item j s _ _ (by simpa using hj) ⟨e2,e3⟩ fun v h' tk hv g2 g=>?_))
  have ev:v=.ref xs[j].1:=by
   rw [show (xs.map fun x=>Value.ref x.1).toArray[j]?=some (.ref xs[j].1) by simp [hj]] at hv
   exact (Option.some.inj hv).symm
  subst ev
  have g4:=g S _ (by simpa using nS) e4
  have gK:K h':=kk _ _ eK fun b o b1 b2 e=>g b o (by simpa using b1) e
  have on:∀ (f:Array Value→Array Value) (b:Addr) (ob:Obj),b≠S→h'.get? b=some ob→(h'.update S (Obj.mapSeq f)).get? b=some ob:=fun f b ob hb e=>(Heap.get?_update_other _ _ (Ne.symm hb)).trans e
  have onK:∀ (f:Array Value→Array Value),K (h'.update S (Obj.mapSeq f)):=fun f=>kk _ _ gK fun b o b1 b2 e=>on f b o b2 e
  cases st with
  | none =>
   show wpAny _ _ (updateSeq S (fun _=>#[.ref xs[j].1,.ref xs[j].1]) >>= _) _ _ _
   refine wpAny_bind (wpAny_updateSeq g4 rfl ?_)
   rw [nm]
   refine wpAny_pure ⟨plainId_quiet PySem.F.plain_min_loop _,ih (j+1) _ (some xs[j]) _ (by lia) (by lia) (fun z=>by cases z) (fun m z=>by cases z; exact ⟨j,Nat.lt_succ_self _,hme⟩) (onK _) (g2.1.at fun o e=>on _ _ o (Ne.symm nS) e) (g2.2.at fun o e=>on _ _ o (Ne.symm nl) e) (Heap.get?_update_self _ g4 rfl) fun h'' tk' m q f=>?_⟩
   exact k h'' tk' m (fun b o b1 b2 e=>q b o b1 b2 (on _ b o b2 (g b o (by simpa using b1) e))) f
  | some m =>
   obtain ⟨i',hi',hmi⟩:=em m rfl
   show wpAny _ _ (tryCatch (holding [.ref xs[j].1,.ref xs[j].1] (richCompare .Lt (.ref xs[j].1) (.ref m.1) >>= _)) _ >>= _) _ _ _
   refine wpAny_bind (wpAny_tryCatch (wpAny_holding (wpAny_bind (kc _ gK i' j _ _ hme hmi hi' _ _ ?_))))
   refine wpAny_bind (wpAny_holding (wpAny_truthy_bool (wpAny_bind (wpAny_letGo (wpAny_pure ?_)))))
   cases hb:HT.lexLt xs[j].2 m.2 with
   | true =>
    have ep:pickT (some m) xs[j]=some xs[j]:=if_pos hb
    rw [ep] at k
    simp only [if_true]
    refine wpAny_bind (wpAny_updateSeq (hz:=by show (2:Nat)≤sizeLine; decide) g4 rfl (wpAny_bind (wpAny_letGo ?_)))
    rw [nm]
    refine wpAny_pure ⟨plainId_quiet PySem.F.plain_min_loop _,ih (j+1) _ (some xs[j]) _ (by lia) (by lia) (fun z=>by cases z) (fun m z=>by cases z; exact ⟨j,Nat.lt_succ_self _,hme⟩) (onK _) (g2.1.at fun o e=>on _ _ o (Ne.symm nS) e) (g2.2.at fun o e=>on _ _ o (Ne.symm nl) e) (Heap.get?_update_self _ g4 rfl) fun h'' tk' m q f=>?_⟩
    exact k h'' tk' m (fun b o b1 b2 e=>q b o b1 b2 (on _ b o b2 (g b o (by simpa using b1) e))) f
   | false =>
    have ep:pickT (some m) xs[j]=some m:=if_neg (by rw [hb]; simp)
    rw [ep] at k
    simp only [Bool.false_eq_true,if_false]
    refine wpAny_bind (wpAny_letGo ?_)
    rw [nm]
    refine wpAny_pure ⟨plainId_quiet PySem.F.plain_min_loop _,ih (j+1) _ (some m) _ (by lia) (by lia) (fun z=>by cases z) (fun m' z=>by cases z; exact ⟨i',Nat.lt_succ_of_lt hi',hmi⟩) gK g2.1 g2.2 g4 fun h'' tk' m' q f=>?_⟩
    exact k h'' tk' m' (fun b o b1 b2 e=>q b o b1 b2 (g b o (by simpa using b1) e)) f
theorem call_min {E:Value→Shared→Prop} {Q:Value→Shared→Prop} {s:Shared} (hh:A.handled=none) (hl:s.heap.IsList l (xs.map fun x=>Value.ref x.1).toArray) (K:Heap→Prop) (kk:∀ h h',K h→(∀ b o,b < s.heap.objs.size→h.get? b=some o→h'.get? b=some o)→K h') (k0:K s.heap) (kc:∀ s,K s.heap→∀ (i j:Nat) (x m:Addr × List Int),xs[j]?=some x→xs[i]?=some m→i < j→∀ (Q E:Value→Shared→Prop),Q (.bool (HT.lexLt x.2 m.2)) s→wpAny (model prog w) A.in1 (richCompare .Lt (.ref x.1) (.ref m.1)) Q E s) (hne:xs≠[])
  (k:∀ h' tk m,(∀ b o,s.heap.get? b=some o→h'.get? b=some o)→xs.foldl pickT none=some m→Q (.ref m.1) { s with heap:=h',toks:=tk }):wpAny (model prog w) A (call (.builtin "min") [.ref l]) Q E s:=by
 have nm:(toString "min" ++ toString ".loop" : String)="min.loop" := by decide
 obtain ⟨ol,gl,_⟩:=id hl
 have lt:l < s.heap.objs.size:=Heap.lt_size gl
 refine call_function_tree PySem.F.kind_min PySem.F.plain_min PySem.F.entry_min (PySem.F.args_min1 _) ?_
 show wpAny _ _ (Builtin.Builtins.bindParams "min" ["key","default"] 0 ⟨[],[]⟩ >>= _) _ _ s
 refine wpAny_bind (wpAny_of_eq (show Builtin.Builtins.bindParams "min" ["key","default"] 0 ⟨[],[]⟩=pure [none,none] from rfl) (wpAny_bind (wpAny_pure ?_)))
 refine wpAny_bind (wpAny_pyIter_list hl (wpAny_bind (wpAny_newList ?_ (Nat.zero_le _))))
 rw [nm]
 have sz:(s.heap.push { cls:=.type "list_iterator",data:=.fields #[.ref l,.int 0 0] }).objs.size=s.heap.objs.size+1:=Heap.size_push ..
 have up:∀ b o,s.heap.get? b=some o→((s.heap.push { cls:=.type "list_iterator",data:=.fields #[.ref l,.int 0 0] }).push (seqObj "list" #[] 0)).get? b=some o:=fun b o e=>Heap.get?_push_of_some _ (Heap.get?_push_of_some _ e)
 have hlen:xs.length≠0:=fun z=>hne (List.eq_nil_of_length_eq_zero z)
 refine wpAny_pure ⟨plainId_quiet PySem.F.plain_min_loop _,?_⟩
 refine loop (I:=s.heap.objs.size) (S:=(s.heap.push { cls:=.type "list_iterator",data:=.fields #[.ref l,.int 0 0] }).objs.size) hh (Nat.ne_of_lt lt) (by rw [sz]; exact Nat.succ_ne_self _) (by rw [sz]; exact Nat.ne_of_gt (Nat.lt_succ_of_lt lt))
  K (fun h h' hK kp=>kk h h' hK fun b o hb e=>kp b o (Nat.ne_of_lt hb) (by rw [sz]; exact Nat.ne_of_lt (Nat.lt_succ_of_lt hb)) e) kc xs.length 0 _ none 0 (by lia) (fun _=>hlen) (fun _=>rfl) (fun m z=>by cases z) (kk _ _ k0 fun b o _ e=>up b o e)
  ⟨_,Heap.get?_push_of_some _ (Heap.get?_push_size _ rfl),rfl,rfl⟩ ((hl.push _).push _) (Heap.get?_push_size _ rfl) fun h' tk m q f=>?_
 refine k h' tk m (fun b o e=>q b o (Nat.ne_of_lt (Heap.lt_size e)) (by rw [sz]; exact Nat.ne_of_lt (Nat.lt_succ_of_lt (Heap.lt_size e))) (up b o e)) f
end Mnl
namespace L2
open PySem PySem.Spec PySem.SeqAt PyProof.Rows
def headD (d:D):Option (List Int):=d.lst?.bind fun ds=>ds.head?.bind fun e=>e.isT.bind dInts
def headsD:List D→Option (List (List Int))
 | []=>some []
 | d::ds=>(headD d).bind fun k=>(headsD ds).map (k::·)
theorem headD_eq {d:D} {k:List Int} (h:headD d=some k):∃ r,d=.lst (.tup (k.map D.int)::r):=by
 obtain ⟨ds,h1,h2⟩:=Option.bind_eq_some_iff.mp h
 obtain ⟨e,h3,h4⟩:=Option.bind_eq_some_iff.mp h2
 obtain ⟨es,h5,h6⟩:=Option.bind_eq_some_iff.mp h4
 rw [D.lst?_eq h1]
 cases ds with
 | nil=>cases h3
 | cons x r =>
  cases h3
  refine ⟨r,?_⟩
  rw [← dInts_eq h6]
  cases e <;> first | (cases h5; rfl) | cases h5
theorem headD_of {k:List Int} {r:List D}:headD (.lst (.tup (k.map D.int)::r))=some k:=by
 show (some (k.map D.int)).bind dInts=_
 exact dInts_map k
abbrev pkH (m x:List Int × D):List Int × D:=if HT.lexLt x.1 m.1=true then x else m
def minH:List (List Int × D)→Option D
 | []=>none
 | p::ps=>some (ps.foldl pkH p).2
def dMinH:List D→Option D
 | [d]=>d.lst?.bind fun es=>match es with
  | [x]=>x.lst?.map D.lst
  | es=>(headsD es).bind fun ks=>if ks.Nodup then minH (ks.zip es) else none
 | _=>none
theorem dMinH_eq {ds:List D} {d:D} (h:dMinH ds=some d):∃ es,ds=[.lst es]∧((∃ xs,es=[.lst xs]∧d=.lst xs)∨∃ ks,headsD es=some ks∧ks.Nodup∧minH (ks.zip es)=some d):=by
 cases ds with
 | nil=>cases h
 | cons x r =>
  cases r with
  | cons _ _=>cases h
  | nil =>
   obtain ⟨es,h1,h2⟩:=Option.bind_eq_some_iff.mp h
   refine ⟨es,by rw [D.lst?_eq h1],?_⟩
   split at h2
   ·next y =>
    obtain ⟨xs,h3,h4⟩:=Option.map_eq_some_iff.mp h2
    exact .inl ⟨xs,by rw [D.lst?_eq h3],h4.symm⟩
   ·next es _ =>
    obtain ⟨ks,h3,h4⟩:=Option.bind_eq_some_iff.mp h2
    by_cases hn:ks.Nodup
    ·rw [if_pos hn] at h4
     exact .inr ⟨ks,h3,hn,h4⟩
    ·rw [if_neg hn] at h4; cases h4
theorem dMinH_one {xs:List D}:dMinH [.lst [.lst xs]]=some (.lst xs):=rfl
theorem dMinH_of {es:List D} {ks:List (List Int)} {d:D} (h1:headsD es=some ks) (h2:ks.Nodup) (h3:minH (ks.zip es)=some d):dMinH [.lst es]=some d:=by
 show (match es with | [x]=>x.lst?.map D.lst | es=>(headsD es).bind fun ks=>if ks.Nodup then minH (ks.zip es) else none)=_
 split
 ·next y =>
  obtain ⟨k,h4,h5⟩:=Option.bind_eq_some_iff.mp h1
  cases h5
  obtain ⟨r,rfl⟩:=headD_eq h4
  exact h3
 ·rw [h1,Option.bind_some,if_pos h2,h3]
section
variable {P:Program} {w:World} {W:Addr→Prop} {H:Hp}
def HdAt (H:Hp) (t:Addr × List Int):Prop:=∃ q us,H t.1=some (.lst (.ref q::us))∧H q=some (.tup (t.2.map V.int))
theorem heads_reps:∀ {es:List D} {ks:List (List Int)} {vs:List V},headsD es=some ks→RepDs P w W H es vs→∃ ts:List (Addr × List Int),vs=ts.map (fun t=>V.ref t.1)∧ts.map (·.2)=ks∧∀ t ∈ ts,HdAt H t
 | [],_,_,h,r=>by cases h; cases r; exact ⟨[],rfl,rfl,fun t ht=>by cases ht⟩
 | d::es,ks,_,h,⟨v,vs,rfl,r1,r2⟩=>by
  obtain ⟨k,h1,h2⟩:=Option.bind_eq_some_iff.mp h
  obtain ⟨ks',h3,rfl⟩:=Option.map_eq_some_iff.mp h2
  obtain ⟨ts,e1,e2,e3⟩:=heads_reps h3 r2
  obtain ⟨r,rfl⟩:=headD_eq h1
  obtain ⟨p,us,rfl,hp,_,u,us',rfl,⟨q,vq,rfl,hq,rq⟩,_⟩:=r1
  rw [reps_ints rq] at hq
  refine ⟨(p,k)::ts,by rw [e1]; rfl,by rw [← e2]; rfl,fun t ht=>?_⟩
  rcases List.mem_cons.mp ht with rfl | ht
  ·exact ⟨q,us',hp,hq⟩
  ·exact e3 t ht
theorem pick_fold:∀ {ts:List (Addr × List Int)} {es:List D} (m:Addr × List Int) (md:D),RepD P w W H md (.ref m.1)→RepDs P w W H es (ts.map fun t=>V.ref t.1)→∃ r,ts.foldl Mnt.pickT (some m)=some r∧RepD P w W H (((ts.map (·.2)).zip es).foldl pkH (m.2,md)).2 (.ref r.1)
 | [],_,m,md,h,_=>⟨m,rfl,h⟩
 | t::ts,[],m,md,h,e=>by cases e
 | t::ts,d::es,m,md,h,⟨v,vs,e,h1,h2⟩=>by
  injection e with e1 e2
  subst e1 e2
  rw [List.foldl_cons,List.map_cons,List.zip_cons_cons,List.foldl_cons]
  by_cases hb:HT.lexLt t.2 m.2=true
  ·rw [show Mnt.pickT (some m) t=some t from if_pos hb,show pkH (m.2,md) (t.2,d)=(t.2,d) from if_pos hb]
   exact pick_fold t d h1 h2
  ·rw [show Mnt.pickT (some m) t=some m from if_neg hb,show pkH (m.2,md) (t.2,d)=(m.2,md) from if_neg hb]
   exact pick_fold m md h h2
end
theorem vals_lref:∀ {ts:List (Addr × List Int)} {its:List Value},Vals (ts.map fun t=>V.ref t.1) its→its=ts.map fun t=>Value.ref t.1
 | [],_,r=>by cases r; rfl
 | t::ts,_,r=>by
  cases r with
  | cons a b=>cases a; rw [vals_lref b]; rfl
variable {X:Cx}
theorem call_dMinH (hc:X.calm=true) (hu:X.A.units+2 < cLine):CallD X (.builtin "min") dMinH:=by
 intro pins s σ H xs us Q I r h
 obtain ⟨W,ds,d,hd,r1,e,q⟩:=h
 obtain ⟨es,rfl,hcase⟩:=dMinH_eq e
 obtain ⟨x,rfl,p,vs,rfl,h1,n1,q1⟩:=args1 r1
 obtain ⟨u,rfl,ru⟩:=vals1 r
 cases ru
 obtain ⟨its,r2,ht,hz⟩:=I.list (SqL.of h1)
 rcases hcase with ⟨ys,rfl,rfl⟩ | ⟨ks,ek,nd,e1⟩
 ·obtain ⟨v,vs',rfl,g1,g2⟩:=q1
  cases (show vs'=[] from g2)
  obtain ⟨p1,us1,rfl,hp1,np1,qp1⟩:=id g1
  have ei:=vals_lref (ts:=[(p1,[])]) r2
  subst ei
  refine Mnl.call_min (xs:=[(p1,[])]) (I.ok.hd hc) ht.isList (fun _=>True) (fun _ _ _ _=>trivial) trivial (fun s' hK i j x m hx hm hij Q' E' hq=>?_) (by simp) fun h' tk m kp f=>?_
  ·have:=(List.getElem?_eq_some_iff.mp hx).1
   simp at this
   omega
  ·cases f
   exact ⟨.ref p1,H,I.kept kp,rfl,q _ _ (Same.refl _) g1⟩
 obtain ⟨ts,rfl,rfl,T⟩:=heads_reps ek q1
 have ei:=vals_lref r2
 subst ei
 have hne:ts≠[]:=fun z=>by rw [z] at e1; cases e1
 let K:Heap→Prop:=fun h=>∀ t ∈ ts,∃ (q:Addr) (its its':Array Value),t.1 < s.heap.objs.size∧q < s.heap.objs.size∧h.IsList t.1 its∧its[0]?=some (.ref q)∧IsTup h q its'∧IntsAre its'.toList t.2
 have k0:K s.heap:=fun t ht'=>by
  obtain ⟨q,us,g1,g2⟩:=T t ht'
  obtain ⟨i1,v1,l1,_⟩:=I.list (SqL.of g1)
  obtain ⟨i2,v2,l2,_⟩:=I.tuple (SqT.of g2)
  cases v1 with
  | cons a b =>
   cases a
   obtain ⟨o1,p1,_⟩:=id l1.isList
   obtain ⟨o2,p2,_⟩:=id l2
   exact ⟨q,_,_,Heap.lt_size p1,Heap.lt_size p2,l1.isList,by simp,l2,intsAre_of v2⟩
 refine Mnl.call_min (I.ok.hd hc) ht.isList K (fun h h' hK kp t ht'=>?_) k0 (fun s' hK i j x m hx hm hij Q' E' hq=>?_) hne fun h' tk m kp f=>?_
 ·obtain ⟨q,i1,i2,a1,a2,⟨o1,b1,b2⟩,a3,⟨o2,b3,b4⟩,a4⟩:=hK t ht'
  exact ⟨q,i1,i2,a1,a2,⟨o1,kp _ _ a1 b1,b2⟩,a3,⟨o2,kp _ _ a2 b3,b4⟩,a4⟩
 ·obtain ⟨q1,i1,j1,_,_,l1,z1,t1,n1⟩:=hK x (List.mem_of_getElem? hx)
  obtain ⟨q2,i2,j2,_,_,l2,z2,t2,n2⟩:=hK m (List.mem_of_getElem? hm)
  have hne':x.2≠m.2:=fun z=>by
   have e1:(ts.map (·.2))[j]?=some x.2:=by rw [List.getElem?_map,hx]; rfl
   have e2:(ts.map (·.2))[i]?=some m.2:=by rw [List.getElem?_map,hm]; rfl
   rw [z,← e2] at e1
   have:=(List.getElem?_inj (List.getElem?_eq_some_iff.mp e2).1 nd).mp e1.symm
   omega
  obtain ⟨⟨cls,dd,data,sl⟩,ho,hc',n,hd'⟩:=id l1
  obtain ⟨⟨cls2,dd2,data2,sl2⟩,ho2,hc2,n',hd2⟩:=id l2
  simp only at hc' hd' hc2 hd2
  subst hc' hd' hc2 hd2
  exact richCompare_meets_room (op:=.Lt) ⟨_,ho,rfl⟩ ⟨_,ho2,rfl⟩ PySem.F.slot_list_lt PySem.F.entry_list_lt (PySem.F.args_list_lt_2 _ _) (Mnl.list_lt_heads _ _ i1 i2 n n' dd dd2 sl sl2 _ _ (HT.lexLt x.2 m.2) z1 z2)
   ⟨ho,ho2,Mnl.eqAt_tups t1 t2 n1 n2 hne' hu,fun prog w E Q hQ=>HT.lt_tupInts t1 t2 n1 n2 hu hQ,show Value.bool (HT.lexLt x.2 m.2)≠Value.notImplemented∧Q' (.bool (HT.lexLt x.2 m.2)) s' from ⟨(fun x=>nomatch x),hq⟩⟩ (Nat.lt_of_succ_lt hu)
 ·cases ts with
  | nil=>exact absurd rfl hne
  | cons t ts =>
   cases es with
   | nil=>cases q1
   | cons d0 es =>
    obtain ⟨v,vs,ev,g1,g2⟩:=q1
    injection ev with ev1 ev2
    subst ev1 ev2
    rw [List.foldl_cons,show Mnt.pickT none t=some t from rfl] at f
    obtain ⟨r,f2,hr⟩:=pick_fold t d0 g1 g2
    rw [f2] at f
    cases f
    cases e1
    exact ⟨.ref m.1,H,I.kept kp,rfl,q _ _ (Same.refl _) hr⟩
end L2
end

noncomputable section
set_option Elab.async false
set_option linter.all false
set_option maxRecDepth 100000
namespace L2.Q
open PySem
section
variable {ps:List (Nat × Nat)} (hp:∀ p ∈ ps,p.1 < p.2)
include hp
theorem fstG_size:∀ (l i j:Nat),j - i≤l→((fstG ps w1 i j).length:Int)=mX ps i j
 | 0,i,j,h=>by rw [fstG_nil (by omega),mX_self (by omega)]; rfl
 | l+1,i,j,h=>by
  by_cases hij:i < j
  ·rw [fstG_cons hp hij]
   have hm:=mem_bestC (firstC_mem (w:=w1) hp hij)
   cases q:firstC ps w1 i j with
   | none =>
    rw [q] at hm
    dsimp only
    rw [fstG_size l (i+1) j (by omega)]
    unfold mX
    rw [show j - (i+1)=j - i - 1 by omega]
    exact hm
   | some k =>
    rw [q] at hm
    obtain ⟨h1,h2,h3⟩:=hm
    have hik:=hp _ h1
    dsimp only at hik ⊢
    rw [List.length_cons,List.length_append]
    have e1:=fstG_size l (i+1) k (by omega)
    have e2:=fstG_size l (k+1) j (by omega)
    unfold mX at e1 e2 ⊢
    rw [show k - (i+1)=k - i - 1 by omega] at e1
    rw [show j - (k+1)=j - k - 1 by omega] at e2
    rw [← h3,← e1,← e2]
    show _=(1:Int)+_+_
    omega
  ·rw [fstG_nil hij,mX_self (by omega)]; rfl
theorem fstG_sz {i j:Nat}:((fstG ps w1 i j).length:Int)=mX ps i j:=fstG_size hp (j - i) i j (Nat.le_refl _)
theorem fstG_ge:∀ (l i j:Nat),j - i≤l→∀ p ∈ fstG ps w1 i j,i≤p.1
 | 0,i,j,h,p,hm=>by rw [fstG_nil (by omega)] at hm; cases hm
 | l+1,i,j,h,p,hm=>by
  by_cases hij:i < j
  ·rw [fstG_cons hp hij] at hm
   have hb:=mem_bestC (firstC_mem (w:=w1) hp hij)
   cases q:firstC ps w1 i j with
   | none =>
    rw [q] at hm
    exact Nat.le_of_succ_le (fstG_ge l (i+1) j (by omega) p hm)
   | some k =>
    rw [q] at hm hb
    have hik:=hp _ hb.1
    have hkj:=hb.2.1
    dsimp only at hik hm
    rcases List.mem_cons.mp hm with rfl | hm
    ·exact Nat.le_refl _
    ·rcases List.mem_append.mp hm with hm | hm
     ·exact Nat.le_of_succ_le (fstG_ge l (i+1) k (by omega) p hm)
     ·have:=fstG_ge l (k+1) j (by omega) p hm
      omega
  ·rw [fstG_nil hij] at hm; cases hm
end
def cnd1 (ps:List (Nat × Nat)) (i j:Nat) (p:Nat × Nat):List (Nat × Nat):=p::(fstG ps w1 (i+1) p.2++fstG ps w1 (p.2+1) j)
def tieC (i j:Nat) (l:List (Nat × Nat)):List (Nat × Nat):=l.filter fun p=>decide (p.1=i) && decide (p.2 < j)
def cndS (ps:List (Nat × Nat)) (i j:Nat) (l:List (Nat × Nat)):List (List (Nat × Nat)):=fstG ps w1 (i+1) j::(tieC i j l).map (cnd1 ps i j)
def longC (ps:List (Nat × Nat)) (i j:Nat) (c:List (Nat × Nat)):Bool:=decide ((c.length:Int)=mX ps i j)
section
variable {ps:List (Nat × Nat)} {i j:Nat}
theorem mem_tieC {l:List (Nat × Nat)} {p:Nat × Nat}:p ∈ tieC i j l ↔ p ∈ l∧p.1=i∧p.2 < j:=by
 unfold tieC
 rw [List.mem_filter,Bool.and_eq_true,decide_eq_true_eq,decide_eq_true_eq]
theorem tieC_snoc {l:List (Nat × Nat)} {p:Nat × Nat}:tieC i j (l++[p])=tieC i j l++if p.1=i∧p.2 < j then [p] else []:=by
 unfold tieC
 rw [List.filter_append,List.filter_cons,List.filter_nil]
 by_cases h1:p.1=i <;> by_cases h2:p.2 < j <;> simp [h1,h2]
theorem tieC_len {l:List (Nat × Nat)}:(tieC i j l).length≤l.length:=List.length_filter_le _ _
variable (hp:∀ p ∈ ps,p.1 < p.2)
include hp
theorem cnd1_sz {p:Nat × Nat}:((cnd1 ps i j p).length:Int)=1+mX ps (i+1) p.2+mX ps (p.2+1) j:=by
 unfold cnd1
 rw [List.length_cons,List.length_append,← fstG_sz hp,← fstG_sz hp]
 omega
theorem cnd_max (h:i < j):maxI ((cndS ps i j ps).map fun c=>(c.length:Int))=some (mX ps i j):=by
 unfold cndS
 rw [List.map_cons,List.map_map]
 refine maxI_of ?_ fun x hx=>?_
 ·rcases mX_cases hp h with e | ⟨k,h1,h2,e⟩
  ·rw [e,fstG_sz hp]; exact List.mem_cons_self
  ·refine List.mem_cons_of_mem _ (List.mem_map.mpr ⟨(i,k),mem_tieC.mpr ⟨h1,rfl,h2⟩,?_⟩)
   show ((cnd1 ps i j (i,k)).length:Int)=_
   rw [cnd1_sz hp,e]
 ·rcases List.mem_cons.mp hx with rfl | hx
  ·rw [fstG_sz hp]; exact mX_skip hp h
  ·obtain ⟨p,hpm,rfl⟩:=List.mem_map.mp hx
   obtain ⟨h1,h2,h3⟩:=mem_tieC.mp hpm
   show ((cnd1 ps i j p).length:Int)≤_
   rw [cnd1_sz hp]
   exact mX_tie hp (by rw [← h2]; exact h1) h3
theorem best_ties:((prt ps i).filter fun k=>decide (k < j) && decide (w1 (i,k)+tW ps w1 (k - i - 1) (i+1)+tW ps w1 (j - k - 1) (k+1)=tW ps w1 (j - i) i))=((tieC i j ps).filter fun p=>longC ps i j (cnd1 ps i j p)).map (·.2):=by
 unfold prt tieC
 rw [List.filter_map,List.filter_filter,List.filter_filter]
 congr 1
 refine List.filter_congr fun p _=>?_
 unfold longC
 rw [cnd1_sz hp]
 unfold mX
 simp only [Function.comp]
 rw [show p.2 - (i+1)=p.2 - i - 1 by omega,show j - (p.2+1)=j - p.2 - 1 by omega]
 rw [show w1 (i,p.2)=1 from rfl]
 cases decide (p.1=i) <;> cases decide (p.2 < j) <;> simp
theorem first_some {p:Nat × Nat} {r:List (Nat × Nat)} (e:(tieC i j ps).filter (fun p=>longC ps i j (cnd1 ps i j p))=p::r):firstC ps w1 i j=some p.2:=by
 unfold firstC bestC
 rw [best_ties hp,e]
 rfl
theorem first_none (h:i < j) (e:(tieC i j ps).filter (fun p=>longC ps i j (cnd1 ps i j p))=[]):firstC ps w1 i j=none∧mX ps i j=mX ps (i+1) j:=by
 have e2:mX ps i j=mX ps (i+1) j:=by
  rcases mX_cases hp h with z | ⟨k,h1,h2,z⟩
  ·exact z
  ·have:(i,k) ∈ (tieC i j ps).filter (fun p=>longC ps i j (cnd1 ps i j p)):=List.mem_filter.mpr ⟨mem_tieC.mpr ⟨h1,rfl,h2⟩,decide_eq_true (by rw [cnd1_sz hp,z])⟩
   rw [e] at this
   cases this
 refine ⟨?_,e2⟩
 unfold firstC bestC
 rw [best_ties hp,e]
 split
 ·rfl
 ·rfl
omit hp in
theorem pk_stay {m:List Int × D}:∀ {l:List (List Int × D)},(∀ x ∈ l,HT.lexLt x.1 m.1=false)→l.foldl pkH m=m
 | [],_=>rfl
 | x::l,h=>by
  rw [List.foldl_cons,show pkH m x=m from if_neg (by rw [h x (by simp)]; simp)]
  exact pk_stay fun y hy=>h y (by simp [hy])
omit hp in
theorem heads_ts:∀ {cs:List (List (Nat × Nat))},(∀ c ∈ cs,c≠[])→headsD (cs.map tsD)=some (cs.map fun c=>tI (c.headD (0,0)))
 | [],_=>rfl
 | c::cs,h=>by
  have hc:=h c (by simp)
  cases c with
  | nil=>exact absurd rfl hc
  | cons p r =>
   show (headD (tsD (p::r))).bind (fun k=>(headsD (cs.map tsD)).map (k::·))=_
   rw [heads_ts fun y hy=>h y (by simp [hy]),show headD (tsD (p::r))=some (tI p) from headD_of]
   rfl
omit hp in
theorem lex_lt {a b c d:Nat} (h:a < c):HT.lexLt (tI (a,b)) (tI (c,d))=true:=by
 show (if (a:Int)=c then _ else decide ((a:Int) < c))=true
 rw [if_neg (by omega)]
 exact decide_eq_true (by omega)
omit hp in
theorem lex_ge {a b d:Nat} (h:d < b):HT.lexLt (tI (a,b)) (tI (a,d))=false:=by
 show (if (a:Int)=a then (if (b:Int)=d then HT.lexLt [] [] else decide ((b:Int) < d)) else decide ((a:Int) < a))=false
 rw [if_pos rfl,if_neg (by omega)]
 exact decide_eq_false (by omega)
theorem cnd_min (hs:ps.Pairwise fun p q=>p.1 < q.1∨(p.1=q.1∧p.2 < q.2)) (h:i < j):dMinH [.lst (((cndS ps i j ps).filter (longC ps i j)).map tsD)]=some (tsD (fstG ps w1 i j)):=by
 have ek:(cndS ps i j ps).filter (longC ps i j)=(if longC ps i j (fstG ps w1 (i+1) j)=true then [fstG ps w1 (i+1) j] else [])++((tieC i j ps).filter fun p=>longC ps i j (cnd1 ps i j p)).map (cnd1 ps i j):=by
  unfold cndS
  rw [List.filter_cons,List.filter_map]
  split <;> rfl
 rw [ek,fstG_cons hp h]
 cases e:(tieC i j ps).filter (fun p=>longC ps i j (cnd1 ps i j p)) with
 | nil =>
  obtain ⟨e1,e2⟩:=first_none hp h e
  rw [e1,if_pos (show longC ps i j (fstG ps w1 (i+1) j)=true from decide_eq_true (by rw [fstG_sz hp,e2]))]
  exact dMinH_one
 | cons p r =>
  rw [first_some hp e]
  have hsub:(p::r).Sublist ps:=by rw [← e]; exact (List.filter_sublist).trans List.filter_sublist
  have hmem:∀ q ∈ p::r,q ∈ ps∧q.1=i∧q.2 < j:=fun q hq=>by rw [← e] at hq; exact mem_tieC.mp (List.mem_filter.mp hq).1
  have hpw:=hs.sublist hsub
  have hpi:=(hmem p (by simp)).2.1
  have ep:p=(i,p.2):=by rw [← hpi]
  have hlong:longC ps i j (cnd1 ps i j p)=true:=(List.mem_filter.mp (show p ∈ (tieC i j ps).filter _ by rw [e]; simp)).2
  have hpos:0 < mX ps i j:=by
   have:=of_decide_eq_true hlong
   unfold cnd1 at this
   rw [List.length_cons] at this
   omega
  have eres:tsD ((i,p.2)::(fstG ps w1 (i+1) p.2++fstG ps w1 (p.2+1) j))=tsD (cnd1 ps i j p):=by unfold cnd1; rw [← ep]
  dsimp only
  rw [eres]
  have hr:∀ x ∈ ((r.map (cnd1 ps i j)).map fun c=>tI (c.headD (0,0))).zip ((r.map (cnd1 ps i j)).map tsD),HT.lexLt x.1 (tI p)=false:=fun x hx=>by
   have:=(List.of_mem_zip hx).1
   rw [List.map_map] at this
   obtain ⟨q,hq,e3⟩:=List.mem_map.mp this
   rw [← e3]
   have h1:=(List.pairwise_cons.mp hpw).1 q hq
   have h2:=(hmem q (by simp [hq])).2.1
   show HT.lexLt (tI q) (tI p)=false
   rw [show q=(i,q.2) by rw [← h2],ep]
   exact lex_ge (by omega)
  have hndT:((r.map (cnd1 ps i j)).map fun c=>tI (c.headD (0,0))).Nodup∧tI p ∉ (r.map (cnd1 ps i j)).map fun c=>tI (c.headD (0,0)):=by
   rw [List.map_map]
   have hnd:((p::r).map fun q=>tI q).Nodup:=by
    rw [List.Nodup,List.pairwise_map]
    exact hpw.imp fun {a b} h z=>by have:=tI_inj z; subst this; omega
   have:=List.nodup_cons.mp hnd
   exact ⟨this.2,this.1⟩
  by_cases hb:longC ps i j (fstG ps w1 (i+1) j)=true
  ·rw [if_pos hb]
   cases ef:fstG ps w1 (i+1) j with
   | nil=>rw [ef] at hb; have:=of_decide_eq_true hb; simp at this; omega
   | cons f fr =>
    have hf:i+1≤f.1:=fstG_ge hp _ _ _ (Nat.le_refl _) f (by rw [ef]; simp)
    refine dMinH_of (heads_ts (fun c hc=>?_)) ?_ ?_
    ·rcases List.mem_cons.mp hc with rfl | hc
     ·simp
     ·obtain ⟨q,_,rfl⟩:=List.mem_map.mp hc
      unfold cnd1; simp
    ·show (tI f::tI p::((r.map (cnd1 ps i j)).map fun c=>tI (c.headD (0,0)))).Nodup
     refine List.nodup_cons.mpr ⟨fun z=>?_,List.nodup_cons.mpr ⟨hndT.2,hndT.1⟩⟩
     rw [List.map_map] at z
     have z':tI f ∈ (p::r).map fun q=>tI q:=z
     obtain ⟨q,hq,e3⟩:=List.mem_map.mp z'
     have:=tI_inj e3
     subst this
     have:=(hmem q hq).2.1
     omega
    ·show some ((((tI p,tsD (cnd1 ps i j p))::((r.map (cnd1 ps i j)).map fun c=>tI (c.headD (0,0))).zip ((r.map (cnd1 ps i j)).map tsD)).foldl pkH (tI f,tsD (f::fr))).2)=_
     rw [List.foldl_cons,show pkH (tI f,tsD (f::fr)) (tI p,tsD (cnd1 ps i j p))=(tI p,tsD (cnd1 ps i j p)) from if_pos (by rw [ep]; exact lex_lt (show i < f.1 by omega)),pk_stay hr]
  ·rw [if_neg hb]
   refine dMinH_of (heads_ts (fun c hc=>?_)) ?_ ?_
   ·obtain ⟨q,_,rfl⟩:=List.mem_map.mp hc
    unfold cnd1; simp
   ·exact List.nodup_cons.mpr ⟨hndT.2,hndT.1⟩
   ·show some (((((r.map (cnd1 ps i j)).map fun c=>tI (c.headD (0,0))).zip ((r.map (cnd1 ps i j)).map tsD)).foldl pkH (tI p,tsD (cnd1 ps i j p))).2)=_
    rw [pk_stay hr]
end
def Df2 (n i j a b:Nat):Prop:=a≤b∧b≤n∧(i < a∨(a=i∧b < j))
structure KnF (V:Nat→Nat→D) (kvs:List (List Int × D)) (n i j:Nat):Prop where
 ge:∀ a b,Df2 n i j a b→valA kvs (tI (a,b))=some (V a b)
 no:∀ a b,¬ Df2 n i j a b→valA kvs (tI (a,b))=none
 len:kvs.length+i * 50+(n+1)≤(n+1) * 50+j
section
variable {V:Nat→Nat→D} {kvs:List (List Int × D)} {n i j:Nat}
theorem kf_nil:KnF V [] n n n:=⟨fun a b d=>by unfold Df2 at d; omega,fun _ _ _=>rfl,by simp; omega⟩
theorem kf_add (k:KnF V kvs n i j) (h1:i≤j) (h2:j≤n):valA kvs (tI (i,j))=none∧KnF V (kvs++[(tI (i,j),V i j)]) n i (j+1):=by
 have hn:valA kvs (tI (i,j))=none:=k.no i j (by unfold Df2; omega)
 refine ⟨hn,fun a b d=>?_,fun a b d=>?_,by rw [List.length_append]; have:=k.len; show _+1+_+_≤_; omega⟩
 ·rw [valA_snoc hn]
  by_cases e:tI (a,b)=tI (i,j)
  ·have e2:=tI_inj e
   injection e2 with e3 e4
   rw [if_pos e,e3,e4]
  ·rw [if_neg e]
   refine k.ge a b ?_
   unfold Df2 at d ⊢
   have:¬ (a=i∧b=j):=fun z=>e (by rw [z.1,z.2])
   omega
 ·rw [valA_snoc hn,if_neg (fun e=>?_)]
  ·exact k.no a b (by unfold Df2 at d ⊢; omega)
  ·have e2:=tI_inj e
   injection e2 with e3 e4
   unfold Df2 at d
   omega
theorem kf_next (hn:n≤40) (h:0 < i) (k:KnF V kvs n i (n+1)):KnF V kvs n (i - 1) (i - 1):=by
 refine ⟨fun a b d=>k.ge a b (by unfold Df2 at d ⊢; omega),fun a b d=>k.no a b (by unfold Df2 at d ⊢; omega),?_⟩
 have:=k.len
 omega
end
def fMostL:FD:=fun ds R=>∃ (n:Nat) (ps:List (Nat × Nat)),ds=[.int n,tsD ps]∧OkR n ps∧n≤40∧(ps.Pairwise fun p q=>p.1 < q.1∨(p.1=q.1∧p.2 < q.2))∧R (tsD (fstG ps w1 0 n))
theorem fMostL.mono:Mono fMostL:=fun ds R R' k h=>by obtain ⟨n,ps,e,h1,h2,h3,q⟩:=h; exact ⟨n,ps,e,h1,h2,h3,k _ q⟩
end L2.Q
end

noncomputable section
set_option Elab.async false
set_option linter.all false
set_option maxRecDepth 100000
set_option maxHeartbeats 4000000
namespace K30
open PySem L2 L2.Q
section
variable {P:Program} {w:World} {K:PySem.W.Frag} {mg:Str→Option Value} {base:Heap}
theorem sc_law_most:FnScope ["many","ties","best","i","j","some","a","b","most"] ["many","ties"] (defScope s_law_most):=⟨rfl,rfl,rfl,by decide +kernel,rfl,by decide +kernel,by decide +kernel⟩
theorem ok_mostL {fdMl:Addr} {fddMl:FuncData} (dMl:Df K mg "_law_most" s_law_most ["many","ties"] fdMl fddMl) (B:Bs3 mg):FnOk P w K mg base CX0 1 fdMl fddMl ["many","ties"] (spQ P w false fMostL):=by
 refine okQ dMl.F sc_law_most (fun ds R ⟨n,ps,e,_⟩=>by subst e; rfl) fun cdv A outer s H E hr=>⟨_,(pbs_cons (pb_dnewS (i:=2) sc_law_most.nd)
    (pbs_cons (pb_for PassesOwn.never rfl (pqi_range3 B.range (pqa_cons (pq_var (i:=0)) (pqa_cons (pq_un un_dNeg pq_int) (pqa_cons (pq_un un_dNeg pq_int) pqa_nil)))) (pbg_name (i:=3) sc_law_most.nd) (pbs_cons (pb_dputS (i:=2) hr.units1 (fun _=>(pq_lst pqa_nil)) (fun _=>(pq_tup (pqa_cons (pq_var (i:=3)) (pqa_cons (pq_var (i:=3)) pqa_nil)))))
    (pbs_one (pb_for PassesOwn.never rfl (pqi_range2 B.range (pqa_cons (pq_op nok_NL op_dAddN (pq_var (i:=3)) pq_int) (pqa_cons (pq_op nok_NL op_dAddN (pq_var (i:=0)) pq_int) pqa_nil))) (pbg_name (i:=4) sc_law_most.nd) (pbs_cons (pb_lstS (i:=5) (fun _=>(pqa_cons (pq_getS (i:=2) hr.units1 (pq_tup (pqa_cons (pq_op nok_NL op_dAddN (pq_var (i:=3)) pq_int) (pqa_cons (pq_var (i:=4)) pqa_nil)))) pqa_nil)) sc_law_most.nd)
    (pbs_cons (pb_for PassesOwn.never rfl (pqi_list (pq_var (i:=1))) (pbg_tup (n:=2) rfl (pbgs_cons (pbg_name (i:=6) sc_law_most.nd) (pbgs_cons (pbg_name (i:=7) sc_law_most.nd) pbgs_nil))) (pbs_one (pb_if (PQW.t (pqw_and (pqt_cmp nok_NF (OpD.m (op_dEq hr.units)) (pq_var (i:=6)) (pq_var (i:=3))) (pqw_and1 (pqt_cmp nok_NF (OpD.m op_dLt) (pq_var (i:=7)) (pq_var (i:=4)))))) (pbs_one (pb_appS (i:=5) (fun _=>(pq_op nok_NL op_dAddN (pq_op nok_NL op_dAddN (pq_lst (pqa_cons (pq_tup (pqa_cons (pq_var (i:=6)) (pqa_cons (pq_var (i:=7)) pqa_nil))) pqa_nil)) (pq_getS (i:=2) hr.units1 (pq_tup (pqa_cons (pq_op nok_NL op_dAddN (pq_var (i:=3)) pq_int) (pqa_cons (pq_var (i:=7)) pqa_nil))))) (pq_getS (i:=2) hr.units1 (pq_tup (pqa_cons (pq_op nok_NL op_dAddN (pq_var (i:=7)) pq_int) (pqa_cons (pq_var (i:=4)) pqa_nil)))))))) pbs_nil)))
    (pbs_cons (pb_set (i:=8) (pq_callB nok_NF (CallD.m (call_dMax rfl)) B.max bt_max (pqa_cons (lcA ["one"] [none] (by rfl) (by decide:(["one"]:List Str).Nodup) rfl (pqi_list (pq_frzS (i:=5))) (fun _ _ _ _ _ _=>(pbg_name (i:=0) (by decide:(["one"]:List Str).Nodup))) (fun _ _ _ _ _ _=>ts_nil) (fun _ _ _ _ _ _=>(pq_callB nok_NF (CallD.m call_dLen) B.len bt_len (pqa_cons (pq_var (i:=0)) pqa_nil)))) pqa_nil)) sc_law_most.nd)
    (pbs_one (pb_dputS (i:=2) hr.units1 (fun _=>(pq_callB nok_NF (CallD.m (call_dMinH rfl hr.units2)) B.min bt_min (pqa_cons (lcF 0 ["one","most"] [none,some 8] (by rfl) (by decide:(["one","most"]:List Str).Nodup) rfl (pqi_list (pq_var (i:=5))) (fun _ _ _ _ _ _=>(ts_one (pqt_cmp nok_NF (OpD.m (op_dEq hr.units)) (pq_callB nok_NF (CallD.m call_dLen) B.len bt_len (pqa_cons (pq_var (i:=0)) pqa_nil)) (pq_var (i:=1)))))) pqa_nil))) (fun _=>(pq_tup (pqa_cons (pq_var (i:=3)) (pqa_cons (pq_var (i:=4)) pqa_nil)))))))))))))
    (pbs_one (pb_ret (pq_getS (i:=2) hr.units1 (pq_tup (pqa_cons pq_int (pqa_cons (pq_var (i:=0)) pqa_nil)))))))),fun ds R h=>?_⟩
 obtain ⟨n,ps,rfl,ok,hn,hs,q⟩:=h
 have hsm:=ok.sm
 have hp:∀ p ∈ ps,p.1 < p.2:=fun p hp=>(ok.lt p hp).1
 refine ⟨by show 2 < 9; decide,?_⟩
 refine ⟨_,rfl,trivial,_,rfl,rfl,trivial,_,rfl,rfl,trivial,(n:Int),-1,rfl,⟨by omega,by omega,by omega,by omega⟩,trivial,?_⟩
 rw [show ((n:Int) - -1).toNat=n+1 by omega]
 refine ⟨fun m β=>m≤n+1∧∃ kvs x3 x4 x5 x6 x7 x8,β=[some (.val false (.int n)),some (.val false (tsD ps)),some (.shl true (dA kvs)),x3,x4,x5,x6,x7,x8]∧(m≤n→KnF (fun i j=>tsD (fstG ps w1 i j)) kvs n (n - m) (n - m))∧(m=n+1→valA kvs (tI (0,n))=some (tsD (fstG ps w1 0 n))),⟨Nat.zero_le _,[],_,_,_,_,_,_,rfl,fun _=>kf_nil,fun z=>by omega⟩,?_,?_⟩
 ·rintro m d β hd ⟨_,kvs,x3,x4,x5,x6,x7,x8,rfl,kn,_⟩
  obtain ⟨hm,rfl⟩:=rngN_get hd
  have kn:=kn (by omega)
  obtain ⟨i,hi⟩:∃ i,i=n - m:=⟨_,rfl⟩
  rw [← hi] at kn
  rw [show (n:Int) - (m:Int)=(i:Int) by omega]
  have hin:i≤n:=by omega
  obtain ⟨v0,k0⟩:=kf_add kn (Nat.le_refl i) hin
  have hlen:=kn.len
  refine ⟨Nat.zero_le _,⟨trivial,fun z=>(nomatch z)⟩,⟨_,rfl⟩,_,rfl,trivial,_,rfl,trivial,sz2,kvs,tI (i,i),rfl,rfl,v0,Nat.lt_of_le_of_lt (show kvs.length≤4200 by omega) (by decide),?_⟩
  rw [fstG_nil (Nat.lt_irrefl i)] at k0
  refine ⟨_,rfl,trivial,_,rfl,trivial,_,rfl,trivial,_,rfl,trivial,(i:Int)+1,(n:Int)+1,rfl,⟨by omega,by omega,by omega,by omega⟩,trivial,?_⟩
  rw [show ((n:Int)+1 - ((i:Int)+1)).toNat=n - i by omega]
  refine ⟨fun m' β=>m'≤n - i∧∃ kvs x4 x5 x6 x7 x8,β=[some (.val false (.int n)),some (.val false (tsD ps)),some (.shl true (dA kvs)),some (.val true (.int i)),x4,x5,x6,x7,x8]∧KnF (fun i j=>tsD (fstG ps w1 i j)) kvs n i (i+1+m'),⟨Nat.zero_le _,_,_,_,_,_,_,rfl,k0⟩,?_,?_⟩
  ·rintro m' d β hd ⟨_,kvs,x4,x5,x6,x7,x8,rfl,kn⟩
   obtain ⟨hm',rfl⟩:=rngD_get hd
   obtain ⟨j,hj⟩:∃ j,j=i+1+m':=⟨_,rfl⟩
   rw [← hj] at kn
   rw [show (i:Int)+1+(m':Int)=(j:Int) by omega]
   have hij:i < j:=by omega
   have hjn:j≤n:=by omega
   obtain ⟨v0,k0⟩:=kf_add kn (show i≤j by omega) hjn
   have hlen:=kn.len
   have hb:∀ a b:Nat,i < a→a≤b→b≤n→valA kvs [(a:Int),(b:Int)]=some (tsD (fstG ps w1 a b)):=fun a b h1 h2 h3=>kn.ge a b (by unfold Df2; omega)
   refine ⟨⟨_,rfl⟩,_,rfl,trivial,_,rfl,trivial,_,rfl,trivial,sz2,kvs,[(i:Int)+1,(j:Int)],_,rfl,rfl,hb (i+1) j (by omega) (by omega) hjn,trivial,rfl,sz1,by show 5 < 9; decide,?_⟩
   refine ⟨_,rfl,_,rfl,trivial,?_⟩
   refine ⟨fun m β=>m≤ps.length∧∃ x6 x7,β=[some (.val false (.int n)),some (.val false (tsD ps)),some (.shl true (dA kvs)),some (.val true (.int i)),some (.val true (.int j)),some (.shl true (.lst ((cndS ps i j (ps.take m)).map tsD))),x6,x7,x8],⟨Nat.zero_le _,_,_,rfl⟩,?_,?_⟩
   ·rintro m2 d β hd ⟨_,x6,x7,rfl⟩
    rw [List.getElem?_map] at hd
    obtain ⟨p,hpm,rfl⟩:=Option.map_eq_some_iff.mp hd
    have hml:=(List.getElem?_eq_some_iff.mp hpm).1
    obtain ⟨hp1,hp2⟩:=ok.lt p (List.mem_of_getElem? hpm)
    have et:ps.take (m2+1)=ps.take m2++[p]:=by rw [List.take_add_one,hpm]; rfl
    refine ⟨_,rfl,rfl,_,_,rfl,_,_,rfl,rfl,?_⟩
    have ecs:cndS ps i j (ps.take m2++[p])=cndS ps i j (ps.take m2)++if p.1=i∧p.2 < j then [cnd1 ps i j p] else []:=by
     unfold cndS
     rw [tieC_snoc,List.map_append,List.cons_append]
     split <;> rfl
    refine ⟨_,rfl,trivial,_,rfl,_,dEq_int _ _,_,rfl,ifD (fun h1=>⟨_,rfl,trivial,_,rfl,_,rfl,_,rfl,ifD (fun h2=>?_) (fun h2=>?_)⟩) (fun h1=>?_)⟩
    ·have e1:p.1=i:=by omega
     have e2:p.2 < j:=by omega
     rw [if_pos ⟨e1,e2⟩] at ecs
     have l1:=fstG_len (w:=w1) hp (p.2 - (i+1)) (i+1) p.2 (Nat.le_refl _)
     have l2:=fstG_len (w:=w1) hp (j - (p.2+1)) (p.2+1) j (Nat.le_refl _)
     have c1:dAdd (.lst [kD (tI p)]) (tsD (fstG ps w1 (i+1) p.2))=some (tsD (p::fstG ps w1 (i+1) p.2)):=dAdd_lst (by rw [List.length_map]; show 1+_≤_; omega)
     have c2:dAdd (tsD (p::fstG ps w1 (i+1) p.2)) (tsD (fstG ps w1 (p.2+1) j))=some (tsD (cnd1 ps i j p)):=by
      have:=dAdd_lst (a:=(p::fstG ps w1 (i+1) p.2).map fun p=>kD (tI p)) (b:=(fstG ps w1 (p.2+1) j).map fun p=>kD (tI p)) (by rw [List.length_map,List.length_map,List.length_cons]; omega)
      rw [← List.map_append] at this
      exact this
     refine ⟨⟨_,rfl⟩,_,rfl,trivial,_,rfl,trivial,sz2,trivial,sz1,trivial,⟨_,rfl⟩,_,rfl,trivial,_,rfl,trivial,_,rfl,trivial,sz2,kvs,[(i:Int)+1,(p.2:Int)],_,rfl,rfl,hb (i+1) p.2 (by omega) (by omega) (by omega),_,c1,.inr ⟨trivial,⟨_,rfl⟩,_,rfl,trivial,_,rfl,trivial,_,rfl,trivial,sz2,kvs,[(p.2:Int)+1,(j:Int)],_,rfl,rfl,hb (p.2+1) j (by omega) (by omega) hjn,_,c2,.inr ⟨trivial,_,rfl,?_,by omega,_,_,by rw [et,ecs,List.map_append]; rfl⟩⟩⟩
     rw [List.length_map]
     have:=tieC_len (i:=i) (j:=j) (l:=ps.take m2)
     have e3:(ps.take m2).length≤400:=by rw [List.length_take]; omega
     unfold cndS
     rw [List.length_cons,List.length_map]
     exact sz_lt (by omega)
    ·rw [if_neg (fun z=>h2 (by omega)),List.append_nil] at ecs
     exact ⟨by omega,_,_,by rw [et,ecs]; rfl⟩
    ·rw [if_neg (fun z=>h1 (by omega)),List.append_nil] at ecs
     exact ⟨by omega,_,_,by rw [et,ecs]; rfl⟩
   ·rintro β ⟨_,x6,x7,rfl⟩
    rw [List.length_map,List.take_length]
    have hcl:(cndS ps i j ps).length≤1000:=by
     have:=tieC_len (i:=i) (j:=j) (l:=ps)
     unfold cndS
     rw [List.length_cons,List.length_map]
     omega
    have em:dOfInts maxI [.lst ((cndS ps i j ps).map fun c=>D.int (c.length:Int))]=some (.int (mX ps i j)):=by
     have:=max_intsM (cnd_max hp hij)
     rw [List.map_map] at this
     exact this
    have lts:∀ c:List (Nat × Nat),dLen [tsD c]=some (.int (c.length:Int)):=fun c=>by
     show some (D.int (((c.map fun p=>kD (tI p)).length:Nat):Int))=_
     rw [List.length_map]
    refine ⟨_,rfl,_,rfl,trivial,?_⟩
    refine loop1A (fun _=>true) (fun c=>.int (c.length:Int)) trivial (sz_le hcl) (fun c hc x0 o J ho h1 _=>?_) ?_
    ·exact ⟨_,rfl,trivial,.int (c.length:Int),lts c,trivial,ho,h1 rfl _⟩
    rw [filter_true]
    refine ⟨trivial,_,em,?_⟩
    refine ⟨_,rfl,_,rfl,rfl,?_⟩
    refine loop1F (longC ps i j) trivial (sz_le hcl) (fun c hc R hR=>?_) ?_
    ·exact ⟨_,rfl,trivial,.int (c.length:Int),lts c,trivial,_,rfl,_,dEq_int _ _,_,rfl,hR⟩
    refine ⟨trivial,tsD (fstG ps w1 i j),cnd_min hp hs hij,.inr ?_⟩
    exact ⟨⟨trivial,fun z=>(nomatch z)⟩,⟨_,rfl⟩,_,rfl,trivial,_,rfl,trivial,sz2,kvs,tI (i,j),rfl,rfl,v0,Nat.lt_of_le_of_lt (show kvs.length≤4200 by omega) (by decide),hm',_,_,_,_,_,_,rfl,by rw [show i+1+(m'+1)=j+1 by omega]; exact k0⟩
  ·rintro β ⟨_,kvs,x4,x5,x6,x7,x8,rfl,kn⟩
   rw [rngD_len,show i+1+(n - i)=n+1 by omega] at kn
   refine ⟨hm,kvs,_,_,_,_,_,_,rfl,fun h=>?_,fun h=>?_⟩
   ·have:=kf_next hn (show 0 < i by omega) kn
    rw [show i - 1=n - (m+1) by omega] at this
    exact this
   ·exact kn.ge 0 n (by unfold Df2; omega)
 ·rintro β ⟨_,kvs,x3,x4,x5,x6,x7,x8,rfl,_,hv⟩
  rw [rngN_len] at hv
  exact ⟨⟨_,rfl⟩,trivial,_,rfl,trivial,sz2,kvs,[0,(n:Int)],_,rfl,rfl,hv rfl,trivial,q⟩
end
end K30
end

noncomputable section
set_option Elab.async false
set_option linter.all false
set_option maxRecDepth 100000
set_option maxHeartbeats 4000000
namespace K30
open PySem L2 L2.Q
section
variable {P:Program} {w:World} {K:PySem.W.Frag} {mg:Str→Option Value} {base:Heap}
theorem sc_law_same:FnScope ["found","due"] ["found","due"] (defScope s_law_same):=⟨rfl,rfl,rfl,by decide +kernel,rfl,by decide +kernel,by decide +kernel⟩
theorem ok_same {fdM:Addr} {fddM:FuncData} (dM:Df K mg "_law_same" s_law_same ["found","due"] fdM fddM) (B:Bs2 mg):∀ n:Nat,FnOk P w K mg base CX0 (n+1) fdM fddM ["found","due"] (spQ P w true (fSameQ n)):=by
 intro n
 induction n with
 | zero =>
  refine okQ dM.F sc_law_same (fun ds R ⟨d,e,_⟩=>by subst e; rfl) fun cdv A outer s H E hr=>⟨_,(pbs_cons (pb_if (pqt_val (pq_old (pv_isi2 B.isi (pv_var (i:=1)) B.list bt_list B.tuple bt_tuple))) pbs_never pbs_nil)
    (pbs_cons (pb_if (PQW.t (pqw_or (pqt_cmp nok_NF (OpD.m op_dIsN) (pq_var (i:=1)) pq_non) (pqw_or1 (pqt_val (pq_old (pv_isi1 B.isi (pv_var (i:=1)) B.str bt_str)))))) (pbs_one (pb_ret (pq_cmp nok_NF (OpD.m (op_dEq hr.units)) (pq_var (i:=0)) (pq_var (i:=1))))) pbs_nil)
    (pbs_one (pb_ret (pq_and (pq_old (pv_isi1 B.isi (pv_var (i:=0)) B.int bt_int)) (pq_and (pq_not (pq_old (pv_isi1 B.isi (pv_var (i:=0)) B.bool bt_bool))) (pq_one (pq_cmp nok_NF (OpD.m (op_dEq hr.units)) (pq_var (i:=0)) (pq_var (i:=1)))))))))),fun ds R h=>?_⟩
  obtain ⟨d,rfl,hl,q⟩:=h
  cases hl with
  | leaf hl =>
   cases hl with
   | int i =>
    refine ⟨_,rfl,_,_,rfl,kit_ilt,rfl,_,rfl,ifF rfl ⟨_,rfl,trivial,_,rfl,_,rfl,ifF rfl ⟨_,rfl,_,_,rfl,kit_is,rfl,_,rfl,ifF rfl ?_⟩⟩⟩
    exact ⟨_,rfl,_,_,rfl,kit_ii,rfl,_,rfl,ifT rfl ⟨_,rfl,_,_,rfl,kit_ib,rfl,_,rfl,_,rfl,ifT rfl ⟨_,rfl,trivial,_,rfl,_,dEq_self (small_int i),trivial,q⟩⟩⟩
   | str x hx =>
    refine ⟨_,rfl,_,_,rfl,kit_slt,rfl,_,rfl,ifF rfl ⟨_,rfl,trivial,_,rfl,_,rfl,ifF rfl ⟨_,rfl,_,_,rfl,kit_ss,rfl,_,rfl,ifT rfl ?_⟩⟩⟩
    exact ⟨_,rfl,trivial,_,rfl,_,dEq_self (small_str x hx),trivial,q⟩
   | non =>
    refine ⟨_,rfl,_,_,rfl,kit_nlt,rfl,_,rfl,ifF rfl ⟨_,rfl,trivial,_,rfl,_,rfl,ifT rfl (ifT rfl ?_)⟩⟩
    exact ⟨_,rfl,trivial,_,rfl,_,dEq_self small_non,trivial,q⟩
 | succ n ih =>
  have GM:FnOk P w K mg base CX0 (n+1) _ _ _ (spQ P w true (fSameQ n)):=ih
  refine okQ dM.F sc_law_same (fun ds R ⟨d,e,_⟩=>by subst e; rfl) fun cdv A outer s H E hr=>⟨_,(pbs_cons (pb_if (pqt_val (pq_old (pv_isi2 B.isi (pv_var (i:=1)) B.list bt_list B.tuple bt_tuple))) (pbs_cons (pb_if (PQW.t (pqw_or (pqt_cmp nok_NF (OpD.m (op_dNe hr.units)) (pq_old (pv_isi1 B.isi (pv_var (i:=0)) B.list bt_list)) (pq_old (pv_isi1 B.isi (pv_var (i:=1)) B.list bt_list))) (pqw_or1 (pqt_not (pqt_val (pq_old (pv_isi2 B.isi (pv_var (i:=0)) B.list bt_list B.tuple bt_tuple))))))) (pbs_one (pb_ret pq_bl)) pbs_nil)
    (pbs_cons (pb_if (pqt_cmp nok_NF (OpD.m (op_dNe hr.units)) (pq_callB nok_NF (CallD.m call_dLen) B.len bt_len (pqa_cons (pq_var (i:=0)) pqa_nil)) (pq_callB nok_NF (CallD.m call_dLen) B.len bt_len (pqa_cons (pq_var (i:=1)) pqa_nil))) (pbs_one (pb_ret pq_bl)) pbs_nil)
    (pbs_one (pb_ret (pq_cmp nok_NF (OpD.m (op_dEq hr.units)) (lcA ["one","other"] [none,none] (by rfl) (by decide:(["one","other"]:List Str).Nodup) rfl (pqi_old (pvi_zip B.zip (pva_cons (pv_var (i:=0)) (pva_cons (pv_var (i:=1)) pva_nil)))) (fun _ _ _ _ _ _=>(pbg_tup (n:=2) rfl (pbgs_cons (pbg_name (i:=0) (by decide:(["one","other"]:List Str).Nodup)) (pbgs_cons (pbg_name (i:=1) (by decide:(["one","other"]:List Str).Nodup)) pbgs_nil)))) (fun _ _ _ _ _ _=>(ts_one (pqt_not (pqt_val (pq_call fSameQ.mono GM (hr.mono (by omega)) dM.m dM.F.kp dM.b (pqa_cons (pq_var (i:=0)) (pqa_cons (pq_var (i:=1)) pqa_nil))))))) (fun _ _ _ _ _ _=>pq_int)) (pq_lst pqa_nil)))))) pbs_nil)
    (pbs_cons (pb_if (PQW.t (pqw_or (pqt_cmp nok_NF (OpD.m op_dIsN) (pq_var (i:=1)) pq_non) (pqw_or1 (pqt_val (pq_old (pv_isi1 B.isi (pv_var (i:=1)) B.str bt_str)))))) (pbs_one (pb_ret (pq_cmp nok_NF (OpD.m (op_dEq hr.units)) (pq_var (i:=0)) (pq_var (i:=1))))) pbs_nil)
    (pbs_one (pb_ret (pq_and (pq_old (pv_isi1 B.isi (pv_var (i:=0)) B.int bt_int)) (pq_and (pq_not (pq_old (pv_isi1 B.isi (pv_var (i:=0)) B.bool bt_bool))) (pq_one (pq_cmp nok_NF (OpD.m (op_dEq hr.units)) (pq_var (i:=0)) (pq_var (i:=1)))))))))),fun ds R h=>?_⟩
  obtain ⟨d,rfl,hl,q⟩:=h
  cases hl with
  | leaf hl =>
   cases hl with
   | int i =>
    refine ⟨_,rfl,_,_,rfl,kit_ilt,rfl,_,rfl,ifF rfl ⟨_,rfl,trivial,_,rfl,_,rfl,ifF rfl ⟨_,rfl,_,_,rfl,kit_is,rfl,_,rfl,ifF rfl ?_⟩⟩⟩
    exact ⟨_,rfl,_,_,rfl,kit_ii,rfl,_,rfl,ifT rfl ⟨_,rfl,_,_,rfl,kit_ib,rfl,_,rfl,_,rfl,ifT rfl ⟨_,rfl,trivial,_,rfl,_,dEq_self (small_int i),trivial,q⟩⟩⟩
   | str x hx =>
    refine ⟨_,rfl,_,_,rfl,kit_slt,rfl,_,rfl,ifF rfl ⟨_,rfl,trivial,_,rfl,_,rfl,ifF rfl ⟨_,rfl,_,_,rfl,kit_ss,rfl,_,rfl,ifT rfl ?_⟩⟩⟩
    exact ⟨_,rfl,trivial,_,rfl,_,dEq_self (small_str x hx),trivial,q⟩
   | non =>
    refine ⟨_,rfl,_,_,rfl,kit_nlt,rfl,_,rfl,ifF rfl ⟨_,rfl,trivial,_,rfl,_,rfl,ifT rfl (ifT rfl ?_)⟩⟩
    exact ⟨_,rfl,trivial,_,rfl,_,dEq_self small_non,trivial,q⟩
  | @tup _ es l hl =>
   refine ⟨_,rfl,_,_,rfl,kit_tlt,rfl,_,rfl,ifT rfl ?_⟩
   refine ⟨_,rfl,_,_,rfl,kit_tl,rfl,trivial,_,rfl,_,_,rfl,kit_tl,rfl,_,dNe_self (small_bl false),_,rfl,ifF rfl ⟨_,rfl,_,_,rfl,kit_tlt,rfl,_,rfl,ifF rfl ?_⟩⟩
   refine ⟨_,rfl,trivial,_,rfl,trivial,_,rfl,trivial,_,rfl,_,dNe_self (small_int _),_,rfl,ifF rfl ?_⟩
   refine ⟨_,rfl,_,rfl,es,es,.inr rfl,trivial,?_⟩
   refine ⟨fun i β o=>o=[]∧∃ x0 x1,β=[x0,x1],⟨rfl,_,_,rfl⟩,?_,?_⟩
   ·rintro i d β o hd ⟨rfl,x0,x1,rfl⟩
    obtain ⟨a,ha,rfl⟩:=zipD_self (List.mem_of_getElem? hd)
    have ha':=hl a ha
    have hb:=ha'
    clear ha hd
    cases hb with
    | leaf h=>cases h <;> exact ⟨_,rfl,rfl,_,_,rfl,_,_,rfl,rfl,_,rfl,trivial,_,rfl,trivial,_,rfl,ha',_,rfl,ifF rfl ⟨rfl,_,_,rfl⟩⟩
    | tup=>exact ⟨_,rfl,rfl,_,_,rfl,_,_,rfl,rfl,_,rfl,trivial,_,rfl,trivial,_,rfl,ha',_,rfl,ifF rfl ⟨rfl,_,_,rfl⟩⟩
    | lst=>exact ⟨_,rfl,rfl,_,_,rfl,_,_,rfl,rfl,_,rfl,trivial,_,rfl,trivial,_,rfl,ha',_,rfl,ifF rfl ⟨rfl,_,_,rfl⟩⟩
   ·rintro β o ⟨rfl,x0,x1,rfl⟩
    exact ⟨trivial,trivial,Nat.zero_le _,_,dEq_self (small_ints []),trivial,q⟩
  | @lst _ es l hl =>
   refine ⟨_,rfl,_,_,rfl,kit_llt,rfl,_,rfl,ifT rfl ?_⟩
   refine ⟨_,rfl,_,_,rfl,kit_ll,rfl,trivial,_,rfl,_,_,rfl,kit_ll,rfl,_,dNe_self (small_bl true),_,rfl,ifF rfl ⟨_,rfl,_,_,rfl,kit_llt,rfl,_,rfl,ifF rfl ?_⟩⟩
   refine ⟨_,rfl,trivial,_,rfl,trivial,_,rfl,trivial,_,rfl,_,dNe_self (small_int _),_,rfl,ifF rfl ?_⟩
   refine ⟨_,rfl,_,rfl,es,es,.inl rfl,trivial,?_⟩
   refine ⟨fun i β o=>o=[]∧∃ x0 x1,β=[x0,x1],⟨rfl,_,_,rfl⟩,?_,?_⟩
   ·rintro i d β o hd ⟨rfl,x0,x1,rfl⟩
    obtain ⟨a,ha,rfl⟩:=zipD_self (List.mem_of_getElem? hd)
    have ha':=hl a ha
    have hb:=ha'
    clear ha hd
    cases hb with
    | leaf h=>cases h <;> exact ⟨_,rfl,rfl,_,_,rfl,_,_,rfl,rfl,_,rfl,trivial,_,rfl,trivial,_,rfl,ha',_,rfl,ifF rfl ⟨rfl,_,_,rfl⟩⟩
    | tup=>exact ⟨_,rfl,rfl,_,_,rfl,_,_,rfl,rfl,_,rfl,trivial,_,rfl,trivial,_,rfl,ha',_,rfl,ifF rfl ⟨rfl,_,_,rfl⟩⟩
    | lst=>exact ⟨_,rfl,rfl,_,_,rfl,_,_,rfl,rfl,_,rfl,trivial,_,rfl,trivial,_,rfl,ha',_,rfl,ifF rfl ⟨rfl,_,_,rfl⟩⟩
   ·rintro β o ⟨rfl,x0,x1,rfl⟩
    exact ⟨trivial,trivial,Nat.zero_le _,_,dEq_self (small_ints []),trivial,q⟩
theorem sc_most_of_kinds:FnScope ["kinds","pairs","gap"] ["kinds","pairs","gap"] (defScope s_most_of_kinds):=⟨rfl,rfl,rfl,by decide +kernel,rfl,by decide +kernel,by decide +kernel⟩
theorem ok_mok {fdMk:Addr} {fddMk:FuncData} (dMk:Df K mg "most_of_kinds" s_most_of_kinds ["kinds","pairs","gap"] fdMk fddMk) {fdRk:Addr} {fddRk:FuncData} (dRk:Df K mg "row_of_kinds" s_row_of_kinds ["kinds","pairs","gap"] fdRk fddRk) {fdCg:Addr} {fddCg:FuncData} (dCg:Df K mg "check_gap" s_check_gap ["gap"] fdCg fddCg) {fdEw:Addr} {fddEw:FuncData} (dEw:Df K mg "pairs_either_way" s_pairs_either_way ["pairs"] fdEw fddEw) {fdMt:Addr} {fddMt:FuncData} (dMt:Df K mg "most_ties" s_most_ties ["row"] fdMt fddMt) {fdMo:Addr} {fddMo:FuncData} (dMo:Df K mg "most_of" s_most_of ["row","i","j"] fdMo fddMo) {fdTb:Addr} {fddTb:FuncData} (dTb:Df K mg "table_of" s_table_of ["row"] fdTb fddTb) {fdGt:Addr} {fddGt:FuncData} (dGt:Df K mg "greatest_table" s_greatest_table ["row","worth"] fdGt fddGt) {fdPt:Addr} {fddPt:FuncData} (dPt:Df K mg "partners_of" s_partners_of ["row"] fdPt fddPt) {fdSt:Addr} {fddSt:FuncData} (dSt:Df K mg "stretches_rising" s_stretches_rising ["many"] fdSt fddSt) {fdLn:Addr} {fddLn:FuncData} (dLn:Df K mg "least_number" s_least_number ["partners","worth","table","i","j"] fdLn fddLn) {fdNw:Addr} {fddNw:FuncData} (dNw:Df K mg "number_with" s_number_with ["worth","table","i","k","j"] fdNw fddNw) {fdOe:Addr} {fddOe:FuncData} (dOe:Df K mg "one_each" s_one_each ["row"] fdOe fddOe) {fdFg:Addr} {fddFg:FuncData} (dFg:Df K mg "first_greatest" s_first_greatest ["row","worth","table","i","j"] fdFg fddFg) {fdBc:Addr} {fddBc:FuncData} (dBc:Df K mg "best_choices" s_best_choices ["partners","worth","table","i","j"] fdBc fddBc) {fdPa:Addr} {fddPa:FuncData} (dPa:Df K mg "parts_left" s_parts_left ["i","k","j"] fdPa fddPa) (B:Bs3 mg) (BK:BsK mg):FnOk P w K mg base CX0 7 fdMk fddMk ["kinds","pairs","gap"] (spQ P w true fMok):=by
 have GRk:FnOk P w K mg base CX0 2 _ _ _ (spQ P w true fRok):=ok_rok dRk dCg dEw BK
 have GMt:FnOk P w K mg base CX0 6 _ _ _ (spQ P w true fMost):=ok_most dMt dMo dTb dGt dPt dSt dLn dNw dOe dFg dBc dPa B
 refine okQ dMk.F sc_most_of_kinds (fun ds R ⟨ks,ps,g,e,_⟩=>by subst e; rfl) fun cdv A outer s H E hr=>⟨_,(pbs_one (pb_ret (pq_call fMost.mono GMt (hr.mono (by decide)) dMt.m dMt.F.kp dMt.b (pqa_cons (pq_call fRok.mono GRk (hr.mono (by decide)) dRk.m dRk.F.kp dRk.b (pqa_cons (pq_var (i:=0)) (pqa_cons (pq_var (i:=1)) (pqa_cons (pq_var (i:=2)) pqa_nil)))) pqa_nil)))),fun ds R h=>?_⟩
 obtain ⟨ks,ps,g,rfl,hk,hl,hp,g0,q⟩:=h
 exact ⟨_,rfl,trivial,_,rfl,trivial,_,rfl,trivial,ks,ps,g,rfl,by omega,hl,hp,g0,trivial,_,_,rfl,tK_ok hk,trivial,q⟩
theorem sc_law:FnScope ["script","cell","pot","kinds","few","pairs","gap","most","handed","again","told"] ["script"] (defScope s_law):=⟨rfl,rfl,rfl,by decide +kernel,rfl,by decide +kernel,by decide +kernel⟩
def spLaw (K:PySem.W.Frag):Sp:=fun vs H Q _=>∃ (a:Addr) (ns:List Int),vs=[.ref a]∧SqL K H a (ns.map V.int)∧ns.length≤63∧∀ H',Q (.bl true) H'
def JL (β:Q.Bet):Prop:=∃ y0 y1 y2 y3 y4 y5 y6 y7 y8 y9 y10:Option Q.B,β=[y0,y1,y2,y3,y4,y5,y6,y7,y8,y9,y10]
theorem ok_law {f:Addr} {fd:FuncData} (F:Fun K "law" "law" s_law f fd) (B3:Bs3 mg) (B:BsK mg) {fdRk:Addr} {fddRk:FuncData} (dRk:Df K mg "row_of_kinds" s_row_of_kinds ["kinds","pairs","gap"] fdRk fddRk) {fdCg:Addr} {fddCg:FuncData} (dCg:Df K mg "check_gap" s_check_gap ["gap"] fdCg fddCg) {fdEw:Addr} {fddEw:FuncData} (dEw:Df K mg "pairs_either_way" s_pairs_either_way ["pairs"] fdEw fddEw) {fdMt:Addr} {fddMt:FuncData} (dMt:Df K mg "most_ties" s_most_ties ["row"] fdMt fddMt) {fdMo:Addr} {fddMo:FuncData} (dMo:Df K mg "most_of" s_most_of ["row","i","j"] fdMo fddMo) {fdTb:Addr} {fddTb:FuncData} (dTb:Df K mg "table_of" s_table_of ["row"] fdTb fddTb) {fdGt:Addr} {fddGt:FuncData} (dGt:Df K mg "greatest_table" s_greatest_table ["row","worth"] fdGt fddGt) {fdPt:Addr} {fddPt:FuncData} (dPt:Df K mg "partners_of" s_partners_of ["row"] fdPt fddPt) {fdSt:Addr} {fddSt:FuncData} (dSt:Df K mg "stretches_rising" s_stretches_rising ["many"] fdSt fddSt) {fdLn:Addr} {fddLn:FuncData} (dLn:Df K mg "least_number" s_least_number ["partners","worth","table","i","j"] fdLn fddLn) {fdNw:Addr} {fddNw:FuncData} (dNw:Df K mg "number_with" s_number_with ["worth","table","i","k","j"] fdNw fddNw) {fdOe:Addr} {fddOe:FuncData} (dOe:Df K mg "one_each" s_one_each ["row"] fdOe fddOe) {fdFg:Addr} {fddFg:FuncData} (dFg:Df K mg "first_greatest" s_first_greatest ["row","worth","table","i","j"] fdFg fddFg) {fdBc:Addr} {fddBc:FuncData} (dBc:Df K mg "best_choices" s_best_choices ["partners","worth","table","i","j"] fdBc fddBc) {fdPa:Addr} {fddPa:FuncData} (dPa:Df K mg "parts_left" s_parts_left ["i","k","j"] fdPa fddPa) {fdMk:Addr} {fddMk:FuncData} (dMk:Df K mg "most_of_kinds" s_most_of_kinds ["kinds","pairs","gap"] fdMk fddMk) {fdP:Addr} {fddP:FuncData} (dP:Df K mg "_law_pot" s_law_pot ["cell"] fdP fddP) {fdT:Addr} {fddT:FuncData} (dT:Df K mg "_law_take" s_law_take ["pot","many"] fdT fddT) {fdKi:Addr} {fddKi:FuncData} (dKi:Df K mg "_law_kinds" s_law_kinds ["pot"] fdKi fddKi) {fdPr:Addr} {fddPr:FuncData} (dPr:Df K mg "_law_pairs" s_law_pairs ["pot","few"] fdPr fddPr) {fdGa:Addr} {fddGa:FuncData} (dGa:Df K mg "_law_gap" s_law_gap ["pot"] fdGa fddGa) {fdTl:Addr} {fddTl:FuncData} (dTl:Df K mg "_law_ties" s_law_ties ["kinds","pairs","gap"] fdTl fddTl) {fdMl:Addr} {fddMl:FuncData} (dMl:Df K mg "_law_most" s_law_most ["many","ties"] fdMl fddMl) {fdM:Addr} {fddM:FuncData} (dM:Df K mg "_law_same" s_law_same ["found","due"] fdM fddM):FnOk P w K mg base CX0 9 f fd ["script"] (spLaw K):=by
 have GP:FnOk P w K mg base CX0 1 _ _ _ (spQ P w true fPot):=ok_pot dP.F B.toBs
 have GKi:FnOk P w K mg base CX0 2 _ _ _ (spQH P w okP false fKinds):=ok_kinds dKi dT B
 have GPr:FnOk P w K mg base CX0 2 _ _ _ (spQH P w okP true fPairs):=ok_pairs dPr dT B
 have GGa:FnOk P w K mg base CX0 2 _ _ _ (spQH P w okP true fGap):=ok_gap dGa dT B
 have GTl:FnOk P w K mg base CX0 1 _ _ _ (spQ P w true fTiesL):=ok_tiesL dTl B
 have GMl:FnOk P w K mg base CX0 1 _ _ _ (spQ P w false fMostL):=ok_mostL dMl B3
 have GMk:FnOk P w K mg base CX0 7 _ _ _ (spQ P w true fMok):=ok_mok dMk dRk dCg dEw dMt dMo dTb dGt dPt dSt dLn dNw dOe dFg dBc dPa B3 B
 have GM:FnOk P w K mg base CX0 4 _ _ _ (spQ P w true (fSameQ 3)):=ok_same dM B.toBs2 3
 refine F.ok sc_law (fun vs H Q E h=>?_) (fun cdv A outer s H vs Qk E hr h=>?_)
 ·obtain ⟨a,ns,rfl,_⟩:=h
  rfl
 ·obtain ⟨a,ns,rfl,hS,hlen,k⟩:=h
  have hio:∀ b:Addr,¬ (fun _=>False) b:=fun b z=>z
  obtain ⟨ψ,hb,hψ⟩:∃ ψ,Q.PBs (cxOf CX0 P w K mg base _ "law" (defScope s_law) f cdv A outer s H E).nox ⟨H,fun _=>False,true,fun _=>False⟩ (match (defBody s_law) with | .For _ _ b _ _::_=>b | _=>[]) ψ ∧
    ∀ (c:Int) (x0 x2 x3 x4 x5 x6 x7 x8 x9 x10:Option Q.B),ψ { nx:=JL,rt:=fun d _=>d=.bl true,bk:=JL,ct:=JL } [x0,some (.val true (.int c)),x2,x3,x4,x5,x6,x7,x8,x9,x10]:=by
   refine ⟨_,(pbs_cons (pb_setH (i:=2) okP hio (fun _=>(pq_call fPot.mono GP (hr.mono (by decide)) dP.m dP.F.kp dP.b (pqa_cons (pq_var (i:=1)) pqa_nil))) sc_law.nd)
    (pbs_cons (pb_asg (pq_draw (ih:=2) fKinds.mono GKi (hr.mono (by decide)) dKi.m dKi.F.kp dKi.b pqa_nil) (pbg_tup (n:=2) rfl (pbgs_cons (pbg_name (i:=3) sc_law.nd) (pbgs_cons (pbg_name (i:=4) sc_law.nd) pbgs_nil))))
    (pbs_cons (pb_set (i:=5) (pq_draw (ih:=2) fPairs.mono GPr (hr.mono (by decide)) dPr.m dPr.F.kp dPr.b (pqa_cons (pq_var (i:=4)) pqa_nil)) sc_law.nd)
    (pbs_cons (pb_set (i:=6) (pq_draw (ih:=2) fGap.mono GGa (hr.mono (by decide)) dGa.m dGa.F.kp dGa.b pqa_nil) sc_law.nd)
    (pbs_cons (pb_set (i:=7) (pq_call fMostL.mono GMl (hr.mono (by decide)) dMl.m dMl.F.kp dMl.b (pqa_cons (pq_callB nok_NF (CallD.m call_dLen) B.len bt_len (pqa_cons (pq_var (i:=3)) pqa_nil)) (pqa_cons (pq_call fTiesL.mono GTl (hr.mono (by decide)) dTl.m dTl.F.kp dTl.b (pqa_cons (pq_var (i:=3)) (pqa_cons (pq_var (i:=5)) (pqa_cons (pq_var (i:=6)) pqa_nil)))) pqa_nil))) sc_law.nd)
    (pbs_cons (pb_set (i:=8) (pq_lst (pqa_cons (pq_callTy nok_NL call_dListN B.list bt_list (pqa_cons (pq_var (i:=3)) pqa_nil)) (pqa_cons (pq_callTy nok_NL call_dListN B.list bt_list (pqa_cons (pq_var (i:=5)) pqa_nil)) pqa_nil))) sc_law.nd)
    (pbs_one (pb_for PassesOwn.never rfl (pqi_range1 B.range (pqa_cons pq_int pqa_nil)) (pbg_name (i:=9) sc_law.nd) (pbs_cons (pb_setO (i:=10) (fun _=>(pq_call fMok.mono GMk (hr.mono (by decide)) dMk.m dMk.F.kp dMk.b (pqa_cons (pq_ix nok_NF ix_m (pq_var (i:=8)) pq_int) (pqa_cons (pq_ix nok_NF ix_m (pq_var (i:=8)) pq_int) (pqa_cons (pq_var (i:=6)) pqa_nil))))) sc_law.nd)
    (pbs_cons (pb_if (PQW.t (pqw_or (pqt_not (pqt_val (pq_call fSameQ.mono GM (hr.mono (by decide)) dM.m dM.F.kp dM.b (pqa_cons (pq_var (i:=10)) (pqa_cons (pq_tup (pqa_cons (pq_callB nok_NF (CallD.m call_dLen) B.len bt_len (pqa_cons (pq_var (i:=7)) pqa_nil)) (pqa_cons (pq_var (i:=7)) pqa_nil))) pqa_nil))))) (pqw_or1 (pqt_cmp nok_NF (OpD.m (op_dNe hr.units)) (pq_var (i:=8)) (pq_lst (pqa_cons (pq_var (i:=3)) (pqa_cons (pq_var (i:=5)) pqa_nil))))))) (pbs_one (pb_ret pq_bl)) pbs_nil)
    (pbs_one (pb_appendAt (i:=10) false (fun _=>(pq_tup (pqa_cons pq_int (pqa_cons pq_int pqa_nil)))) (fun _=>pq_int))))))))))))),fun c x0 x2 x3 x4 x5 x6 x7 x8 x9 x10=>?_⟩
   refine ⟨_,rfl,trivial,c,rfl,fun ns hk=>⟨trivial,(by show 2 < 11; decide),ns,rfl,hk,?_⟩⟩
   refine ⟨rfl,rfl,trivial,rfl,fun ks fs hks hf hfs=>?_⟩
   refine ⟨_,rfl,rfl,_,_,rfl,_,_,rfl,rfl,?_⟩
   refine ⟨rfl,_,rfl,trivial,rfl,trivial,fs,rfl,hf,hfs,fun ps pl pp=>?_⟩
   refine ⟨rfl,rfl,trivial,rfl,fun g g0=>?_⟩
   have tok:=tK_ok (ks:=ks) (ps:=ps) (g:=g) (by omega)
   have thp:∀ p ∈ tK ks ps g,p.1 < p.2:=fun p hp=>(tok.lt p hp).1
   obtain ⟨F,hF⟩:∃ F,F=fstG (tK ks ps g) w1 0 ks.length:=⟨_,rfl⟩
   have esz:tW (tK ks ps g) w1 (ks.length - 0) 0=(F.length:Int):=by rw [hF]; exact (fstG_sz thp).symm
   have eFl:F.length≤30:=by rw [hF]; have:=fstG_len (w:=w1) thp ks.length 0 ks.length (by omega); omega
   have emost:mostD (tK ks ps g) 0 ks.length=rwD F.length F:=by unfold mostD rwD; rw [esz,hF]
   refine ⟨_,rfl,trivial,_,rfl,trivial,_,rfl,trivial,_,rfl,trivial,_,rfl,trivial,ks,ps,g,rfl,by omega,pl,pp,g0,trivial,ks.length,tK ks ps g,by rw [List.length_map],tok,by omega,tK_pw,?_⟩
   rw [← hF]
   refine ⟨_,rfl,trivial,_,rfl,.inl ⟨flats_int (f:=id),trivial,_,rfl,trivial,_,rfl,.inl ⟨flats_kD _,trivial,sz2,?_⟩⟩⟩
   refine ⟨trivial,2,rfl,by decide,by decide,trivial,?_⟩
   refine ⟨fun _ β=>∃ y9 y10:Option Q.B,β=[x0,some (.val true (.int c)),some (.hand okP),some (.val true (.lst (ks.map D.int))),some (.val true (.lst (fs.map D.int))),some (.val true (.lst (ps.map kD))),some (.val true (.int g)),some (.val true (tsD F)),some (.val true (.lst [.lst (ks.map D.int),.lst (ps.map kD)])),y9,y10],⟨_,_,rfl⟩,?_,?_⟩
   ·rintro j d β hd ⟨y9,y10,rfl⟩
    obtain ⟨_,rfl⟩:=rngD_get hd
    refine ⟨_,rfl,trivial,_,rfl,.inr ⟨trivial,_,rfl,trivial,_,rfl,.inr ⟨trivial,_,rfl,trivial,ks,ps,g,rfl,by omega,pl,pp,g0,?_⟩⟩⟩
    rw [emost]
    have lts:dLen [tsD F]=some (.int (F.length:Int)):=by
     show some (D.int (((F.map fun p=>kD (tI p)).length:Nat):Int))=_
     rw [List.length_map]
    refine ⟨trivial,_,rfl,trivial,_,rfl,trivial,.int (F.length:Int),lts,trivial,_,rfl,trivial,sz2,.inr ⟨trivial,rwD F.length F,rfl,dp_rw (by omega),_,rfl,ifF rfl ?_⟩⟩
    refine ⟨_,rfl,trivial,_,rfl,trivial,_,rfl,trivial,sz2,.inr ⟨_,dNe_self (small_kp ks ps),_,rfl,ifF rfl ?_⟩⟩
    exact ⟨⟨_,rfl⟩,[.int F.length,tsD F],1,1,_,rfl,rfl,ixNn (i:=1) rfl (by show 1 < 2; decide),rfl,trivial,trivial,sz2,trivial,rfl,by rw [List.length_map]; exact Nat.lt_of_le_of_lt eFl (by decide),_,_,rfl⟩
   ·rintro β ⟨y9,y10,rfl⟩
    exact ⟨_,_,_,_,_,_,_,_,_,_,_,rfl⟩
  refine ⟨_,pss_cons (ps_for PassesOwn.never rfl (pi_list (pe_op op_cat (pe_lst (pa_cons pe_int pa_nil)) (pe_slice sl_list (pv 0) po_none (po_some pe_int)))) (Q.pbg_name (C:=⟨H,fun _=>False,true,fun _=>False⟩) (i:=1) sc_law.nd).pg hb.ps) (pss_one (ps_ret pe_bl)),?_⟩
  obtain ⟨ms,em,hm⟩:=cutV_ints ns none (some 3)
  refine ⟨(by show 1≤sizeLine; decide),fun p1 hp1=>⟨_,rfl,_,rfl,a,_,rfl,(Same.new hp1).seq hS,fun p2 hp2=>?_⟩⟩
  have n12:p1≠p2:=ne_of_none upd_same hp2
  refine ⟨p1,p2,_,_,rfl,rfl,(by rw [upd_ne n12]; exact upd_same),upd_same,(by rw [em,List.length_map,sizeLine_eq,List.length_singleton]; omega),fun l hl=>⟨l,rfl,⟨_,SqL.of upd_same⟩,?_⟩⟩
  rw [em]
  rw [em] at hl
  have sm:Same H (upd (upd (upd H p1 (.lst [V.int 0])) p2 (.lst (ms.map V.int))) l (.lst ([V.int 0]++ms.map V.int))):=((Same.new hp1).trans (Same.new (by rw [em] at *; exact hp2))).trans (Same.new hl)
  have hcell:(upd (upd (upd H p1 (.lst [V.int 0])) p2 (.lst (ms.map V.int))) l (.lst ([V.int 0]++ms.map V.int))) l=some (.lst ((0::ms).map V.int)):=upd_same
  generalize (upd (upd (upd H p1 (.lst [V.int 0])) p2 (.lst (ms.map V.int))) l (.lst ([V.int 0]++ms.map V.int)))=H1 at sm hcell ⊢
  generalize (0::ms)=cs at hcell
  let X:Cx:=(cxOf CX0 P w K mg base ["script","cell","pot","kinds","few","pairs","gap","most","handed","again","told"] "law" (defScope s_law) f cdv A outer s H E).nox
  let C:Q.Cfg:=⟨H,fun _=>False,true,fun _=>False⟩
  have it:ItD X (fun _=>False) (Itl K l) (cs.map D.int) H1:=itd_list hcell (fun z=>z) (reps_ints cs)
  have itw:=it (fun b=>(fun _=>False) b∨H1 b=none) fun b z=>z
  have s':Q.SQ' P w C.z (L2.start ["script","cell","pot","kinds","few","pairs","gap","most","handed","again","told"] [.ref a]) H1 (List.replicate 11 none) (fun _=>[]):=sq_none (by rfl) sm
  generalize hds:cs.map D.int=ds at itw
  have hint:∀ d ∈ ds,∃ c:Int,d=.int c:=fun d hd=>by
   rw [← hds] at hd
   obtain ⟨c,_,rfl⟩:=List.mem_map.mp hd
   exact ⟨c,rfl⟩
  refine ⟨fun i m σ H'=>i≤ds.length∧m=ds.length - i∧∃ β,Q.SB X C (H1,Q.Wn fun _=>[]) σ H' β∧JL β,⟨_,Nat.zero_le _,rfl,_,⟨_,s',Sn.refl⟩,⟨_,_,_,_,_,_,_,_,_,_,_,rfl⟩⟩,?_⟩
  rintro i m σ2 H2 ⟨hi,rfl,β2,⟨own2,s2,n2⟩,⟨y0,y1,y2,y3,y4,y5,y6,y7,y8,y9,y10,rfl⟩⟩
  obtain ⟨it1,it2⟩:=itw i H2 (n2.k.mono fun b z=>z.imp (fun ⟨_,q⟩=>(nomatch q)) id)
  by_cases hlt:i < ds.length
  ·right
   have hd:ds[i]?=some ds[i]:=List.getElem?_eq_getElem hlt
   obtain ⟨go,yl⟩:=it1 _ hd
   obtain ⟨c,hc⟩:=hint ds[i] (List.getElem_mem hlt)
   refine ⟨go,fun σ' H'=>∃ β,Q.SB X C (H1,Q.Wn fun _=>[]) σ' H' β∧JL β,fun σ' H' ⟨β',sb',hl'⟩=>⟨_,by omega,hlt,rfl,β',sb',hl'⟩,fun x H3 y=>?_⟩
   obtain ⟨s3,r3⟩:=yl x H3 y
   rw [hc] at r3
   refine ⟨own2,_,.int c,.own,s2.same s3,RepD.flat rfl r3,fun σ4 own4 s4 w4 _=>?_⟩
   exact ⟨(H1,Q.Wn fun _=>[]),{ nx:=JL,rt:=fun d _=>d=.bl true,bk:=JL,ct:=JL },_,⟨own4,s4,Q.sn_less (n2.same s3) w4⟩,hψ c y0 y2 y3 y4 y5 y6 y7 y8 y9 y10,⟨fun σ5 H5 β5 sb5 q5=>⟨β5,sb5,q5⟩,fun σ5 H5 β5 d5 v5 sb5 r5 q5=>by
    subst q5
    cases (show v5=V.bl true from rt_bl r5)
    exact k _,fun σ5 H5 β5 sb5 q5=>k _,fun σ5 H5 β5 sb5 q5=>⟨β5,sb5,q5⟩⟩⟩
  ·left
   have e:i=ds.length:=by omega
   subst e
   exact ⟨it2 (Nat.le_refl _),k _⟩
end
end K30
end

noncomputable section
set_option Elab.async false
set_option linter.all false
set_option maxRecDepth 100000
set_option maxHeartbeats 4000000
namespace K30
open PySem L2 L2.Q
theorem len1 {α:Type} {P:List α→Prop} (h:∀ a,P [a]):∀ us:List α,us.length=1→P us:=fun us e=>by
 obtain ⟨a,rfl⟩:=List.length_eq_one_iff.mp e
 exact h a
theorem len2 {α:Type} {P:List α→Prop} (h:∀ a b,P [a,b]):∀ us:List α,us.length=2→P us:=fun us e=>by
 cases us with
 | nil=>cases e
 | cons a us=>exact len1 (P:=fun us=>P (a::us)) (h a) us (Nat.succ.inj e)
theorem len3 {α:Type} {P:List α→Prop} (h:∀ a b c,P [a,b,c]):∀ us:List α,us.length=3→P us:=fun us e=>by
 cases us with
 | nil=>cases e
 | cons a us=>exact len2 (P:=fun us=>P (a::us)) (h a) us (Nat.succ.inj e)
theorem len4 {α:Type} {P:List α→Prop} (h:∀ a b c d,P [a,b,c,d]):∀ us:List α,us.length=4→P us:=fun us e=>by
 cases us with
 | nil=>cases e
 | cons a us=>exact len3 (P:=fun us=>P (a::us)) (h a) us (Nat.succ.inj e)
theorem len5 {α:Type} {P:List α→Prop} (h:∀ a b c d e,P [a,b,c,d,e]):∀ us:List α,us.length=5→P us:=fun us e=>by
 cases us with
 | nil=>cases e
 | cons a us=>exact len4 (P:=fun us=>P (a::us)) (h a) us (Nat.succ.inj e)
abbrev vS (x:Str) (t:Nat):Value:=.str x t
abbrev kE (P:Params) (x:Str) (t:Nat) (v:Value):DictEntry:=⟨PyData.keyHash P x,.str x t,v⟩
abbrev kC (n:Str) (t l p r8 k10 r11:Nat) (v12 v13 v14:Value) (r15 k16 t18:Nat):Obj:={ cls:=.type "code",data:=.fields #[vS n t,vS n (t+1),vS "/claim/cut.py" (t+2),.int l 0,.int p 0,.int 0 0,.int 0 0,.int 3 0,.ref r8,.bool true,.int k10 0,.ref r11,v12,v13,v14,.ref r15,.int k16 0,.int l 0,vS "/claim/cut.py" t18] }
abbrev kD' (st:Stmt) (x m:Str) (t c:Nat):FuncData:=PySem.W.fnOf x x (defArgs st) (defBody st) (defScope st) .none .none .none (vS m t) none (.ref c) .none
abbrev kF (st:Stmt) (x m:Str) (t c:Nat):Obj:={ cls:=.type "function",data:=.func (kD' st x m t c) }
theorem fun_kk {K:PySem.W.Frag} {x m:Str} {st:Stmt} {t c f:Nat} (l:K.lookup f=some (kF st x m t c)) (cd:PySem.W.codeIn K (.ref c) x=true) (k:PySem.W.keepIn K (.ref f)=true):Fun K x x st f (kD' st x m t c):=fun_mk l cd k
theorem df_kk {K:PySem.W.Frag} {h:Heap} {mg:Str→Option Value} {x m:Str} {st:Stmt} {t c f:Nat} {ps:List Str} (X:K.In h) (G:h.Ns mainGlobals mg) (l:K.lookup f=some (kF st x m t c)) (cd:PySem.W.codeIn K (.ref c) x=true) (k:PySem.W.keepIn K (.ref f)=true)
  (a:PySem.W.nsIn K mainGlobals x=some (some (.ref f))) (b:∀ us:List Value,us.length=ps.length→bindArgs (kD' st x m t c) ⟨us,[]⟩=pure (ps.zip us)):Df K mg x st ps f (kD' st x m t c):=⟨fun_kk l cd k,.all b,PySem.W.mg_of X G a⟩
def KK:Params→PySem.W.Frag:=fun P=>[(3,{ cls:=.type "dict",data:=.dict #[kE P "__name__" 165 (vS "law_archrow_k30_most_of_kinds" 374),kE P "__doc__" 166 .none,kE P "__package__" 167 .none,kE P "__loader__" 168 (.builtin "__main__.__loader__#opaque"),kE P "__spec__" 169 .none,kE P "__annotations__" 170 (.ref 6),kE P "__builtins__" 171 (.ref 4),kE P "__file__" 173 (vS "/claim/cut.py" 172),kE P "__cached__" 174 .none,kE P "ArchError" 206 (.ref 24),kE P "NoStretch" 222 (.ref 37),kE P "NoGap" 238 (.ref 49),kE P "stretches_rising" 246 (.ref 56),kE P "partners_of" 252 (.ref 61),kE P "parts_left" 261 (.ref 68),kE P "greatest_table" 267 (.ref 73),kE P "number_with" 278 (.ref 80),kE P "least_number" 284 (.ref 85),kE P "best_choices" 290 (.ref 90),kE P "first_greatest" 307 (.ref 97),kE P "most_ties" 316 (.ref 104),kE P "most_of" 326 (.ref 111),kE P "table_of" 333 (.ref 118),kE P "one_each" 339 (.ref 123),kE P "row_of_kinds" 347 (.ref 128),kE P "most_of_kinds" 356 (.ref 135),kE P "check_gap" 363 (.ref 142),kE P "pairs_either_way" 373 (.ref 149),kE P "_law_pot" 382 (.ref 156),kE P "_law_take" 392 (.ref 163),kE P "_law_kinds" 398 (.ref 168),kE P "_law_pairs" 409 (.ref 175),kE P "_law_gap" 416 (.ref 182),kE P "_law_ties" 422 (.ref 187),kE P "_law_most" 428 (.ref 192),kE P "_law_same" 434 (.ref 197),kE P "law" 451 (.ref 204)] 37 }),
 (55,kC "stretches_rising" 241 9 1 52 181 53 .none .none .none 54 244 245),
 (56,kF s_stretches_rising "stretches_rising" "archrow.stretches" 239 55),
 (60,kC "partners_of" 247 11 1 57 181 58 .none .none .none 59 250 251),
 (61,kF s_partners_of "partners_of" "archrow.stretches" 239 60),
 (67,kC "parts_left" 253 17 3 62 181 63 .none (.ref 64) (.ref 65) 66 259 260),
 (68,kF s_parts_left "parts_left" "archrow.stretches" 239 67),
 (72,kC "greatest_table" 262 21 2 69 181 70 .none .none .none 71 265 266),
 (73,kF s_greatest_table "greatest_table" "archrow.stretches" 239 72),
 (79,kC "number_with" 268 28 5 74 181 75 .none (.ref 76) (.ref 77) 78 276 277),
 (80,kF s_number_with "number_with" "archrow.stretches" 239 79),
 (84,kC "least_number" 279 30 5 81 181 82 .none .none .none 83 282 283),
 (85,kF s_least_number "least_number" "archrow.stretches" 239 84),
 (89,kC "best_choices" 285 33 5 86 181 87 .none .none .none 88 288 289),
 (90,kF s_best_choices "best_choices" "archrow.stretches" 239 89),
 (96,kC "first_greatest" 291 39 5 91 181 92 .none (.ref 93) (.ref 94) 95 305 306),
 (97,kF s_first_greatest "first_greatest" "archrow.stretches" 239 96),
 (103,kC "most_ties" 310 52 1 98 181 99 .none (.ref 100) (.ref 101) 102 314 315),
 (104,kF s_most_ties "most_ties" "archrow.kept" 308 103),
 (110,kC "most_of" 317 54 3 105 181 106 .none (.ref 107) (.ref 108) 109 324 325),
 (111,kF s_most_of "most_of" "archrow.kept" 308 110),
 (117,kC "table_of" 327 59 1 112 181 113 .none (.ref 114) (.ref 115) 116 331 332),
 (118,kF s_table_of "table_of" "archrow.kept" 308 117),
 (122,kC "one_each" 334 61 1 119 181 120 .none .none .none 121 337 338),
 (123,kF s_one_each "one_each" "archrow.kept" 308 122),
 (127,kC "row_of_kinds" 342 64 3 124 181 125 .none .none .none 126 345 346),
 (128,kF s_row_of_kinds "row_of_kinds" "archrow.kinds" 340 127),
 (134,kC "most_of_kinds" 348 70 3 129 181 130 .none (.ref 131) (.ref 132) 133 354 355),
 (135,kF s_most_of_kinds "most_of_kinds" "archrow.kinds" 340 134),
 (141,kC "check_gap" 357 72 1 136 181 137 .none (.ref 138) (.ref 139) 140 361 362),
 (142,kF s_check_gap "check_gap" "archrow.kinds" 340 141),
 (148,kC "pairs_either_way" 364 75 1 143 181 144 .none (.ref 145) (.ref 146) 147 371 372),
 (149,kF s_pairs_either_way "pairs_either_way" "archrow.kinds" 340 148),
 (155,kC "_law_pot" 376 82 1 150 181 151 .none (.ref 152) (.ref 153) 154 380 381),
 (156,kF s_law_pot "_law_pot" "law_archrow_k30_most_of_kinds" 374 155),
 (162,kC "_law_take" 383 84 2 157 181 158 .none (.ref 159) (.ref 160) 161 390 391),
 (163,kF s_law_take "_law_take" "law_archrow_k30_most_of_kinds" 374 162),
 (167,kC "_law_kinds" 393 94 1 164 181 165 .none .none .none 166 396 397),
 (168,kF s_law_kinds "_law_kinds" "law_archrow_k30_most_of_kinds" 374 167),
 (174,kC "_law_pairs" 399 103 2 169 181 170 .none (.ref 171) (.ref 172) 173 407 408),
 (175,kF s_law_pairs "_law_pairs" "law_archrow_k30_most_of_kinds" 374 174),
 (181,kC "_law_gap" 410 113 1 176 181 177 .none (.ref 178) (.ref 179) 180 414 415),
 (182,kF s_law_gap "_law_gap" "law_archrow_k30_most_of_kinds" 374 181),
 (186,kC "_law_ties" 417 115 3 183 181 184 .none .none .none 185 420 421),
 (187,kF s_law_ties "_law_ties" "law_archrow_k30_most_of_kinds" 374 186),
 (191,kC "_law_most" 423 124 2 188 181 189 .none .none .none 190 426 427),
 (192,kF s_law_most "_law_most" "law_archrow_k30_most_of_kinds" 374 191),
 (196,kC "_law_same" 429 136 2 193 181 194 .none .none .none 195 432 433),
 (197,kF s_law_same "_law_same" "law_archrow_k30_most_of_kinds" 374 196),
 (203,kC "law" 435 146 1 198 181 199 .none (.ref 200) (.ref 201) 202 449 450),
 (204,kF s_law "law" "law_archrow_k30_most_of_kinds" 374 203)]
abbrev HK:PySem.W.Hook:=PySem.W.kHook KK [3,55,56,60,61,67,68,72,73,79,80,84,85,89,90,96,97,103,104,110,111,117,118,122,123,127,128,134,135,141,142,148,149,155,156,162,163,167,168,174,175,181,182,186,187,191,192,196,197,203,204] (fun _=>by kernel_rfl)
def view:Program:={ PySem.Challenge.pw_archrow_k30_most_of_kinds with main:={ PySem.Challenge.pw_archrow_k30_most_of_kinds.main with body:=[top 1,top 2,top 3,top 5,top 6,top 7,top 8,top 9,top 10,top 11,top 12,top 14,top 15,top 16,top 17,top 19,top 20,top 21,top 22,top 24,top 25,top 26,top 27,top 28,top 29,top 30,top 31,top 32] } }
theorem left:PySem.W.LeftO PySem.Challenge.pw_archrow_k30_most_of_kinds view [] (fun s=>PySem.W.xlAt view [] s && PySem.W.recOk (PySem.W.RowW.records PySem.Challenge.rw_archrow_k30_most_of_kinds.row.toRowW) s) HK.obs HK.val 2906:=fun w=>by kernel_rfl
theorem all_mk {l:PySem.W.OpenLaw} (w:World) (mg:Str→Option Value) (fa:Addr) (h:Heap) (X:(KK w.params).In h) (G:h.Ns mainGlobals mg) (hfa:mg "law" = some (.ref fa))   :∃ fd:FuncData,(∀ (s:Shared) (v:Value),BindsTo s fd ⟨[v],[]⟩ [("script",v)])∧∀ base:Heap,(KK w.params).In base→base.Ns mainGlobals mg→FnOk l.prog w (KK w.params) mg base CX0 9 fa fd ["script"] (spLaw (KK w.params)):=by
 have e:=hfa.symm.trans (PySem.W.mg_of X G (v:=.ref 204) (by kernel_rfl))
 cases e
 have n_max:=PySem.W.mg_none_of X G (n:="max") (by kernel_rfl)
 have n_min:=PySem.W.mg_none_of X G (n:="min") (by kernel_rfl)
 have n_int:=PySem.W.mg_none_of X G (n:="int") (by kernel_rfl)
 have n_range:=PySem.W.mg_none_of X G (n:="range") (by kernel_rfl)
 have n_sorted:=PySem.W.mg_none_of X G (n:="sorted") (by kernel_rfl)
 have n_set:=PySem.W.mg_none_of X G (n:="set") (by kernel_rfl)
 have n_len:=PySem.W.mg_none_of X G (n:="len") (by kernel_rfl)
 have n_list:=PySem.W.mg_none_of X G (n:="list") (by kernel_rfl)
 have n_isinstance:=PySem.W.mg_none_of X G (n:="isinstance") (by kernel_rfl)
 have n_tuple:=PySem.W.mg_none_of X G (n:="tuple") (by kernel_rfl)
 have n_str:=PySem.W.mg_none_of X G (n:="str") (by kernel_rfl)
 have n_bool:=PySem.W.mg_none_of X G (n:="bool") (by kernel_rfl)
 have n_zip:=PySem.W.mg_none_of X G (n:="zip") (by kernel_rfl)
 have n_enumerate:=PySem.W.mg_none_of X G (n:="enumerate") (by kernel_rfl)
 have n_sum:=PySem.W.mg_none_of X G (n:="sum") (by kernel_rfl)
 have n_dict:=PySem.W.mg_none_of X G (n:="dict") (by kernel_rfl)
 have B:=(⟨⟨⟨n_max,n_min,n_int,n_range,n_sorted,n_set,n_len,n_list⟩,n_isinstance,n_tuple,n_str,n_bool,n_zip,n_enumerate⟩,n_sum⟩:Bs3 mg)
 have BK:=(⟨B.toBs2,n_dict⟩:BsK mg)
 exact ⟨_,fun s v=>.of_eq rfl,fun base _ _=>ok_law (fun_kk (x:="law") (m:="law_archrow_k30_most_of_kinds") (st:=s_law) (t:=374) (c:=203) (f:=204) (by kernel_rfl) (by kernel_rfl) (by kernel_rfl)) B BK (df_kk X G (x:="row_of_kinds") (m:="archrow.kinds") (st:=s_row_of_kinds) (t:=340) (c:=127) (f:=128) (ps:=["kinds","pairs","gap"]) (by kernel_rfl) (by kernel_rfl) (by kernel_rfl) (by kernel_rfl) (len3 fun _ _ _=>rfl))
  (df_kk X G (x:="check_gap") (m:="archrow.kinds") (st:=s_check_gap) (t:=340) (c:=141) (f:=142) (ps:=["gap"]) (by kernel_rfl) (by kernel_rfl) (by kernel_rfl) (by kernel_rfl) (len1 fun _=>rfl))
  (df_kk X G (x:="pairs_either_way") (m:="archrow.kinds") (st:=s_pairs_either_way) (t:=340) (c:=148) (f:=149) (ps:=["pairs"]) (by kernel_rfl) (by kernel_rfl) (by kernel_rfl) (by kernel_rfl) (len1 fun _=>rfl))
  (df_kk X G (x:="most_ties") (m:="archrow.kept") (st:=s_most_ties) (t:=308) (c:=103) (f:=104) (ps:=["row"]) (by kernel_rfl) (by kernel_rfl) (by kernel_rfl) (by kernel_rfl) (len1 fun _=>rfl))
  (df_kk X G (x:="most_of") (m:="archrow.kept") (st:=s_most_of) (t:=308) (c:=110) (f:=111) (ps:=["row","i","j"]) (by kernel_rfl) (by kernel_rfl) (by kernel_rfl) (by kernel_rfl) (len3 fun _ _ _=>rfl))
  (df_kk X G (x:="table_of") (m:="archrow.kept") (st:=s_table_of) (t:=308) (c:=117) (f:=118) (ps:=["row"]) (by kernel_rfl) (by kernel_rfl) (by kernel_rfl) (by kernel_rfl) (len1 fun _=>rfl))
  (df_kk X G (x:="greatest_table") (m:="archrow.stretches") (st:=s_greatest_table) (t:=239) (c:=72) (f:=73) (ps:=["row","worth"]) (by kernel_rfl) (by kernel_rfl) (by kernel_rfl) (by kernel_rfl) (len2 fun _ _=>rfl))
  (df_kk X G (x:="partners_of") (m:="archrow.stretches") (st:=s_partners_of) (t:=239) (c:=60) (f:=61) (ps:=["row"]) (by kernel_rfl) (by kernel_rfl) (by kernel_rfl) (by kernel_rfl) (len1 fun _=>rfl))
  (df_kk X G (x:="stretches_rising") (m:="archrow.stretches") (st:=s_stretches_rising) (t:=239) (c:=55) (f:=56) (ps:=["many"]) (by kernel_rfl) (by kernel_rfl) (by kernel_rfl) (by kernel_rfl) (len1 fun _=>rfl))
  (df_kk X G (x:="least_number") (m:="archrow.stretches") (st:=s_least_number) (t:=239) (c:=84) (f:=85) (ps:=["partners","worth","table","i","j"]) (by kernel_rfl) (by kernel_rfl) (by kernel_rfl) (by kernel_rfl) (len5 fun _ _ _ _ _=>rfl))
  (df_kk X G (x:="number_with") (m:="archrow.stretches") (st:=s_number_with) (t:=239) (c:=79) (f:=80) (ps:=["worth","table","i","k","j"]) (by kernel_rfl) (by kernel_rfl) (by kernel_rfl) (by kernel_rfl) (len5 fun _ _ _ _ _=>rfl))
  (df_kk X G (x:="one_each") (m:="archrow.kept") (st:=s_one_each) (t:=308) (c:=122) (f:=123) (ps:=["row"]) (by kernel_rfl) (by kernel_rfl) (by kernel_rfl) (by kernel_rfl) (len1 fun _=>rfl))
  (df_kk X G (x:="first_greatest") (m:="archrow.stretches") (st:=s_first_greatest) (t:=239) (c:=96) (f:=97) (ps:=["row","worth","table","i","j"]) (by kernel_rfl) (by kernel_rfl) (by kernel_rfl) (by kernel_rfl) (len5 fun _ _ _ _ _=>rfl))
  (df_kk X G (x:="best_choices") (m:="archrow.stretches") (st:=s_best_choices) (t:=239) (c:=89) (f:=90) (ps:=["partners","worth","table","i","j"]) (by kernel_rfl) (by kernel_rfl) (by kernel_rfl) (by kernel_rfl) (len5 fun _ _ _ _ _=>rfl))
  (df_kk X G (x:="parts_left") (m:="archrow.stretches") (st:=s_parts_left) (t:=239) (c:=67) (f:=68) (ps:=["i","k","j"]) (by kernel_rfl) (by kernel_rfl) (by kernel_rfl) (by kernel_rfl) (len3 fun _ _ _=>rfl))
  (df_kk X G (x:="most_of_kinds") (m:="archrow.kinds") (st:=s_most_of_kinds) (t:=340) (c:=134) (f:=135) (ps:=["kinds","pairs","gap"]) (by kernel_rfl) (by kernel_rfl) (by kernel_rfl) (by kernel_rfl) (len3 fun _ _ _=>rfl))
  (df_kk X G (x:="_law_pot") (m:="law_archrow_k30_most_of_kinds") (st:=s_law_pot) (t:=374) (c:=155) (f:=156) (ps:=["cell"]) (by kernel_rfl) (by kernel_rfl) (by kernel_rfl) (by kernel_rfl) (len1 fun _=>rfl))
  (df_kk X G (x:="_law_take") (m:="law_archrow_k30_most_of_kinds") (st:=s_law_take) (t:=374) (c:=162) (f:=163) (ps:=["pot","many"]) (by kernel_rfl) (by kernel_rfl) (by kernel_rfl) (by kernel_rfl) (len2 fun _ _=>rfl))
  (df_kk X G (x:="_law_kinds") (m:="law_archrow_k30_most_of_kinds") (st:=s_law_kinds) (t:=374) (c:=167) (f:=168) (ps:=["pot"]) (by kernel_rfl) (by kernel_rfl) (by kernel_rfl) (by kernel_rfl) (len1 fun _=>rfl))
  (df_kk X G (x:="_law_pairs") (m:="law_archrow_k30_most_of_kinds") (st:=s_law_pairs) (t:=374) (c:=174) (f:=175) (ps:=["pot","few"]) (by kernel_rfl) (by kernel_rfl) (by kernel_rfl) (by kernel_rfl) (len2 fun _ _=>rfl))
  (df_kk X G (x:="_law_gap") (m:="law_archrow_k30_most_of_kinds") (st:=s_law_gap) (t:=374) (c:=181) (f:=182) (ps:=["pot"]) (by kernel_rfl) (by kernel_rfl) (by kernel_rfl) (by kernel_rfl) (len1 fun _=>rfl))
  (df_kk X G (x:="_law_ties") (m:="law_archrow_k30_most_of_kinds") (st:=s_law_ties) (t:=374) (c:=186) (f:=187) (ps:=["kinds","pairs","gap"]) (by kernel_rfl) (by kernel_rfl) (by kernel_rfl) (by kernel_rfl) (len3 fun _ _ _=>rfl))
  (df_kk X G (x:="_law_most") (m:="law_archrow_k30_most_of_kinds") (st:=s_law_most) (t:=374) (c:=191) (f:=192) (ps:=["many","ties"]) (by kernel_rfl) (by kernel_rfl) (by kernel_rfl) (by kernel_rfl) (len2 fun _ _=>rfl))
  (df_kk X G (x:="_law_same") (m:="law_archrow_k30_most_of_kinds") (st:=s_law_same) (t:=374) (c:=196) (f:=197) (ps:=["found","due"]) (by kernel_rfl) (by kernel_rfl) (by kernel_rfl) (by kernel_rfl) (len2 fun _ _=>rfl))⟩
end K30
abbrev PySem.W.Fast.tw39379393974234927:PySem.Program:=PySem.Challenge.pw_archrow_k30_most_of_kinds
theorem PySem.W.Fast.te39379393974234927:PySem.Challenge.pw_archrow_k30_most_of_kinds=PySem.W.Fast.tw39379393974234927:=rfl
open PySem PySem.W PyProof.Rows
set_option maxRecDepth 100000 in
set_option maxHeartbeats 0 in
theorem PySem.Challenge.cw_archrow_k30_most_of_kinds_holds : PySem.Challenge.rw_archrow_k30_most_of_kinds.Holds := by
 w_on; o_law
 refine holds_open (q:=K30.view) (loose:=[]) (Xt:=fun s=>xlAt K30.view [] s && recOk (RowW.records PySem.Challenge.rw_archrow_k30_most_of_kinds.row.toRowW) s) (XP:=XL K30.view []) (Yf:=K30.HK.obs) (Ya:=K30.HK.val) (YP:=fun w h=>(K30.KK w.params).In h) (N:=2906) K30.left K30.HK.of K30.HK.keeps (fun s e=>xl_of s (Bool.and_eq_true_iff.mp e).1) XL.keeps (by rfl) (by rfl) (by rfl) (fun s e=>recFacts_of (Bool.and_eq_true_iff.mp e).2) (by rfl) (by first | assumption | decide +kernel) (by decide +kernel) ⟨rfl,rfl,rfl,rfl,rfl,by decide +kernel⟩ ?hw ?hc
 (case hw=>w_witness2)
 case hc =>
  exact L2.walk_of (l:=PySem.Challenge.rw_archrow_k30_most_of_kinds) (K:=K30.KK) (n:=63) (k:=9) (x:="script") (CX:=fun _=>L2.CX0) (sp:=fun w=>K30.spLaw (K30.KK w.params)) rfl (by decide) rfl ⟨rfl,by decide,by decide⟩ (fun w h Y=>Y) K30.all_mk (fun _ _ a ns hl _ hS=>⟨a,ns,rfl,hS,hl,fun _=>rfl⟩) fun _ _ _ _ _ z=>z
#print axioms PySem.Challenge.cw_archrow_k30_most_of_kinds_holds
end
